import PyProof.Rows.All
import Wide.All
import OpenK.AllK
import Wide.FinOn
import HandS.ForMost
import HandS.HeadHook4
import HandS.Zip
import HandS.Defaults
import HandS.Wide
import HandS.IsInst
import HandS.NoneIn
import HandS.Style
import HandS.DeepEq
import HandS.Evl
import PyProof.NeKinds
import HandS.TupMul
import PyProof.StrBlock2
import KE.SortKeyHeap
import KE.SortData
import HandS.Lambda
import HandS.EndTab
import HandS.HeadWalk
import HandS.SortKw
import HandS.DictComp
import HandS.Conv
import PyProof.MaxThree
import HandS.Text
import KE.LtData
import PyProof.ReprRoads
import PyProof.ReprReads
import KE.DatumIndex
import HandS.ExcField
import HandS.ExcInit
import HandS.Property
import HandS.MakeKw
import HandS.ExcOwn
import HandS.MakeKwOnly
import HandS.Nested
import HandS.ClsMeth
import HandS.Star
import KE.KSuper
import HandS.WideBits
import KE.KRevSl
import KE.KDictKeyed
import KE.KeyNested
import PyProof.DictMoreH
import HandS.TupLen
import HandS.Small
import HandS.SlotsOwn
import KE.KOpsOwn
import KE.KDictCopyH
import KE.DataEq
import KE.KEqDict
import PyProof.DictFindH
import HandS.More
import PyProof.InstEq
import HandS.Comp
import HandS.Walk
import HandS.HeadNt
import KE.IntBitsLaws
import HandS.TupAny
import HandS.Head0
import HandS.Head1
import HandS.Head2
import HandS.HeadEnd
import PySem.Challenge.RW_kindgrove_k16_both_and_coarse
set_option Elab.async false
set_option linter.all false
set_option maxRecDepth 100000
set_option maxHeartbeats 4000000
namespace CM
open PySem PySem.Spec PyProof.Rows L2
/-- a def of the text, by the module's name of it -/
structure Cal (P : Program) (w : World) (K : PySem.W.Frag) (mg : Str → Option Value) (base : Heap) (CX : CXT) (x : Str) (k : Nat) (ps : List Str) (sp : Sp) : Prop where
  ex : ∃ (f : Addr) (fd : FuncData), FnOk P w K mg base CX k f fd ps sp ∧ Binds K fd ps [] ∧ mg x = some (.ref f) ∧ PySem.W.keepIn K (.ref f) = true
/-- a method of the class at C -/
structure CalM (P : Program) (w : World) (K : PySem.W.Frag) (mg : Str → Option Value) (base : Heap) (CX : CXT) (C : Addr) (x : Str) (k : Nat) (ps : List Str) (sp : Sp) : Prop where
  ex : ∃ (f : Addr) (fd : FuncData), FnOk P w K mg base CX k f fd ps sp ∧ Binds K fd ps [] ∧ Meth K C x f
/-- a value that is equal to itself at once -/
def okV (v : V) : Prop := flatB v = true ∨ ∃ a, v = .ref a
theorem okV_ref (a : Addr) : okV (.ref a) := .inr ⟨a, rfl⟩
theorem okV_int (i : Int) : okV (.int i) := .inl rfl
theorem eqAt_ok {A : Around} {s : Shared} {v : V} {u u' : Value} (h : okV v) (r : RelV v u) (r' : RelV v u') : SeqAt.EqAt A s u u' true := by
  rcases h with f | ⟨a, rfl⟩
  · exact eqAt_same r r' f
  · cases (show u = Value.ref a from r)
    cases (show u' = Value.ref a from r')
    exact SeqAt.EqAt.same _
theorem vals_eqAt {A : Around} {s : Shared} : ∀ {xs : List V} {us ws : List Value}, (∀ v ∈ xs, okV v) → Vals xs us → Vals xs ws → ∀ j (h1 : j < us.length) (h2 : j < ws.length), SeqAt.EqAt A s us[j] ws[j] true
  | [], _, _, _, r1, _, j, h1, _ => by
    cases r1
    exact absurd h1 (Nat.not_lt_zero j)
  | v :: xs, _, _, ok, .cons a1 b1, .cons a2 b2, 0, _, _ => eqAt_ok (ok v (List.mem_cons_self ..)) a1 a2
  | v :: xs, _, _, ok, .cons a1 b1, .cons a2 b2, j + 1, h1, h2 => vals_eqAt (fun z hz => ok z (List.mem_cons_of_mem _ hz)) b1 b2 j (Nat.lt_of_succ_lt_succ h1) (Nat.lt_of_succ_lt_succ h2)
/-! ### what stays -/
theorem same_upd {H : Hp} {p : Addr} {o : HO} (h : H p = none) : Same H (upd H p o) := fun b x e => by
  rw [upd_ne (ne_of_none e h)]
  exact e
theorem same_put {A H : Hp} {p : Addr} {o : HO} (s : Same A H) (h : A p = none) : Same A (upd H p o) := fun b u e => by
  rw [upd_ne (ne_of_none e h)]
  exact s b u e
/-- all but the thing at a stays -/
def Kp (a : Addr) (H H' : Hp) : Prop := ∀ b o, b ≠ a → H b = some o → H' b = some o
theorem Kp.trans {a : Addr} {H H1 H2 : Hp} (x : Kp a H H1) (y : Kp a H1 H2) : Kp a H H2 := fun b o n e => y b o n (x b o n e)
theorem Kp.same {a : Addr} {H H1 : Hp} (s : Same H H1) : Kp a H H1 := fun b o _ e => s b o e
theorem Kp.set {a : Addr} {H : Hp} {o : HO} : Kp a H (upd H a o) := fun b u n e => by
  rw [upd_ne n]
  exact e
theorem Kp.ne {a p : Addr} {H : Hp} {o : HO} (h : H a = some o) (hp : H p = none) : p ≠ a := fun z => by
  rw [z, h] at hp
  cases hp
theorem max_if (i j : Int) : (if j > i then j else i) = max i j := by
  rw [Int.max_def]
  split <;> split <;> omega
theorem min_if (i j : Int) : (if j < i then j else i) = min i j := by
  rw [Int.min_def]
  split <;> split <;> omega
def Tup2 (H : Hp) (p : Addr) (lo hi : Int) : Prop := H p = some (.tup [.int lo, .int hi])
section
variable {X : Cx}
theorem pe_gref {x : Str} {C : Addr} {pos : Pos} (hg : Gl X x) (hm : X.mg x = some (.ref C)) (hdb : (x == ("__debug__" : Str)) = false := by decide) : PE X (.Name x pos) (tC (.ref C)) := pe_glob (v := .ref C) hg hm rfl hdb
/-- a != b of two lists of the very same items -/
def rNeS (K : PySem.W.Frag) : R2 := fun x y H Q => ∃ (a b : Addr) (xs : List V), x = .ref a ∧ y = .ref b ∧ SqL K H a xs ∧ SqL K H b xs ∧ (∀ v ∈ xs, okV v) ∧ Q (.bl false) H
theorem op_neS (hu : X.A.units + 64 < cLine) : OpR X (compareOp .NotEq) (rNeS X.K) := by
  intro pns s σ H x y v u Q I rx ry h
  obtain ⟨a, b, xs, rfl, rfl, ha, hb, ok, q⟩ := h
  cases (show v = Value.ref a from rx)
  cases (show u = Value.ref b from ry)
  obtain ⟨us, r1, p1, _⟩ := I.list ha
  obtain ⟨ws, r2, p2, _⟩ := I.list hb
  have hz : us.toArray.size = ws.toArray.size := by
    rw [List.size_toArray, List.size_toArray, ← r1.length, ← r2.length]
  refine SeqAt.RcNeAt.lists (e := fun _ => true) p1.isList p2.isList hz (by omega) (fun j h1 h2 => ?_) X.prog X.w X.xe _ ?_
  · have z := vals_eqAt (A := X.A.in1) (s := s) ok r1 r2 j (by simpa using h1) (by simpa using h2)
    simpa using z
  · rw [show ((List.range us.toArray.size).all fun _ => true) = true from List.all_eq_true.mpr fun _ _ => rfl]
    exact ⟨.bl false, H, I, rfl, q⟩
/-- a == (), a a tuple -/
def rEqNil (K : PySem.W.Frag) : R2 := fun x y H Q => ∃ (a b : Addr) (xs : List V), x = .ref a ∧ y = .ref b ∧ SqT K H a xs ∧ SqT K H b [] ∧ Q (.bl xs.isEmpty) H
theorem op_eqNil (hu : X.A.units + 64 < cLine) : OpR X (compareOp .Eq) (rEqNil X.K) := by
  intro pns s σ H x y v u Q I rx ry h
  obtain ⟨a, b, xs, rfl, rfl, ha, hb, q⟩ := h
  cases (show v = Value.ref a from rx)
  cases (show u = Value.ref b from ry)
  obtain ⟨us, r1, p1, _⟩ := I.tuple ha
  obtain ⟨ws, r2, p2, _⟩ := I.tuple hb
  cases r2
  refine SeqAt.eq_tupleAt (e := fun _ => true) p1 p2 (by omega) (fun j h1 h2 => absurd h2 (by simp)) ?_
  have e : ((List.range (min us.toArray.size (#[] : Array Value).size)).all (fun _ => true) && us.toArray.size == (#[] : Array Value).size) = xs.isEmpty := by
    rw [List.size_toArray, ← r1.length]
    cases xs <;> simp
  exact ⟨.bl _, H, I, rfl, by rw [e]; exact q⟩
def rStrMul : R2 := fun x y H Q => ∃ (z : Str) (n : Int), x = .str z ∧ y = .int n ∧ MulOk z n ∧ Q (.str (Txt.mul z n)) H
theorem op_strmul : OpR X (binaryOp .Mult) rStrMul := by
  intro pns s σ H x y v u Q I rx ry h
  obtain ⟨z, n, rfl, rfl, ok, q⟩ := h
  obtain ⟨t1, rfl⟩ := rx
  obtain ⟨t2, rfl⟩ := ry
  exact SB.mul ok fun t' k => ⟨.str _, H, I.tok k, ⟨t', rfl⟩, q⟩
/-- a tuple taken many times -/
def rRepM (K : PySem.W.Frag) : R2 := fun x y H Q => ∃ l k xs, x = .ref l ∧ y = .int k ∧ SqT K H l xs ∧ xs ≠ [] ∧ 2 ≤ k ∧ (xs.length : Int) * k ≤ 1000000 ∧ ∀ p, H p = none → Q (.ref p) (upd H p (.tup (List.replicate k.toNat xs).flatten))
theorem op_repM : OpR X (binaryOp .Mult) (rRepM X.K) := by
  intro pns s σ H x y v u Q I rx ry h
  obtain ⟨l, k, xs, rfl, rfl, hT, hne, hlo, hz, q⟩ := h
  cases (show v = Value.ref l from rx)
  obtain ⟨t, rfl⟩ := ry
  obtain ⟨us, r, ⟨⟨cl, di, da, slo⟩, ho, hc, n, hd⟩, hs⟩ := I.tuple hT
  dsimp only at hc hd
  subst hc
  subst hd
  have hle : us.length = xs.length := r.length.symm
  have h0 : us.toArray.isEmpty = false := by
    cases us with
    | nil =>
      cases xs with
      | nil => exact absurd rfl hne
      | cons => cases hle
    | cons _ _ => rfl
  have hsz : us.toArray.size = xs.length := by rw [List.size_toArray, hle]
  have pos : 1 ≤ xs.length := by
    cases xs with
    | nil => exact absurd rfl hne
    | cons => rw [List.length_cons]; omega
  have hk : k ≤ 1000000 := by
    have a1 : (1 : Int) * k ≤ (xs.length : Int) * k := Int.mul_le_mul_of_nonneg_right (by omega) (by omega)
    omega
  have hm : ((us.toArray.size : Nat) : Int) * k ≤ 1000000 := by rw [hsz]; exact hz
  have hflat : (List.replicate k.toNat us).flatten.length ≤ sizeLine := by
    rw [lm_len_rep_flat, hle, sizeLine_eq]
    have a2 : ((k.toNat * xs.length : Nat) : Int) = (xs.length : Int) * k := by
      rw [Int.natCast_mul, Int.toNat_of_nonneg (by omega), Int.mul_comm]
    omega
  have c0 : (decide (k < -(2 ^ 63)) || decide (k ≥ 2 ^ 63)) = false := by
    simp only [Bool.or_eq_false_iff, decide_eq_false_iff_not]
    omega
  have c1 : (us.toArray.isEmpty || k == 1) = false := by
    rw [h0, Bool.false_or, beq_eq_false_iff_ne]
    omega
  have c2 : (decide (k ≤ 0) || us.toArray.isEmpty) = false := by
    rw [h0, Bool.or_false, decide_eq_false_iff_not]
    omega
  have c4 : Builtin.Tuple.tupleTooMany (((us.toArray.size : Nat) : Int) * k) = false := by
    unfold Builtin.Tuple.tupleTooMany
    rw [sizeLine_eq, decide_eq_false_iff_not]
    omega
  have big : (List.foldl (fun x1 x2 => x1 ++ x2) #[] (List.replicate k.toNat us.toArray)).size ≤ sizeLine := by
    rw [size_rep, List.size_toArray]
    exact hflat
  have inner := tuple_mulW l us.toArray n di slo k t c0 c1 c2 (by omega) c4 big
  have outer := int_rmul_tuple k t l us.toArray n di slo
  refine wpAny_binaryOp_repeat_ref (T := "tuple") (U := "int") (by decide) ⟨_, ho, rfl⟩ (fun s1 => typeIs_int s1 k t) noFill_tuple_mul F.fills_int_mul F.slot_int_rmul repeat_tuple F.slot_int_index.lookup ?_
  refine call_meets F.slot_int_rmul (typeIs_int s k t) F.entry_int_rmul (F.args_int_rmul_2 _ _) outer ⟨ho, rfl, ⟨_, ho, rfl⟩, ?_⟩
  refine call_meets F.slot_tuple_mul ⟨_, ho, rfl⟩ F.entry_tuple_mul (F.args_tuple_mul_2 _ _) inner ⟨ho, ?_⟩
  rw [size_rep]
  have hnew : H s.heap.objs.size = none := I.hok.fresh (Nat.le_refl _)
  have hfl2 : (List.replicate k.toNat xs).flatten.length ≤ sizeLine := by
    have z := (r.rep k.toNat).length
    rw [z]
    exact hflat
  exact ⟨.ref s.heap.objs.size, _, I.laid (t' := s.toks) (o := .tup (List.replicate k.toNat xs).flatten) (fun b ob z => Heap.get?_push_of_some _ z) (Nat.le_refl _) ⟨hfl2, _, r.rep k.toNat, IsTup.new _ _⟩, rfl, q _ hnew⟩
/-- a != b of two tuples of the very same items -/
def rNeST (K : PySem.W.Frag) : R2 := fun x y H Q => ∃ (a b : Addr) (xs : List V), x = .ref a ∧ y = .ref b ∧ SqT K H a xs ∧ SqT K H b xs ∧ (∀ v ∈ xs, okV v) ∧ Q (.bl false) H
theorem op_neST (hu : X.A.units + 64 < cLine) : OpR X (compareOp .NotEq) (rNeST X.K) := by
  intro pns s σ H x y v u Q I rx ry h
  obtain ⟨a, b, xs, rfl, rfl, ha, hb, ok, q⟩ := h
  cases (show v = Value.ref a from rx)
  cases (show u = Value.ref b from ry)
  obtain ⟨us, r1, p1, _⟩ := I.tuple ha
  obtain ⟨ws, r2, p2, _⟩ := I.tuple hb
  have hz : us.toArray.size = ws.toArray.size := by
    rw [List.size_toArray, List.size_toArray, ← r1.length, ← r2.length]
  refine SeqAt.RcNeAt.tuples (e := fun _ => true) p1 p2 (by omega) (fun j h1 h2 => ?_) X.prog X.w X.xe _ ?_
  · have z := vals_eqAt (A := X.A.in1) (s := s) ok r1 r2 j (by simpa using h1) (by simpa using h2)
    simpa using z
  · rw [show ((List.range (min us.toArray.size ws.toArray.size)).all fun _ => true) = true from List.all_eq_true.mpr fun _ _ => rfl, hz]
    exact ⟨.bl _, H, I, rfl, by simpa using q⟩
/-- a != b, both of them pairs of ints -/
def rNeI2 (K : PySem.W.Frag) : R2 := fun x y H Q => ∃ (a b : Addr) (i j k l : Int), x = .ref a ∧ y = .ref b ∧ SqT K H a [.int i, .int j] ∧ SqT K H b [.int k, .int l] ∧ Q (.bl (!decide (i = k ∧ j = l))) H
theorem op_neI2 (hu : X.A.units + 64 < cLine) : OpR X (compareOp .NotEq) (rNeI2 X.K) := by
  intro pns s σ H x y v u Q I rx ry h
  obtain ⟨a, b, i, j, k, l, rfl, rfl, ha, hb, q⟩ := h
  cases (show v = Value.ref a from rx)
  cases (show u = Value.ref b from ry)
  obtain ⟨us, r1, p1, _⟩ := I.tuple ha
  obtain ⟨ws, r2, p2, _⟩ := I.tuple hb
  obtain ⟨u1, u2, rfl, ⟨t1, rfl⟩, ⟨t2, rfl⟩⟩ := vals2 r1
  obtain ⟨w1, w2, rfl, ⟨t3, rfl⟩, ⟨t4, rfl⟩⟩ := vals2 r2
  refine SeqAt.RcNeAt.tuples (e := fun n => if n = 0 then i == k else j == l) p1 p2 (by omega) (fun n h1 h2 => ?_) X.prog X.w X.xe _ ?_
  · match n, h1, h2 with
    | 0, _, _ => exact SeqAt.EqAt.int_int i t1 k t3
    | 1, _, _ => exact SeqAt.EqAt.int_int j t2 l t4
    | n + 2, h1, _ => exact absurd h1 (by simp)
  · have e : (!((List.range (min [Value.int i t1, Value.int j t2].toArray.size [Value.int k t3, Value.int l t4].toArray.size)).all (fun n => if n = 0 then i == k else j == l) && [Value.int i t1, Value.int j t2].toArray.size == [Value.int k t3, Value.int l t4].toArray.size)) = !decide (i = k ∧ j = l) := by
      show (!((List.range 2).all (fun n => if n = 0 then i == k else j == l) && true)) = _
      rw [show List.range 2 = [0, 1] from rfl]
      by_cases e1 : i = k <;> by_cases e2 : j = l <;> simp [e1, e2]
    rw [e]
    exact ⟨.bl _, H, I, rfl, q⟩
/-- a == b of two lists of the very same items -/
def rEqS (K : PySem.W.Frag) : R2 := fun x y H Q => ∃ (a b : Addr) (xs : List V), x = .ref a ∧ y = .ref b ∧ SqL K H a xs ∧ SqL K H b xs ∧ (∀ v ∈ xs, okV v) ∧ Q (.bl true) H
theorem op_eqS (hu : X.A.units + 64 < cLine) : OpR X (compareOp .Eq) (rEqS X.K) := by
  intro pns s σ H x y v u Q I rx ry h
  obtain ⟨a, b, xs, rfl, rfl, ha, hb, ok, q⟩ := h
  cases (show v = Value.ref a from rx)
  cases (show u = Value.ref b from ry)
  obtain ⟨us, r1, p1, _⟩ := I.list ha
  obtain ⟨ws, r2, p2, _⟩ := I.list hb
  have hz : us.toArray.size = ws.toArray.size := by
    rw [List.size_toArray, List.size_toArray, ← r1.length, ← r2.length]
  refine SeqAt.eq_listAt (e := fun _ => true) p1.isList p2.isList hz (by omega) (fun j h1 h2 => ?_) ?_
  · have z := vals_eqAt (A := X.A.in1) (s := s) ok r1 r2 j (by simpa using h1) (by simpa using h2)
    simpa using z
  · rw [show ((List.range us.toArray.size).all fun _ => true) = true from List.all_eq_true.mpr fun _ _ => rfl]
    exact ⟨.bl true, H, I, rfl, q⟩
/-- a != [], a a list -/
def rNeNil (K : PySem.W.Frag) : R2 := fun x y H Q => ∃ (a b : Addr) (xs : List V), x = .ref a ∧ y = .ref b ∧ SqL K H a xs ∧ SqL K H b [] ∧ Q (.bl (!xs.isEmpty)) H
theorem op_neNil (hu : X.A.units + 64 < cLine) : OpR X (compareOp .NotEq) (rNeNil X.K) := by
  intro pns s σ H x y v u Q I rx ry h
  obtain ⟨a, b, xs, rfl, rfl, ha, hb, q⟩ := h
  cases (show v = Value.ref a from rx)
  cases (show u = Value.ref b from ry)
  obtain ⟨us, r1, p1, _⟩ := I.list ha
  obtain ⟨ws, r2, p2, _⟩ := I.list hb
  cases r2
  cases r1 with
  | nil => exact SeqAt.RcNeAt.lists (e := fun _ => true) p1.isList p2.isList rfl (by omega) (fun j h1 h2 => absurd h2 (by simp)) X.prog X.w X.xe _ ⟨.bl false, H, I, rfl, q⟩
  | cons a1 b1 => exact SeqAt.RcNeAt.lists_lengths p1.isList p2.isList (by simp) (by omega) X.prog X.w X.xe _ ⟨.bl true, H, I, rfl, q⟩
/-- how many unlike ints a list has -/
def unlike (ns : List Int) : Nat := (firstMet (fun i => ns.getD i 0) ns.length).length
def tUnlike (K : PySem.W.Frag) (ta : TE) : TE := fun σ H Q => ta σ H fun x G => ∃ (l : Addr) (ns : List Int), x = .ref l ∧ SqL K G l (ns.map V.int) ∧ ns.length ≤ 4000 ∧ Q (.int (unlike ns : Nat)) G
theorem pe_unlike {e : Expr} {ta : TE} {p1 p2 p3 p4 : Pos} (hg : Gl X "len") (hm : X.mg "len" = none) (hg2 : Gl X "set") (hm2 : X.mg "set" = none) (ha : PE X e ta) (hc : X.calm = true := by rfl)
    (na : starEach [e] X.env = (false, eval e X.env) :: starEach [] X.env := by rfl) : PE X (.Call (.Name "len" p1) [.Call (.Name "set" p2) [e] [] p3] [] p4) (tUnlike X.K ta) := by
  refine ⟨fun pns s σ H Q I h => Call_ (ld_blt I hg hm PySem.boot_len (callWith_builtin1 (args_cons (Call_ (ld_blt I hg2 hm2 boot_set (callWith_type1 (args_cons (thn (ha.run pns s σ H _ I h) ?_) na) na rfl))) rfl) rfl rfl))⟩
  rintro v t ⟨x, G, J, r, l, ns, rfl, hq, hl, q⟩
  cases r
  obtain ⟨us, rv, pl, _⟩ := J.list hq
  have hz : us.toArray.size = ns.length := by rw [List.size_toArray, ← rv.length, List.length_map]
  refine args_nil (call_set_list (J.ok.hd hc) pl.isList (ns := ns) (by simpa using RZ.intsAre_vals rv) (by rw [hz]; unfold scanBound; omega) fun h' tk hS hk => args_nil ?_)
  rw [hz] at hS
  obtain ⟨o, es, ep, tb, ho, hex, hd, _, _, _, hf, hn⟩ := hS
  have hle := firstMet_length_le (fun i => ns.getD i 0) ns.length
  have J2 : Inv X pns σ G { t with heap := h', toks := tk } := J.kept fun b o e => hk b o (Heap.lt_size e) e
  exact call_len_set ho hex hd hf (by rw [hn]; omega) ⟨.int (unlike ns : Nat), G, J2.tok _, ⟨_, by rw [hn]; rfl⟩, q⟩
/-- a class without an __init__ -/
structure MkO (K : PySem.W.Frag) (C : Addr) : Prop where
  makes : PySem.W.makesIn K C = true
  init : PySem.W.findIn K (.ref C) "__init__" = some (some (.builtin "object.__init__"))
  kp : PySem.W.keepIn K (.ref C) = true
  ob : PySem.W.mroIn K C (.type "object") = some true
def mkoB (K : PySem.W.Frag) (C : Addr) : Bool := PySem.W.makesIn K C && (He.eqO (PySem.W.findIn K (.ref C) "__init__") (some (some (.builtin "object.__init__"))) && (PySem.W.keepIn K (.ref C) && decide (PySem.W.mroIn K C (.type "object") = some true)))
theorem mkoB_ok {K : PySem.W.Frag} {C : Addr} (h : mkoB K C = true) : MkO K C := by
  obtain ⟨h1, h⟩ := He.ba h
  obtain ⟨h2, h⟩ := He.ba h
  obtain ⟨h3, h4⟩ := He.ba h
  exact ⟨h1, He.eqO_ok h2, h3, of_decide_eq_true h4⟩
theorem pe_make00 {C : Addr} {x : Str} {p pos : Pos} (M : MkO X.K C) (hg : Gl X x) (hm : X.mg x = some (.ref C)) (hdb : (x == ("__debug__" : Str)) = false := by decide) :
    PE X (.Call (.Name x p) [] [] pos) (fun σ H Q => ∀ x dx, H x = none → H dx = none → dx ≠ x → Q (.ref x) (upd (upd H dx (.own x)) x (.ins C dx []))) := by
  refine ⟨fun pns s σ H Q I h => wpAny_Call_Name_kw (ld_glob I hg hm ?_ hdb)⟩
  refine PySem.W.callWith_K0 I.kIn M.kp ?_
  show wpAny _ _ (call (.ref C) []) _ _ _
  have hq := h (s.heap.objs.size + 1) s.heap.objs.size (I.hok.fresh (Nat.le_succ _)) (I.hok.fresh (Nat.le_refl _)) (Nat.ne_of_lt (Nat.lt_succ_self _))
  have J := Inv.made (C := C) I
  refine wpAny_call (make_map0 I.kIn M.makes M.init (fun me => PySem.W.Looks.of_pure (PySem.W.oi_bind me)) ?_)
  have ho : ((s.heap.push PySem.W.emptyDict).push (PySem.W.instObj C s.heap.objs.size)).get? (s.heap.objs.size + 1) = some (PySem.W.instObj C s.heap.objs.size) := by
    have z := Heap.get?_push_size (s.heap.push PySem.W.emptyDict) (o := PySem.W.instObj C s.heap.objs.size) rfl
    rw [Heap.size_push] at z
    exact z
  have t1 : PySem.W.Looks (model X.prog X.w) ((s.heap.push PySem.W.emptyDict).push (PySem.W.instObj C s.heap.objs.size)) (typeOf (.ref (s.heap.objs.size + 1))) (.ref C) := (PySem.W.Looks.ld ho).andThen .now
  have t2 : PySem.W.Looks (model X.prog X.w) ((s.heap.push PySem.W.emptyDict).push (PySem.W.instObj C s.heap.objs.size)) (isInstance (.ref (s.heap.objs.size + 1)) (.type "object")) true := t1.andThen (PySem.W.looks_mroIn J.kIn M.ob)
  refine codeAny_call_builtin PySem.W.oi_plain PySem.W.entry_oi (PySem.W.check_slot PySem.W.oi_kind PySem.W.oi_split t2 (PySem.W.oi_args (.ref (s.heap.objs.size + 1))) ?_)
  rw [PySem.W.oi_run]
  exact wpAny_pure ⟨rfl, ⟨V.ref (s.heap.objs.size + 1), _, J, rfl, hq⟩⟩
/-! ### within a comprehension: the written part by its name -/
theorem ix_listK {K : PySem.W.Frag} (h : X.K = K := by rfl) : IxR X (rIxL K) := by
  subst h
  exact ix_list
theorem ix_tupK {K : PySem.W.Frag} (h : X.K = K := by rfl) : IxR X (rIxT K) := by
  subst h
  exact ix_tup
theorem pg_tupK {K : PySem.W.Frag} {n : Nat} {es : List Expr} {k : Nat} {t : TGs} (hc : X.calm = true) (h : PGs X es t) (hK : X.K = K := by rfl)
    (hn : (assignEach es X.env).length = n := by rfl) (hst : (assignEach es X.env).findIdx? (·.1) = none := by rfl) : PG X (.Tuple es k pos) (gTup K n t) := by
  subst hK
  exact pg_tup hc h hn hst
theorem op_ltTK {K : PySem.W.Frag} (hu : X.A.units < cLine) (h : X.K = K := by rfl) : OpR X (compareOp .Lt) (rLtT K) := by
  subst h
  exact op_ltT hu
end
end CM
set_option Elab.async false
set_option linter.all false
set_option maxRecDepth 100000
set_option maxHeartbeats 4000000
namespace SL
open PySem PySem.Spec PyProof.Rows L2 CM LamX
/-! ### a def whose code object is told -/
section
variable {P : Program} {w : World} {K : PySem.W.Frag} {mg : Str → Option Value} {base : Heap} {x qual : Str} {params : Arguments} {body : List Stmt} {scope : Scope} {dvs : List V} {kws : List (Str × V)} {fd : FuncData}
theorem okC {CX : CXT} {N ps : List Str} {k : Nat} {sp : Sp} {p : He.Defn} (F : FunD K x qual params body scope dvs kws (He.fAd K p) fd) (S : FnScope N ps scope) (len : ∀ vs H Q E, sp vs H Q E → vs.length = ps.length)
    (hbody : ∀ (A : Around) (outer : List Env) (s : Shared) (H : Hp) (vs : List V) (Q : VK) (E : XK), Room k (A.deeper (envOfC qual scope s.heap.objs.size (He.fAd K p) (.ref (He.codeOf K p)))) → sp vs H Q E →
      ∃ t, PSs (cxOf CX P w K mg base N qual scope (He.fAd K p) (.ref (He.codeOf K p)) A outer s H E) body t ∧ t { nx := fun _ H' => Q .non H', rt := Q } (start N vs) H) : FnOk P w K mg base CX (k + 1) (He.fAd K p) fd ps sp := by
  obtain ⟨oc, od, dV, kV, doc, pm, an, cdv, ct, osl, rfl, lk, hcd, _, _⟩ := F.ex
  obtain ⟨c, rfl⟩ := He.codeIn_ref hcd
  have e : He.codeOf K p = c := He.codeOf_eq lk rfl
  rw [e] at hbody
  exact fn_of lk hcd S len hbody
end
/-! ### a lambda of one parameter, called: its key alone is asked, the heap grows -/
/-- one parameter of its own, captured names, globals -/
structure Lam1 (sc scope : Scope) (x : Str) : Prop where
  kind : scope.kind = .function
  co : scope.isCoroutine = false
  gen : scope.isGenerator = false
  par : scope.names.lookup x = some .local
  nocell : ∀ y ∈ scope.names, y.2 ≠ .cell
  free : ∀ y ∈ scope.names, y.2 = .free → sc.names.lookup y.1 = some .cell ∨ sc.names.lookup y.1 = some .free
def lam1B (sc scope : Scope) (x : Str) : Bool :=
  decide (scope.kind = .function) && (!scope.isCoroutine && (!scope.isGenerator && (decide (scope.names.lookup x = some .local) && ((scope.names.all fun y => !decide (y.2 = .cell)) && (scope.names.all fun y => !decide (y.2 = .free) || decide (sc.names.lookup y.1 = some .cell) || decide (sc.names.lookup y.1 = some .free))))))
theorem lam1_by {sc scope : Scope} {x : Str} (h : lam1B sc scope x = true) : Lam1 sc scope x := by
  unfold lam1B at h
  simp only [Bool.and_eq_true, Bool.or_eq_true, Bool.not_eq_true', decide_eq_true_eq, decide_eq_false_iff_not, List.all_eq_true] at h
  obtain ⟨h1, h2, h3, h4, h5, h6⟩ := h
  refine ⟨h1, h2, h3, h4, h5, fun y hy e => ?_⟩
  rcases h6 y hy with (z | z) | z
  · exact absurd e z
  · exact .inl z
  · exact .inr z
theorem Lam1.has {X : Cx} {scope : Scope} {x : Str} (L : Lam1 X.env.scope scope x) (ok : X.Ok) : ∀ y ∈ scope.names, y.2 = .free → ∃ c, X.env.cells.lookup y.1 = some c := fun y hy e =>
  (L.free y hy e).elim (fun z => ok.has _ (.inl z)) fun z => ok.has _ (.inr z)
section
variable {prog : Program} {w : World} {A : Around} {s : Shared}
theorem lam_call {sc : Scope} {f c' : Addr} {x : Str} {params : Arguments} {body : Expr} {scope : Scope} {cl : List (Str × Addr)} {pm ctv v : Value} {qual : Str} {k : PyData} (L : Lam1 sc scope x)
    (hroom : A.depth < recursionLimit) (hf : s.heap.get? f = some (PySem.W.kla_obj "<lambda>" qual params body scope cl pm c' ctv)) (hcd : s.heap.CodeRec (.ref c') qual) (lim : s.heap.NoLimit)
    (hbind : bindArgs (PySem.W.kla_fn "<lambda>" qual params body scope cl pm (.ref c') ctv) ⟨[v], []⟩ = pure [(x, v)])
    (h : ∀ (D : Addr) (g : Heap) (tk : Nat), (∀ b o, s.heap.get? b = some o → g.get? b = some o) → g.Ns D (fun y => [(x, v)].reverse.lookup y) →
      wpAny (model prog w) (A.deeper (PySem.W.envX qual scope D f (.ref c') cl)) (eval body (PySem.W.envX qual scope D f (.ref c') cl)) (PySem.W.KeyPure k { s with heap := g, toks := tk }) (fun _ _ => False) { s with heap := g, toks := tk }) :
    wpAny (model prog w) A (call (.ref f) [v]) (PySem.W.KeyPure k s) (fun _ _ => False) s := by
  refine wpAny_call (PySem.W.kla_callFunE hroom hf rfl L.co L.gen rfl hcd ?_)
  rw [hbind]
  refine wpAny_pure (wpAny_newFunctionEnv L.nocell (fun y hy => ?_) (fun g hns hsb => ⟨lim.fresh _ hsb, ?_⟩) L.kind)
  · rw [List.mem_singleton.mp hy]
    exact L.par
  · have up : ∀ b o, s.heap.get? b = some o → g.get? b = some o := fun b o e => hsb.extBut b o (Nat.ne_of_lt (Heap.lt_size e)) (Heap.get?_push_of_some _ e)
    refine PySem.W.kla_codeExpr (wpAny_mono (h _ g _ up hns) (fun u t ⟨g2, tk, e, up2, rd⟩ => ?_) fun _ _ z => z.elim)
    exact ⟨g2, tk, e, fun b o q => up2 b o (up b o q), rd⟩
end
/-! ### sorted(e, key=lambda x: body) -/
/-- what stands at the captured names: cells of the running frame, their values -/
def CapAt (X : Cx) (σ : L2.St) (g : Heap) (cl : List (Str × Addr)) : Prop := ∀ (i : Nat) (y : Str) (v : V), X.N[i]? = some y → σ[i]? = some (some v) → (∃ c, cl.lookup y = some c) → ∃ c u, cl.lookup y = some c ∧ RelV v u ∧ g.IsCell c (some u)
theorem capAt_of {X : Cx} {pins : List (Addr × Obj)} {σ : L2.St} {H : Hp} {s : Shared} {scope : Scope} {x : Str} (I : Inv X pins σ H s) (L : Lam1 X.env.scope scope x) : CapAt X σ s.heap (cloFrom X.env.cells scope.names []) := by
  intro i y v hi hv ⟨c, hc⟩
  have hm : (y, NameKind.free) ∈ scope.names := by
    rcases cloFrom_mem (PySem.mem_of_lookup hc) with hm | ⟨h1, _⟩
    · cases hm
    · exact h1
  have hk := L.free _ hm rfl
  obtain ⟨m, _, hl⟩ := I.loc
  obtain ⟨u, r, q⟩ := hl i y v hi hv (hk.elim (fun z => .inr (.inl z)) fun z => .inr (.inr z))
  rcases q with ⟨z, _⟩ | ⟨_, c2, hc2, cell⟩
  · have z : X.env.scope.names.lookup y = some .local := z
    rcases hk with k | k <;> rw [show X.env.scope.names.lookup y = _ from k] at z <;> cases z
  · refine ⟨c, u, hc, r, ?_⟩
    have hc' : (y, c) ∈ cloFrom X.env.cells scope.names [] := PySem.mem_of_lookup hc
    rcases cloFrom_mem hc' with hm | ⟨_, e⟩
    · cases hm
    · rw [e, hc2]
      exact cell
/-- the key's reckoning: k, for the item v, wherever the heap has grown -/
def KeyRun (X : Cx) (σ : L2.St) (body : Expr) (scope : Scope) (x : Str) (s : Shared) (H : Hp) (v : Value) (k : PyData) : Prop :=
  ∀ (A : Around) (qual : Str) (f c' D : Addr) (cl : List (Str × Addr)) (g : Heap) (tk : Nat), X.A.units ≤ A.units → (∀ b o, s.heap.get? b = some o → g.get? b = some o) → CapAt X σ g cl → (∀ y, scope.names.lookup y = some .free → ∃ c, cl.lookup y = some c) →
    g.Ns D (fun y => [(x, v)].reverse.lookup y) → wpAny (model X.prog X.w) A (eval body (PySem.W.envX qual scope D f (.ref c') cl)) (PySem.W.KeyPure k { s with heap := g, toks := tk }) (fun _ _ => False) { s with heap := g, toks := tk }
/-- the reading -/
def tSortL {β : Type} (X : Cx) (T : List (Addr × Str)) (body : Expr) (scope : Scope) (x : Str) (ta : TE) : TE := fun σ H Q => ta σ H fun u H1 => Tabs T H1 ∧ ∃ (l : Addr) (bs : List β) (vf : β → V) (kf : β → PyData), u = .ref l ∧ SqL X.K H1 l (bs.map vf) ∧
  (∀ b ∈ bs, ∀ d ∈ bs, PySem.W.alike (kf b) (kf d) = true) ∧ PySem.W.Sortable (bs.map kf) ∧ (∀ b ∈ bs, (kf b).depth ≤ 60) ∧
  (∀ (pins : List (Addr × Obj)) (s : Shared) (H2 : Hp) (b : β) (v : Value), Inv X pins σ H2 s → ExtN H1 H2 → b ∈ bs → RelV (vf b) v → KeyRun X σ body scope x s H2 v (kf b)) ∧
  ∀ (D : Addr) (H2 : Hp), ExtN H1 H2 → (∀ o, H1 D = some o → ∃ ps, o = .tbl ps) → Tabs T H2 → H2 D = some (.lst ((bs.mergeSort (PySem.W.dataLe false kf)).map vf)) → Q (.ref D) H2
theorem each_of_vals {β : Type} {vf : β → V} : ∀ {bs : List β} {us : List Value}, Vals (bs.map vf) us → PySem.W.EachIs (fun v b => RelV (vf b) v) us bs
  | [], _, .nil => .nil
  | b :: bs, _, .cons r t => .cons r (each_of_vals t)
theorem vals_of_each {β : Type} {vf : β → V} : ∀ {bs : List β} {us : List Value}, PySem.W.EachIs (fun v b => RelV (vf b) v) us bs → Vals (bs.map vf) us
  | [], _, .nil => .nil
  | b :: bs, _, .cons r t => .cons r (vals_of_each t)
section
variable {X : Cx}
theorem pe_sortL {β : Type} {T : List (Addr × Str)} {c P : Addr} {a : Expr} {ta : TE} {params : Arguments} {body : Expr} {scope : Scope} {x : Str} {k : Nat} {lpos kpos p1 pos : Pos} (hr : Room k X.A) (TB : TabB X.base X.mg c P) (hcode : X.env.code = .ref c)
    (hmT : (P, X.env.qual ++ "<lambda>") ∈ T) (hu : ∀ p ∈ T, p.1 = P → p.2 = X.env.qual ++ "<lambda>") (L : Lam1 X.env.scope scope x) (hdef : defaultsOf params X.env = ([], []))
    (hbind : ∀ (q : Str) (cl : List (Str × Addr)) (pm cv ctv v : Value), bindArgs (PySem.W.kla_fn "<lambda>" q params body scope cl pm cv ctv) ⟨[v], []⟩ = pure [(x, v)])
    (hg : Gl X "sorted") (hm : X.mg "sorted" = none) (ha : PE X a ta)
    (he : backTo pos (starEach [a] X.env) = (false, eval a X.env) :: backTo pos (starEach [] X.env) := by rfl) (hpl : (backTo pos (starEach [a] X.env)).any (·.1) = false := by rfl) :
    PE X (.Call (.Name "sorted" p1) [a] [⟨some "key", .Lambda params body scope lpos, kpos⟩] pos) (tSortL (β := β) X T body scope x ta) := by
  refine ⟨fun pins s σ H Q I h => ?_⟩
  refine wpAny_Call_Name_kw (ld_blt I hg hm (show bootBuiltins "sorted" = some (.builtin "sorted") by decide +kernel) ?_ (by decide) (by decide))
  refine PyProof.Rows.callWith_kw ?_ he hpl (by rfl) (by rfl)
  rw [he]
  refine Calls.spliced_cons (thn (ha.run pins s σ H _ I h) fun u s1 ⟨v0, H1, I1, r1, hT, l, bs, vf, kf, e0, hS, al, so, dp, kr, q⟩ => Calls.spliced_nil ?_)
  subst e0
  obtain rfl : u = Value.ref l := r1
  show wpAny _ _ (evalAll ((do let v ← eval (.Lambda params body scope lpos) X.env; standAt pos; pure v) :: [])) _ _ s1
  refine wpAny_evalAll_cons (wpAny_bind (lam_make2 I1 TB hcode hmT hu hT hdef (L.has I1.ok) fun f c' pm ctv H2 s2 I2 eN T2 hf hfn hfr hco => wpAny_bind (wpAny_standAt (wpAny_pure (wpAny_evalAll_nil ?_)))))
  show wpAny _ _ (call (.builtin "sorted") [.ref l] [(Str.ofString "key", .ref f)]) _ _ s2
  have hS2 : SqL X.K H2 l (bs.map vf) := by
    rcases hS with hS | hS
    · rcases hS with hS | ⟨o, hS⟩
      · exact .inl (.inl (eN _ _ hS fun ps z => by cases z))
      · exact .inl (.inr ⟨o, eN _ _ hS fun ps z => by cases z⟩)
    · exact .inr hS
  obtain ⟨its, rv, hl, hz⟩ := I2.list hS2
  rw [List.length_map] at hz
  have hcr := (show ∃ (oc : Obj) (vs : Array Value) (t : Tok), s2.heap.get? c' = some oc ∧ oc.data = .fields vs ∧ vs[1]? = some (.str (X.env.qual ++ "<lambda>") t) from (I2.hok c' _ hco).1)
  have ea := each_of_vals rv
  refine PySem.W.sorted_key_data (b := false) (bs := bs) (R := fun v b => RelV (vf b) v) kf hl.isList ea ?_ so hz (fun b hb => ?_) (PyProof.Rows.ksk_s1 _ _) (fun _ => PyProof.Rows.ksk_l1 _ _) (fun _ => PyProof.Rows.ksk_t1 _ _)
    (fun v b rb hb g tk up => ?_) fun out cc g tk up hD hD2 hlen eo => ?_
  · intro d hd e he
    obtain ⟨b, hb, rfl⟩ := List.mem_map.mp hd
    obtain ⟨b2, hb2, rfl⟩ := List.mem_map.mp he
    exact al b hb b2 hb2
  · have z1 := hr.units
    have z2 := dp b hb
    omega
  · have I3 : Inv X pins σ H2 { s2 with heap := g, toks := tk } := I2.kept up
    obtain ⟨oc, vs, t, h1, h2, h3⟩ := hcr
    refine lam_call L (by show X.A.depth < _; exact hr.depth) (up _ _ hf) ⟨c', oc, vs, t, rfl, up _ _ h1, h2, h3⟩ I3.nolimit (hbind _ _ _ _ _ _) fun D g2 tk2 up2 hns => ?_
    refine kr pins _ H2 b v I3 eN hb rb _ _ _ _ _ _ g2 tk2 (by show X.A.units ≤ X.A.units + 1 + 1 + 3; omega) up2 ?_ (fun y hy => ?_) hns
    · intro i y w hi hw hc
      obtain ⟨c0, u0, a1, a2, o, a3, a4⟩ := capAt_of I3 L i y w hi hw hc
      exact ⟨c0, u0, a1, a2, o, up2 _ _ a3, a4⟩
    · exact mem_lookup (cloFrom_has (cells := X.env.cells) (acc := []) (PySem.mem_of_lookup hy))
  · have hlen2 : ((bs.mergeSort (PySem.W.dataLe false kf)).map vf).length ≤ sizeLine := by
      rw [List.length_map, List.length_mergeSort]
      exact hz
    have hnew : H2 (s2.heap.objs.size + 1) = none := I2.hok.fresh (Nat.le_succ _)
    have vo := vals_of_each eo
    refine ⟨.ref (s2.heap.objs.size + 1), upd H2 (s2.heap.objs.size + 1) (.lst ((bs.mergeSort (PySem.W.dataLe false kf)).map vf)), I2.laid (t' := tk) up (Nat.le_succ _) ⟨hlen2, out, cc, vo, hD2⟩, rfl, ?_⟩
    refine q _ _ (fun b o e n => ?_) (fun o e1 => ?_) (T2.ext fun b o e => ?_) upd_same
    · rw [upd_ne (ne_of_none (eN _ _ e n) hnew)]
      exact eN _ _ e n
    · cases o with
      | tbl ps => exact ⟨ps, rfl⟩
      | _ =>
        rw [eN _ _ e1 (fun ps z => by cases z)] at hnew
        cases hnew
    · rw [upd_ne (ne_of_none e hnew)]
      exact e
end
end SL
set_option Elab.async false
set_option linter.all false
set_option maxRecDepth 100000
set_option maxHeartbeats 4000000
namespace SL
open PySem PySem.Spec PyProof.Rows L2 CM LamX
/-! ### tables stay -/
theorem Tabs.kp {T : List (Addr × Str)} {a : Addr} {xs : List V} {H H' : Hp} (t : Tabs T H) (ha : H a = some (.lst xs)) (k : Kp a H H') : Tabs T H' := fun p hp => by
  obtain ⟨ps, h1, h2, h3⟩ := t p hp
  have ne : ∀ {b : Addr} {o : HO}, H b = some o → (∀ ys, o ≠ .lst ys) → b ≠ a := fun {b o} e n z => by
    rw [z, ha] at e
    exact n xs (Option.some.inj e).symm
  refine ⟨ps, k _ _ (ne h1 fun ys z => by cases z) h1, h2, fun pos cv hc => ?_⟩
  obtain ⟨c, e1, e2⟩ := h3 pos cv hc
  exact ⟨c, e1, k _ _ (ne e2 fun ys z => by unfold CodeO at z; cases z) e2⟩
theorem Tabs.same {T : List (Addr × Str)} {H H' : Hp} (t : Tabs T H) (s : Same H H') : Tabs T H' := t.ext s
/-- all but the thing at a and the tables stays -/
def KpN (a : Addr) (H H' : Hp) : Prop := ∀ b o, b ≠ a → (∀ ps, o ≠ .tbl ps) → H b = some o → H' b = some o
theorem KpN.of {a : Addr} {H H' : Hp} (k : Kp a H H') : KpN a H H' := fun b o n _ e => k b o n e
theorem KpN.ext {a : Addr} {H H' : Hp} (k : ExtN H H') : KpN a H H' := fun b o _ n e => k b o e n
theorem KpN.trans {a : Addr} {H H1 H2 : Hp} (x : KpN a H H1) (y : KpN a H1 H2) : KpN a H H2 := fun b o n m e => y b o n m (x b o n m e)
theorem ExtN.of_same {H H' : Hp} (s : Same H H') : ExtN H H' := fun b o e _ => s b o e
theorem ExtN.seqL {K : PySem.W.Frag} {H H' : Hp} {a : Addr} {xs : List V} (e : ExtN H H') (h : SqL K H a xs) : SqL K H' a xs := by
  rcases h with (h | ⟨o, h⟩) | h
  · exact .inl (.inl (e _ _ h fun ps z => by cases z))
  · exact .inl (.inr ⟨o, e _ _ h fun ps z => by cases z⟩)
  · exact .inr h
theorem one_tab {P P' : Addr} {q q' : Str} (e : q = q') : ∀ p ∈ [(P', q)], p.1 = P → p.2 = q' := fun p hp _ => by rw [List.mem_singleton.mp hp]; exact e
/-! ### the key (m[x], x) -/
/-- a leaf as data -/
inductive LeafD : V → PyData → Prop where
  | int (i : Int) : LeafD (.int i) (.int i)
  | str (z : Str) : LeafD (.str z) (.str z)
theorem LeafD.reads {w : V} {d : PyData} {u : Value} {h : Heap} (l : LeafD w d) (r : RelV w u) : Reads h u d [] := by
  cases l with
  | int i =>
    obtain ⟨t, rfl⟩ := r
    exact .int i t
  | str z =>
    obtain ⟨t, rfl⟩ := r
    exact .str z t
theorem ns_one {x : Str} {v : Value} : [(x, v)].reverse.lookup x = some v := by simp [List.lookup]
theorem kr_pair {X : Cx} {pins : List (Addr × Obj)} {σ : L2.St} {H : Hp} {s : Shared} {scope : Scope} {m x : Str} {i b : Nat} {l : Addr} {items : List V} {w : V} {d : PyData} {v : Value} {ctx : Nat} {p1 p2 p3 p4 p5 : Pos} (I : Inv X pins σ H s)
    (kind : scope.kind = .function) (hm : scope.names.lookup m = some .free) (hx : scope.names.lookup x = some .local) (hN : X.N[i]? = some m) (hs : σ[i]? = some (some (.ref l))) (hl : SqL X.K H l items) (hb : items[b]? = some w) (ld : LeafD w d) (rv : RelV (.int (b : Int)) v)
    (dm : (m == ("__debug__" : Str)) = false := by decide) (dx : (x == ("__debug__" : Str)) = false := by decide) (cm : (m == ("__classdict__" : Str)) = false := by decide) :
    KeyRun X σ (.Tuple [.Subscript (.Name m p1) (.Name x p2) p3, .Name x p4] ctx p5) scope x s H v (.tuple [d, .int (b : Int)]) := by
  intro A qual f c' D cl g tk hu up cap has hns
  obtain ⟨its, rvs, pl, hz⟩ := I.list hl
  obtain ⟨c0, u0, hc0, r0, cell⟩ := cap i m (.ref l) hN hs (has m hm)
  cases (show u0 = Value.ref l from r0)
  obtain ⟨t, rfl⟩ := rv
  obtain ⟨w', ew, rw'⟩ := rvs.get hb
  have hlen := (List.getElem?_eq_some_iff.mp hb).1
  have hl63 := line63
  refine wpAny_Tuple_spliced ?_
  show wpAny _ _ (spliced ((false, eval (.Subscript (.Name m p1) (.Name x p2) p3) (PySem.W.envX qual scope D f (.ref c') cl)) :: (false, eval (.Name x p4) (PySem.W.envX qual scope D f (.ref c') cl)) :: [])) _ _ _
  refine Calls.spliced_cons (Subscript_ (wpAny_Name (wpAny_loadName_free kind hm hc0 cell ?_ cm) dm))
  refine wpAny_Name (wpAny_loadName_local kind hx hns ns_one ?_) dx
  have pl2 : g.IsList l its.toArray := by
    obtain ⟨o, h1, h2, n, h3⟩ := pl.isList
    exact ⟨o, up _ _ h1, h2, n, h3⟩
  refine item_listR (x := w') pl2 (by omega) (by omega) (by rw [Int.toNat_natCast]; simpa using ew) ?_ (by rfl)
  refine Calls.spliced_cons (wpAny_Name (wpAny_loadName_local kind hx hns ns_one (Calls.spliced_nil ⟨by show 2 ≤ sizeLine; decide, ?_⟩)) dx)
  refine ⟨_, _, rfl, fun b o e => Heap.get?_push_of_some _ e, ?_⟩
  exact Reads.tuple (as := [] ++ ([] ++ [])) (Heap.get?_push_size _ rfl) rfl rfl (.cons (ld.reads rw') (.cons (.int _ t) .nil))
/-! ### {k: v for x in a list} -/
theorem dc_list {K : PySem.W.Frag} {a : Addr} {xs : List V} {g : TG} {tt : TT} {tk tv : TE} {vs : List Nat} {σ : L2.St} {H1 : Hp} {D : Addr} {Qd : Hp → Prop} (Pv : Nat → Hp → Prop) (h0 : Pv 0 (upd H1 D (.dK []))) (hl : ∀ i H, i ≤ xs.length → Pv i H → SqL K H a xs)
    (hs : ∀ i x H, xs[i]? = some x → Pv i H → g x (wipe σ vs) H fun σ2 H2 => wipe σ2 vs = wipe σ vs ∧ tt σ2 H2 fun b H3 =>
      if b = true then tk σ2 H3 fun y H4 => tv σ2 H4 fun z H5 => ∃ kvs k, y = kV k ∧ H5 D = some (.dK kvs) ∧ kvs.length < sizeLine ∧ Pv (i + 1) (upd H5 D (.dK (putK kvs k z))) else Pv (i + 1) H3) (hd : ∀ H, Pv xs.length H → Qd H) :
    ∃ W : Nat → Nat → Hp → Prop, (∃ m, W 0 m (upd H1 D (.dK []))) ∧ ∀ i m H, W i m H →
      ((Itl K a).stop i H ∧ Qd H) ∨ ((Itl K a).go i H ∧ ∃ Nx : Hp → Prop, (∀ H', Nx H' → ∃ m', m' < m ∧ W (i + 1) m' H') ∧ ∀ x H', (Itl K a).yld i H x H' → g x (wipe σ vs) H' fun σ2 H2 => wipe σ2 vs = wipe σ vs ∧ tt σ2 H2 fun b H3 =>
        if b = true then tk σ2 H3 fun y H4 => tv σ2 H4 fun z H5 => ∃ kvs k, y = kV k ∧ H5 D = some (.dK kvs) ∧ kvs.length < sizeLine ∧ Nx (upd H5 D (.dK (putK kvs k z))) else Nx H3) := by
  refine ⟨fun i m H => m + i = xs.length ∧ Pv i H, ⟨xs.length, rfl, h0⟩, fun i m H ⟨e, p⟩ => ?_⟩
  have q := hl i H (by omega) p
  cases m with
  | zero =>
    have e : i = xs.length := by omega
    subst e
    exact .inl ⟨⟨xs, q, Nat.le_refl _⟩, hd H p⟩
  | succ m =>
    have hlt : i < xs.length := by omega
    refine .inr ⟨⟨xs, xs[i], q, List.getElem?_eq_getElem hlt⟩, Pv (i + 1), fun H' p' => ⟨m, Nat.lt_succ_self m, by omega, p'⟩, fun x H' y => ?_⟩
    obtain ⟨rfl, y⟩ := y
    exact hs i x _ (y xs q) p
/-! ### the first half of a sorted row -/
theorem count_take {α : Type} [BEq α] {lt : α → α → Bool} (irr : ∀ a, lt a a = false) (asy : ∀ a b, lt a b = true → lt b a = false) : ∀ {xs : List α} {h : Nat} {x : α}, xs.Pairwise (fun a b => lt a b = true) → x ∈ xs → (x ∈ xs.take h ↔ (xs.filter fun y => lt y x).length < h)
  | [], _, _, _, hx => by cases hx
  | a :: as, 0, x, _, _ => by
    simp
  | a :: as, h + 1, x, hp, hx => by
    obtain ⟨h1, h2⟩ := List.pairwise_cons.mp hp
    rw [List.take_succ_cons, List.mem_cons, List.filter_cons]
    by_cases e : x = a
    · subst e
      have f : as.filter (fun y => lt y x) = [] := by
        rw [List.filter_eq_nil_iff]
        intro y hy z
        rw [asy _ _ (h1 y hy)] at z
        cases z
      rw [irr, f]
      simp
    · have hx2 : x ∈ as := (List.mem_cons.mp hx).resolve_left e
      have ih := count_take (h := h) irr asy h2 hx2
      rw [h1 x hx2]
      simp only [e, false_or, if_true, List.length_cons]
      rw [ih]
      omega
/-- the numbers below n that a strict order puts ahead of i -/
def aheadN (lt : Nat → Nat → Bool) (n i : Nat) : Nat := ((List.range n).filter fun k => lt k i).length
theorem in_half {lt : Nat → Nat → Bool} (irr : ∀ a, lt a a = false) (tr : ∀ a b c, lt a b = true → lt b c = true → lt a c = true) (tot : ∀ a b, a ≠ b → lt a b = true ∨ lt b a = true) {le : Nat → Nat → Bool} (hle : ∀ a b, le a b = !lt b a) {n h i : Nat} (hi : i < n) :
    i ∈ ((List.range n).mergeSort le).take h ↔ aheadN lt n i < h := by
  have asy : ∀ a b, lt a b = true → lt b a = false := fun a b e => by
    cases q : lt b a with
    | false => rfl
    | true =>
      have z := tr a b a e q
      rw [irr] at z
      cases z
  have perm := List.mergeSort_perm (List.range n) le
  have nd : ((List.range n).mergeSort le).Nodup := perm.nodup_iff.mpr List.nodup_range
  have pw := List.pairwise_mergeSort (le := le) (fun a b c h1 h2 => by
    rw [hle] at h1 h2 ⊢
    simp only [Bool.not_eq_true'] at h1 h2 ⊢
    cases q : lt c a with
    | false => rfl
    | true =>
      by_cases e1 : a = b
      · subst e1
        rw [q] at h2
        cases h2
      · rcases tot a b e1 with z | z
        · rw [tr c a b q z] at h2
          cases h2
        · rw [h1] at z
          cases z) (fun a b => by
    rw [hle, hle]
    cases q : lt b a with
    | false => rfl
    | true => rw [asy _ _ q]; rfl) (List.range n)
  have ps : ((List.range n).mergeSort le).Pairwise (fun a b => lt a b = true) := by
    have both := pw.and nd
    refine both.imp fun {a b} ⟨h1, h2⟩ => ?_
    rw [hle] at h1
    simp only [Bool.not_eq_true'] at h1
    rcases tot a b h2 with z | z
    · exact z
    · rw [h1] at z
      cases z
  have hm : i ∈ (List.range n).mergeSort le := perm.mem_iff.mpr (List.mem_range.mpr hi)
  rw [count_take irr asy ps hm]
  unfold aheadN
  rw [(perm.filter _).length_eq]
/-! ### max of three -/
theorem call_max3 {X : Cx} (hc : X.calm = true) : CallR X (.builtin "max") (fun xs H Q => ∃ i j k, xs = [.int i, .int j, .int k] ∧ Q (.int (max (max i j) k)) H) := by
  intro pins s σ H xs us Q I r h
  obtain ⟨i, j, k, rfl, q⟩ := h
  obtain ⟨u, us2, rfl, r2⟩ : ∃ u us2, us = u :: us2 ∧ Vals [.int j, .int k] us2 ∧ RelV (.int i) u := by
    cases r with
    | cons a b => exact ⟨_, _, rfl, b, a⟩
  obtain ⟨v, w, rfl, ⟨t2, rfl⟩, ⟨t3, rfl⟩⟩ := vals2 r2.1
  obtain ⟨t1, rfl⟩ := r2.2
  refine max_three_ints (I.ok.hd hc) fun h' tk kp => ⟨_, H, I.kept kp, ?_, q⟩
  by_cases h1 : j > i <;> by_cases h2 : k > j <;> by_cases h3 : k > i <;> simp only [h1, h2, h3, if_true, if_false]
  all_goals first
    | (rw [show max (max i j) k = k by omega]; exact ⟨_, rfl⟩)
    | (rw [show max (max i j) k = j by omega]; exact ⟨_, rfl⟩)
    | (rw [show max (max i j) k = i by omega]; exact ⟨_, rfl⟩)
/-! ### marks that are ints, in their order -/
def ltI (ns : List Int) (a b : Nat) : Bool := decide (ns.getD a 0 < ns.getD b 0 ∨ (ns.getD a 0 = ns.getD b 0 ∧ a < b))
theorem ltI_irr (ns : List Int) (a : Nat) : ltI ns a a = false := decide_eq_false (by omega)
theorem ltI_tr (ns : List Int) (a b c : Nat) (h1 : ltI ns a b = true) (h2 : ltI ns b c = true) : ltI ns a c = true := by
  have h1 := of_decide_eq_true h1
  have h2 := of_decide_eq_true h2
  exact decide_eq_true (by omega)
theorem ltI_tot (ns : List Int) (a b : Nat) (h : a ≠ b) : ltI ns a b = true ∨ ltI ns b a = true := by
  by_cases q : ns.getD a 0 < ns.getD b 0 ∨ (ns.getD a 0 = ns.getD b 0 ∧ a < b)
  · exact .inl (decide_eq_true q)
  · exact .inr (decide_eq_true (by omega))
def keyI (ns : List Int) (b : Nat) : PyData := .tuple [.int (ns.getD b 0), .int (b : Int)]
theorem leI (ns : List Int) : PySem.W.dataLe false (keyI ns) = fun a b => !ltI ns b a := by
  have z := PySem.W.dataLe_ii (β := Nat) (fun b => ns.getD b 0) (fun b => (b : Int))
  have z2 : PySem.W.dataLe false (keyI ns) = fun p q => decide (ns.getD p 0 < ns.getD q 0 ∨ (ns.getD p 0 = ns.getD q 0 ∧ (p : Int) ≤ (q : Int))) := z
  rw [z2]
  funext p q
  unfold ltI
  by_cases h : ns.getD q 0 < ns.getD p 0 ∨ (ns.getD q 0 = ns.getD p 0 ∧ q < p)
  · rw [decide_eq_true h, decide_eq_false (by omega)]
    rfl
  · rw [decide_eq_false h, decide_eq_true (by omega)]
    rfl
/-- what halves_by tells of marks in a strict order -/
def halvesL (lt : Nat → Nat → Bool) (n : Nat) : List V := (List.range n).map fun i => V.int (if aheadN lt n i < n / 2 then 0 else 1)
theorem cut_half {ord : List Nat} {ms : List V} {n : Nat} (lo : ord.length = n) (lm : ms.length = n) : cutV (ord.map fun b : Nat => V.int (b : Int)) none (some ((ms.length : Int) / 2)) = (ord.take (n / 2)).map fun b : Nat => V.int (b : Int) := by
  have l1 : (ord.map fun b : Nat => V.int (b : Int)).length = n := by rw [List.length_map, lo]
  have e : HT.sIx n n (some ((n : Int) / 2)) = n / 2 := by
    rw [show (n : Int) / 2 = ((n / 2 : Nat) : Int) by omega, HT.sIx_nat]
    omega
  have e0 : HT.sIx n 0 none = 0 := rfl
  unfold cutV
  rw [lm, l1, e, e0, List.drop_zero, Nat.sub_zero, List.map_take]
theorem halvesL_at {lt : Nat → Nat → Bool} {n j : Nat} (h : j < n) : (halvesL lt n)[j]? = some (V.int (if aheadN lt n j < n / 2 then 0 else 1)) := by
  unfold halvesL
  rw [List.getElem?_map, List.getElem?_range h]
  rfl
end SL
set_option Elab.async false
set_option linter.all false
set_option maxRecDepth 100000
set_option maxHeartbeats 4000000
namespace WD
open PySem PySem.Spec PyProof.Rows L2 CM LamX
/-! ### texts as lists of signs -/
abbrev cs (z : Str) : List Nat := z.cps.toList
theorem len_cs (z : Str) : z.length = (cs z).length := (Array.length_toList).symm
theorem str_ext {a b : Str} (h : cs a = cs b) : a = b := by
  cases a with
  | mk x => cases b with
    | mk y => exact congrArg Str.mk (Array.toList_inj.mp h)
theorem cs_mk (l : List Nat) : cs ⟨l.toArray⟩ = l := rfl
theorem cs_one (c : Nat) : cs ⟨#[c]⟩ = [c] := rfl
theorem cs_add (a b : Str) : cs (a ++ b) = cs a ++ cs b := by
  show (a.cps ++ b.cps).toList = _
  rw [Array.toList_append]
/-- how many signs two rows share at their beginning -/
def cpl : List Nat → List Nat → Nat
  | a :: as, b :: bs => if a = b then cpl as bs + 1 else 0
  | _, _ => 0
theorem cpl_of : ∀ {a b : List Nat} {k : Nat}, k ≤ a.length → k ≤ b.length → a.take k = b.take k → (∀ x y, a[k]? = some x → b[k]? = some y → x ≠ y) → cpl a b = k
  | [], b, k, h1, _, _, _ => by
    have : k = 0 := by simpa using h1
    subst this
    cases b <;> rfl
  | a :: as, [], k, _, h2, _, _ => by
    have : k = 0 := by simpa using h2
    subst this
    rfl
  | a :: as, b :: bs, 0, _, _, _, hd => by
    show (if a = b then cpl as bs + 1 else 0) = 0
    rw [if_neg (hd a b rfl rfl)]
  | a :: as, b :: bs, k + 1, h1, h2, ht, hd => by
    rw [List.take_succ_cons, List.take_succ_cons] at ht
    have e1 := (List.cons.inj ht).1
    have e2 := (List.cons.inj ht).2
    show (if a = b then cpl as bs + 1 else 0) = k + 1
    rw [if_pos e1, cpl_of (by simpa using h1) (by simpa using h2) e2 (fun x y hx hy => hd x y (by simpa using hx) (by simpa using hy))]
/-- the longest text with which both begin -/
def com (a b : Str) : Str := ⟨((cs a).take (cpl (cs a) (cs b))).toArray⟩
theorem com_of {a b : Str} {k : Nat} (h1 : k ≤ (cs a).length) (h2 : k ≤ (cs b).length) (ht : (cs a).take k = (cs b).take k) (hd : ∀ x y, (cs a)[k]? = some x → (cs b)[k]? = some y → x ≠ y) {z : Str} (hz : cs z = (cs a).take k) : z = com a b := by
  refine str_ext ?_
  show cs z = (cs a).take (cpl (cs a) (cs b))
  rw [hz, cpl_of h1 h2 ht hd]
/-- b at the beginning of a -/
def isPre (b a : Str) : Bool := decide ((cs a).take (cs b).length = cs b)
theorem starts (a b : Str) : Txt.startswith a b = isPre b a := by
  unfold Txt.startswith isPre
  have e : (Builtin.Str.subAt a b 0) = decide ((cs a).take (cs b).length = cs b) := by
    unfold Builtin.Str.subAt
    rw [Nat.zero_add, len_cs b]
    have e1 : (a.cps.extract 0 (cs b).length).toList = (cs a).take (cs b).length := by simp
    by_cases h : (cs a).take (cs b).length = cs b
    · have e2 : a.cps.extract 0 (cs b).length = b.cps := Array.toList_inj.mp (e1.trans h)
      rw [e2, decide_eq_true h]
      simp
    · rw [decide_eq_false h]
      refine beq_eq_false_iff_ne.mpr fun e2 => h ?_
      rw [← e1, e2]
  rw [e, Nat.zero_add]
  by_cases h : (cs a).take (cs b).length = cs b
  · have l := congrArg List.length h
    rw [List.length_take] at l
    rw [decide_eq_true h, len_cs a, len_cs b, decide_eq_true (by omega)]
    rfl
  · rw [decide_eq_false h, Bool.and_false]
theorem isPre_long {a b : Str} (h : (cs a).length < (cs b).length) : isPre b a = false := by
  refine decide_eq_false fun e => ?_
  have l := congrArg List.length e
  rw [List.length_take] at l
  omega
/-- the places below j at which the two differ -/
def diffs (a b : List Nat) (j : Nat) : List Nat := (List.range j).filter fun k => !decide (a.getD k 0 = b.getD k 0)
theorem diffs_succ (a b : List Nat) (j : Nat) : diffs a b (j + 1) = if (!decide (a.getD j 0 = b.getD j 0)) = true then diffs a b j ++ [j] else diffs a b j := by
  unfold diffs
  rw [List.range_succ, List.filter_append]
  by_cases h : (!decide (a.getD j 0 = b.getD j 0)) = true
  · rw [if_pos h, List.filter_cons_of_pos (p := fun k => !decide (a.getD k 0 = b.getD k 0)) h]
    rfl
  · rw [if_neg h, List.filter_cons_of_neg (p := fun k => !decide (a.getD k 0 = b.getD k 0)) h]
    exact List.append_nil _
theorem diffs_nil {a b : List Nat} : ∀ {j : Nat}, j ≤ a.length → j ≤ b.length → ((diffs a b j).isEmpty = true ↔ a.take j = b.take j)
  | 0, _, _ => by simp [diffs]
  | j + 1, h1, h2 => by
    have ih := diffs_nil (a := a) (b := b) (j := j) (by omega) (by omega)
    unfold diffs at ih ⊢
    rw [List.range_succ, List.filter_append, List.take_add_one, List.take_add_one, List.getElem?_eq_getElem (show j < a.length by omega), List.getElem?_eq_getElem (show j < b.length by omega)]
    have g1 : a.getD j 0 = a[j] := by rw [List.getD_eq_getElem?_getD, List.getElem?_eq_getElem (show j < a.length by omega)]; rfl
    have g2 : b.getD j 0 = b[j] := by rw [List.getD_eq_getElem?_getD, List.getElem?_eq_getElem (show j < b.length by omega)]; rfl
    by_cases e : a[j] = b[j]
    · have f : [j].filter (fun k => !decide (a.getD k 0 = b.getD k 0)) = [] := by
        rw [List.filter_cons_of_neg (by rw [g1, g2, e]; simp)]
        rfl
      rw [f, List.append_nil, ih, e]
      exact ⟨fun z => by rw [z], fun z => (List.append_inj' z rfl).1⟩
    · have f : [j].filter (fun k => !decide (a.getD k 0 = b.getD k 0)) = [j] := by
        rw [List.filter_cons_of_pos (by rw [g1, g2]; simp [e])]
        rfl
      rw [f]
      constructor
      · intro z
        simp at z
      · intro z
        have l : (a.take j).length = (b.take j).length := by rw [List.length_take, List.length_take]; omega
        have z2 := (List.append_inj z l).2
        exact absurd (by simpa using z2) e
theorem diffs_pre {a b : Str} (h : (cs b).length ≤ (cs a).length) : (diffs (cs a) (cs b) (cs b).length).isEmpty = isPre b a := by
  have z := diffs_nil (a := cs a) (b := cs b) h (Nat.le_refl _)
  rw [List.take_length] at z
  unfold isPre
  cases e : (diffs (cs a) (cs b) (cs b).length).isEmpty with
  | true => rw [decide_eq_true (z.mp e)]
  | false => rw [decide_eq_false fun q => by rw [z.mpr q] at e; cases e]
/-! ### marks that are texts, in their order -/
def ltS (zs : List Str) (a b : Nat) : Bool := decide (cs (zs.getD a Str.empty) < cs (zs.getD b Str.empty) ∨ (cs (zs.getD a Str.empty) = cs (zs.getD b Str.empty) ∧ a < b))
theorem ltS_irr (zs : List Str) (a : Nat) : ltS zs a a = false := decide_eq_false fun h => by
  rcases h with h | ⟨_, h⟩
  · exact absurd h (List.lt_irrefl _)
  · omega
theorem ltS_tr (zs : List Str) (a b c : Nat) (h1 : ltS zs a b = true) (h2 : ltS zs b c = true) : ltS zs a c = true := by
  have h1 := of_decide_eq_true h1
  have h2 := of_decide_eq_true h2
  refine decide_eq_true ?_
  rcases h1 with h1 | ⟨h1, l1⟩
  · rcases h2 with h2 | ⟨h2, l2⟩
    · exact .inl (List.lt_trans h1 h2)
    · exact .inl (by rw [← h2]; exact h1)
  · rcases h2 with h2 | ⟨h2, l2⟩
    · exact .inl (by rw [h1]; exact h2)
    · exact .inr ⟨h1.trans h2, by omega⟩
theorem ltS_tot (zs : List Str) (a b : Nat) (h : a ≠ b) : ltS zs a b = true ∨ ltS zs b a = true := by
  unfold ltS
  generalize cs (zs.getD a Str.empty) = x
  generalize cs (zs.getD b Str.empty) = y
  by_cases e : x = y
  · by_cases l : a < b
    · exact .inl (decide_eq_true (.inr ⟨e, l⟩))
    · exact .inr (decide_eq_true (.inr ⟨e.symm, by omega⟩))
  · by_cases l : x < y
    · exact .inl (decide_eq_true (.inl l))
    · exact .inr (decide_eq_true (.inl (by
        have l2 : y ≤ x := List.not_lt.mp l
        rcases List.le_iff_lt_or_eq.mp l2 with z | z
        · exact z
        · exact absurd z.symm e)))
def keyS (zs : List Str) (b : Nat) : PyData := .tuple [.str (zs.getD b Str.empty), .int (b : Int)]
theorem dataLt_si (x : Str) (i : Int) (y : Str) (j : Int) : PySem.W.dataLt (.tuple [.str x, .int i]) (.tuple [.str y, .int j]) = decide (cs x < cs y ∨ (cs x = cs y ∧ i < j)) := by
  rw [PySem.W.dataLt_pair (by simp [PySem.W.alike]) (by simp [PySem.W.alike]), PySem.W.dataLt_int, PySem.W.dataLt_str]
  by_cases e : x = y
  · subst e
    have n : ¬ cs x < cs x := List.lt_irrefl _
    rw [if_pos (show PyData.eqv (.str x) (.str x) = true by simp [PyData.eqv])]
    by_cases e2 : i = j
    · rw [if_pos (show PyData.eqv (.int i) (.int j) = true by simp [PyData.eqv, e2])]
      exact (decide_eq_false fun h => h.elim n fun z => by omega).symm
    · rw [if_neg (show ¬ PyData.eqv (.int i) (.int j) = true by simp [PyData.eqv, e2])]
      exact decide_eq_decide.mpr ⟨fun h => .inr ⟨rfl, h⟩, fun h => h.elim (fun z => absurd z n) fun z => z.2⟩
  · have e3 : ¬ cs x = cs y := fun z => e (str_ext z)
    rw [if_neg (show ¬ PyData.eqv (.str x) (.str y) = true by simp [PyData.eqv, e])]
    exact decide_eq_decide.mpr ⟨.inl, fun h => h.elim id fun z => absurd z.1 e3⟩
theorem leS (zs : List Str) : PySem.W.dataLe false (keyS zs) = fun a b => !ltS zs b a := by
  rw [PySem.W.dataLe_eq]
  funext a b
  show (!PySem.W.dataLt (keyS zs b) (keyS zs a)) = _
  unfold keyS ltS
  rw [dataLt_si]
  refine congrArg (fun q : Bool => !q) (decide_eq_decide.mpr ⟨fun h => ?_, fun h => ?_⟩)
  · exact h.imp id fun z => ⟨z.1, by omega⟩
  · exact h.imp id fun z => ⟨z.1, by omega⟩
/-! ### (text, int) < (text, int) -/
def rLtSI (K : PySem.W.Frag) : R2 := fun x y H Q => ∃ (a b : Addr) (z w : Str) (i j : Int), x = .ref a ∧ y = .ref b ∧ SqT K H a [.str z, .int i] ∧ SqT K H b [.str w, .int j] ∧ Q (.bl (decide (cs z < cs w ∨ (cs z = cs w ∧ i < j)))) H
theorem op_ltSI {X : Cx} {K : PySem.W.Frag} (hu : X.A.units + 64 < cLine) (hK : X.K = K := by rfl) : OpR X (compareOp .Lt) (rLtSI K) := by
  subst hK
  intro pins s σ H x y v u Q I rx ry h
  obtain ⟨a, b, z, w, i, j, rfl, rfl, ha, hb, q⟩ := h
  cases rx
  cases ry
  obtain ⟨us, r1, p1, _⟩ := I.tuple ha
  obtain ⟨ws, r2, p2, _⟩ := I.tuple hb
  have rd : ∀ {c : Addr} {us : List Value} {z : Str} {i : Int}, Vals [V.str z, V.int i] us → IsTup s.heap c us.toArray → Reads s.heap (.ref c) (.tuple [.str z, .int i]) [] := fun {c us z i} r p => by
    obtain ⟨u1, u2, rfl, ⟨t1, rfl⟩, ⟨t2, rfl⟩⟩ := vals2 r
    obtain ⟨o, h1, h2, n, h3⟩ := p
    exact Reads.tuple (as := [] ++ ([] ++ [])) h1 h2 h3 (.cons (.str z t1) (.cons (.int i t2) .nil))
  have e := PySem.W.rcLt_alike (.tuple [.str z, .int i]) (.tuple [.str w, .int j]) X.A s (.ref a) (.ref b) [] [] (rd r1 p1) (rd r2 p2) (by simp [PySem.W.alike, PySem.W.alikeAll]) (fun z => by cases z) (by
    have : min (PyData.tuple [.str z, .int i]).depth (PyData.tuple [.str w, .int j]).depth ≤ 64 := Nat.le_trans (Nat.min_le_left _ _) (by show 1 ≤ 64; decide)
    omega)
  rw [dataLt_si] at e
  exact e X.prog X.w X.xe _ ⟨.bl _, H, I, rfl, q⟩
/-! ### a == [] of a list -/
def rEqNilL (K : PySem.W.Frag) : R2 := fun x y H Q => ∃ (a b : Addr) (xs : List V), x = .ref a ∧ y = .ref b ∧ SqL K H a xs ∧ SqL K H b [] ∧ Q (.bl xs.isEmpty) H
theorem op_eqNilL {X : Cx} {K : PySem.W.Frag} (hu : X.A.units + 64 < cLine) (hK : X.K = K := by rfl) : OpR X (compareOp .Eq) (rEqNilL K) := by
  subst hK
  intro pns s σ H x y v u Q I rx ry h
  obtain ⟨a, b, xs, rfl, rfl, ha, hb, q⟩ := h
  cases (show v = Value.ref a from rx)
  cases (show u = Value.ref b from ry)
  obtain ⟨us, r1, p1, _⟩ := I.list ha
  obtain ⟨ws, r2, p2, _⟩ := I.list hb
  cases r2
  cases r1 with
  | nil =>
    exact SeqAt.eq_listAt (e := fun _ => true) p1.isList p2.isList rfl (by omega) (fun j h1 h2 => absurd h2 (by simp)) ⟨.bl true, H, I, rfl, q⟩
  | cons a1 b1 => exact SeqAt.eq_list_lengthsAt p1.isList p2.isList (by simp) (by omega) ⟨.bl false, H, I, rfl, q⟩
end WD
set_option Elab.async false
set_option linter.all false
set_option maxRecDepth 100000
set_option maxHeartbeats 4000000
namespace GD
open PySem PySem.Spec PyProof.Rows L2 CM LamX
/-! ### promises of defs that are called where no repr runs -/
structure FnG (P : Program) (w : World) (K : PySem.W.Frag) (mg : Str → Option Value) (base : Heap) (CX : CXT) (k : Nat) (f : Addr) (fd : FuncData) (ps : List Str) (sp : Sp) : Prop where
  len : ∀ vs H Q E, sp vs H Q E → vs.length = ps.length
  run : ∀ (A : Around) (outer : List Env) (s : Shared) (H : Hp) (args : Args) (us : List Value) (vs : List V) (Q : VK) (E : XK), Room k A → A.guards = some [] → Env0 P w K mg base A outer s H →
    BindsTo s fd args (ps.zip us) → Vals vs us → sp vs H Q E → codeAny (model P w) A (.call (.ref f) args) (CR CX outer P w H s Q E) s
section
variable {P : Program} {w : World} {K : PySem.W.Frag} {mg : Str → Option Value} {base : Heap} {CX : CXT} {k j : Nat} {f : Addr} {fd : FuncData} {ps : List Str} {sp : Sp}
theorem FnG.of (F : FnOk P w K mg base CX k f fd ps sp) : FnG P w K mg base CX k f fd ps sp := ⟨F.len, fun A outer s H args us vs Q E hr _ => F.run A outer s H args us vs Q E hr⟩
theorem FnG.mono (F : FnG P w K mg base CX j f fd ps sp) (h : j ≤ k) : FnG P w K mg base CX k f fd ps sp := ⟨F.len, fun A outer s H args us vs Q E hr => F.run A outer s H args us vs Q E (hr.mono h)⟩
variable {x qual : Str} {params : Arguments} {body : List Stmt} {scope : Scope} {dvs : List V} {kws : List (Str × V)}
theorem okG {N : List Str} (F : FunD K x qual params body scope dvs kws f fd) (S : FnScope N ps scope) (len : ∀ vs H Q E, sp vs H Q E → vs.length = ps.length)
    (hbody : ∀ (cdv : Value) (A : Around) (outer : List Env) (s : Shared) (H : Hp) (vs : List V) (Q : VK) (E : XK), Room k (A.deeper (envOfC qual scope s.heap.objs.size f cdv)) → A.guards = some [] → sp vs H Q E →
      ∃ t, PSs (cxOf CX P w K mg base N qual scope f cdv A outer s H E) body t ∧ t { nx := fun _ H' => Q .non H', rt := Q } (start N vs) H) : FnG P w K mg base CX (k + 1) f fd ps sp := by
  obtain ⟨oc, od, dV, kV, doc, pm, an, cdv, ct, osl, hfd, lk, hcd, _, _⟩ := F.ex
  subst hfd
  refine ⟨len, fun A outer s0 H args us vs Q E room gd e0 bt rv asked => ?_⟩
  have old : ∀ b o, base.get? b = some o → s0.heap.get? b = some o := fun b o e => (e0.bs b o e).1
  refine codeAny_call_function room.depth (e0.mod.kin.keeps old _ _ lk) rfl S.co S.gen rfl (PySem.W.codeRec_of (e0.mod.kin.keeps old) hcd) (bt _ _ _ _ (wpAny_newFunctionEnv_cells S.kind (fun y hy => ?_) fun env he t x => ?_))
  · exact (S.par y.1 (List.of_mem_zip (show (y.1, y.2) ∈ ps.zip us from hy)).1).elim .inl fun q => .inr ⟨q, PySem.W.cellsFrom_some _ _ _ (.inl q)⟩
  · subst he
    obtain ⟨tt, ht, rd⟩ := hbody cdv A outer s0 H vs Q E (room.deeper _) gd asked
    have J : Inv (cxOf CX P w K mg base N qual scope f cdv A outer s0 H E) [] (start N vs) H t := inv_start S room.hd e0 (len _ _ _ _ asked) rv x
    refine ⟨(e0.mod.nolimit.keeps old).keeps x.toInCall.keep, codeAny_func (wpAny_mono (ht.run [] t (start N vs) H _ J rd) (fun fl t2 got => ?_) fun _ _ got => got)⟩
    cases fl with
    | ret u => obtain ⟨v, σ2, H2, J2, r2, q2⟩ := got; exact ⟨v, H2, J2.os, J2.bare, J2.base, J2.hok, r2, q2⟩
    | next => obtain ⟨σ2, H2, J2, q2⟩ := got; exact ⟨V.non, H2, J2.os, J2.bare, J2.base, J2.hok, rfl, q2⟩
    | brk =>
      obtain ⟨_, _, _, z⟩ := got
      exact False.elim z
    | cont =>
      obtain ⟨_, _, _, z⟩ := got
      exact False.elim z
end
/-! ### calls of such defs -/
section
variable {X : Cx} {CX : CXT} {k : Nat} {f : Addr} {fd : FuncData} {ps : List Str} {sp : Sp} {dvs : List V} {ds : List Value} {E : XK} {x : Str} {e : Expr} {es : List Expr} {t : TA} {p pos : Pos}
theorem run_fnG {pins : List (Addr × Obj)} {σ : L2.St} {H : Hp} {s : Shared} {Q : VK} {us : List Value} {vs : List V} (F : FnG X.prog X.w X.K X.mg X.base CX k f fd ps sp) (hr : Room k X.A) (gd : X.A.guards = some []) (hb : Binds X.K fd ps ds) (hd : Vals dvs ds) (hx : Passes CX X E)
    (I : Inv X pins σ H s) (r : Vals vs us) (h : sp (vs ++ dvs) H Q E) : wpAny (model X.prog X.w) X.A (call (.ref f) us) (EP X pins σ Q) X.xe s := by
  have rr := r.append hd
  refine wpAny_call (codeAny_mono (F.run X.A X.stack s H ⟨us, []⟩ (us ++ ds) (vs ++ dvs) Q E hr gd I.env0 (hb s us I.kIn (rr.length.symm.trans (F.len _ _ _ _ h))) rr h) fun res s2 got => ?_)
  match res, got with
  | .error er, got => exact hx pins σ H s er s2 I got
  | .ok (.ret u), got => exact I.after got
  | .ok .next, got => exact False.elim got
  | .ok .brk, got => exact False.elim got
  | .ok .cont, got => exact False.elim got
theorem pe_callG (F : FnG X.prog X.w X.K X.mg X.base CX k f fd ps sp) (hr : Room k X.A) (gd : X.A.guards = some []) (hg : Gl X x) (hm : X.mg x = some (.ref f)) (hk : PySem.W.keepIn X.K (.ref f) = true) (hb : Binds X.K fd ps ds) (hd : Vals dvs ds) (hx : Passes CX X E)
    (ha : PA X (e :: es) t) (hdb : (x == ("__debug__" : Str)) = false := by decide) (he : starEach (e :: es) X.env = (false, eval e X.env) :: starEach es X.env := by rfl) (hpl : (backTo pos (starEach es X.env)).any (·.1) = false := by rfl) :
    PE X (.Call (.Name x p) (e :: es) [] pos) (tCall sp dvs E t) :=
  ⟨fun pins s σ H Q I h => wpAny_Call_Name_kw (ld_glob I hg hm (PySem.W.callWith_K (h₀ := X.base) I.ok.mod.kin hk (thn (ha.run pos pins s σ H _ I h) fun us s1 ⟨vs, H1, I1, r, q⟩ => ⟨I1.kIn, run_fnG F hr gd hb hd hx I1 r q⟩) he hpl) hdb)⟩
theorem pe_callG0 (F : FnG X.prog X.w X.K X.mg X.base CX k f fd ps sp) (hr : Room k X.A) (gd : X.A.guards = some []) (hg : Gl X x) (hm : X.mg x = some (.ref f)) (hk : PySem.W.keepIn X.K (.ref f) = true) (hb : Binds X.K fd ps ds) (hd : Vals dvs ds) (hx : Passes CX X E)
    (hdb : (x == ("__debug__" : Str)) = false := by decide) : PE X (.Call (.Name x p) [] [] pos) (tCall sp dvs E tNil) :=
  ⟨fun pins s σ H Q I h => wpAny_Call_Name_kw (ld_glob I hg hm (PySem.W.callWith_K0 I.kIn hk (run_fnG (us := []) F hr gd hb hd hx I .nil h)) hdb)⟩
end
/-- such a def of the text, by the module's name of it -/
structure CalG (P : Program) (w : World) (K : PySem.W.Frag) (mg : Str → Option Value) (base : Heap) (CX : CXT) (x : Str) (k : Nat) (ps : List Str) (sp : Sp) : Prop where
  ex : ∃ (f : Addr) (fd : FuncData), FnG P w K mg base CX k f fd ps sp ∧ Binds K fd ps [] ∧ mg x = some (.ref f) ∧ PySem.W.keepIn K (.ref f) = true
/-! ### the end -/
section
variable {P : Program} {w : World} {K : PySem.W.Frag} {mg mb : Str → Option Value} {CX : CXT} {k : Nat} {fa a : Addr} {cs : List (Addr × Addr)} {fd : FuncData} {x : Str} {sp : Sp} {g : Shared} {vs : List Value} {ns : List Int}
/-- what is tracked when the law is called: the script, unless it is written, and the tables -/
def H0 (K : PySem.W.Frag) (a : Addr) (ob : Obj) (xs : List V) (T : List Addr) : Hp := fun b => if b ∈ T then some (.tbl #[]) else if b = a ∧ K.lookup a = none then some (.frz ob (.lst xs)) else none
theorem H0_cases {ob : Obj} {xs : List V} {T : List Addr} {b : Addr} {u : HO} (e : H0 K a ob xs T b = some u) : (b ∈ T ∧ u = .tbl #[]) ∨ (b ∉ T ∧ b = a ∧ K.lookup a = none ∧ u = .frz ob (.lst xs)) := by
  unfold H0 at e
  by_cases h : b ∈ T
  · rw [if_pos h] at e
    exact .inl ⟨h, (Option.some.inj e).symm⟩
  · rw [if_neg h] at e
    by_cases h2 : b = a ∧ K.lookup a = none
    · rw [if_pos h2] at e
      exact .inr ⟨h, h2.1, h2.2, (Option.some.inj e).symm⟩
    · rw [if_neg h2] at e
      cases e
theorem law_callG (KX : K.In g.heap) (hns : g.heap.Ns mainGlobals mg) (hb : g.heap.Ns builtinsNs mb) (hbb : ∀ y : Str, y ≠ "__name__" → mb y = bootBuiltins y) (lim : g.heap.NoLimit) (gens : g.gens = #[])
    (hT : ∀ p ∈ cs, g.heap.get? p.2 = some { cls := .none, data := .fields #[] }) (nT : ∀ p ∈ cs, K.lookup p.2 = none) (hC : ∀ p ∈ cs, PySem.W.CodeHd g.heap p.1 p.2)
    (bm : ∃ (bm : Addr) (ob : Obj), mg "__builtins__" = some (.ref bm) ∧ bm ≠ builtinsNs ∧ g.heap.get? bm = some ob ∧ ob.cls = .type "module" ∧ ob.dict = some builtinsNs ∧ ob.data = .plain)
    (ha : g.heap.get? a = some { cls := .type "list", data := .seq vs.toArray }) (hi : IntsAre vs ns) (hl : ns.length ≤ sizeLine) (room : Room k callerA)
    (F : ∀ base : Heap, K.In base → base.Ns mainGlobals mg → (∀ p ∈ cs, TabB base mg p.1 p.2) → FnG P w K mg base CX k fa fd [x] sp) (bind : ∀ (s : Shared) (u : Value), BindsTo s fd ⟨[u], []⟩ [(x, u)])
    (asked : ∀ H : Hp, (∀ p ∈ cs, H p.2 = some (.tbl #[])) → SqL K H a (ns.map V.int) → sp [.ref a] H (fun v _ => v = .bl true) fun _ _ _ => False)
    (noX : ∀ H e s2, CX [] H g (fun _ _ _ => False) e s2 → False) :
    codeAny (model P w) callerA (.call (.ref fa) ⟨[.ref a], []⟩) (fun r s2 => r = .ok (.ret (.bool true)) ∧ OldK g.heap s2.heap ∧ s2.os = g.os ∧ AllBare s2.gens) g := by
  have rv := vals_ints hi
  have lv := hi.length
  generalize hTs : cs.map (·.2) = T
  have tabAt : ∀ b ∈ T, g.heap.get? b = some { cls := .none, data := .fields #[] } ∧ K.lookup b = none := fun b m => by
    rw [← hTs] at m
    obtain ⟨p, hp, rfl⟩ := List.mem_map.mp m
    exact ⟨hT p hp, nT p hp⟩
  have inT : ∀ p ∈ cs, p.2 ∈ T := fun p hp => hTs ▸ List.mem_map.mpr ⟨p, hp, rfl⟩
  have aT : a ∉ T := fun m => by
    have z := (tabAt a m).1
    rw [ha] at z
    cases z
  generalize hH : H0 K a { cls := .type "list", data := .seq vs.toArray } (ns.map V.int) T = H
  have cse : ∀ {b : Addr} {u : HO}, H b = some u → (b ∈ T ∧ u = .tbl #[]) ∨ (b ∉ T ∧ b = a ∧ K.lookup a = none ∧ u = .frz { cls := .type "list", data := .seq vs.toArray } (.lst (ns.map V.int))) := fun e => H0_cases (by rw [hH]; exact e)
  have tbl : ∀ p ∈ cs, H p.2 = some (.tbl #[]) := fun p hp => by
    rw [← hH]
    exact if_pos (inT p hp)
  have lsz : (ns.map V.int).length ≤ sizeLine := by rw [List.length_map]; exact hl
  have ok : HOk P w H g.heap := fun b u e => by
    rcases cse e with ⟨m, rfl⟩ | ⟨_, rfl, _, rfl⟩
    · exact (tabAt b m).1
    · exact ⟨ha, lsz, vs, _, rv, ha⟩
  have sq : SqL K H a (ns.map V.int) := by
    cases kl : K.lookup a with
    | none =>
      refine .inl (.inr ⟨{ cls := .type "list", data := .seq vs.toArray }, ?_⟩)
      rw [← hH]
      exact (if_neg aT).trans (if_pos ⟨rfl, kl⟩)
    | some o =>
      have z := KX a o kl
      rw [ha] at z
      cases z
      exact .inr ⟨_, vs.toArray, _, kl, rfl, rfl, rfl, by rw [List.size_toArray, lv]; exact hl, by simpa using rv⟩
  -- what is neither a table nor the script stands in the base
  have un : ∀ {b : Addr} {o : Obj}, g.heap.get? b = some o → (∀ its n, o.data ≠ .seq its n) → o.data ≠ .fields #[] → H b = none := fun {b o} e n1 n2 => by
    cases q : H b with
    | none => rfl
    | some u =>
      rcases cse q with ⟨m, _⟩ | ⟨_, rfl, _, _⟩
      · rw [(tabAt b m).1] at e
        cases e
        exact absurd rfl n2
      · rw [ha] at e
        cases e
        exact absurd rfl (n1 _ _)
  have unD : ∀ {b : Addr} {o : Obj} {es : Array DictEntry} {ep : Nat}, g.heap.get? b = some o → o.data = .dict es ep → H b = none := fun e d => un e (fun its n z => by rw [d] at z; cases z) fun z => by rw [d] at z; cases z
  have nsB : ∀ {b : Addr} {m : Str → Option Value}, g.heap.Ns b m → (hidT g.heap H).Ns b m := fun ⟨o, es, ep, e, d, r⟩ => ⟨o, es, ep, hidT_get e (unD e d), d, r⟩
  have kB : K.In (hidT g.heap H) := fun b o e => hidT_get (KX b o e) (by
    cases q : H b with
    | none => rfl
    | some u =>
      rcases cse q with ⟨m, _⟩ | ⟨_, rfl, z, _⟩
      · rw [(tabAt b m).2] at e
        cases e
      · rw [z] at e
        cases e)
  have md : L2.Mod K mg (hidT g.heap H) := ⟨kB, nsB hns, ⟨mb, nsB hb, hbb⟩, by
    obtain ⟨mc, h1, h2⟩ := lim
    exact ⟨mc, nsB h1, h2⟩⟩
  have tb : ∀ p ∈ cs, TabB (hidT g.heap H) mg p.1 p.2 := fun p hp => by
    have tp := hT p hp
    have gG : mainGlobals ≠ p.2 := fun z => by
      obtain ⟨o, es, ep, e, d, _⟩ := hns
      rw [z, tp] at e
      cases e
      cases d
    refine ⟨?_, ?_, gG⟩
    · obtain ⟨o, us, file, tf, flags, tg, inF, text, tt, e1, r1, r2, r3, r4, r5, r6, r7, r8, ne⟩ := hC p hp
      have e2 : H p.1 = none := un e1 (fun its n z => by rw [r2] at z; cases z) fun z => by
        rw [r2] at z
        cases z
        simp at r3
      exact ⟨o, us, file, tf, flags, tg, inF, text, tt, hidT_get e1 e2, r1, r2, r3, r4, r5, r6, r7, r8, ne⟩
    · obtain ⟨bmA, ob, b1, b2, b3, b4, b5, b6⟩ := bm
      have nG : bmA ≠ mainGlobals := fun z => by
        obtain ⟨o, es, ep, e, d, _⟩ := hns
        rw [z, e] at b3
        cases b3
        rw [d] at b6
        cases b6
      have nP : bmA ≠ p.2 := fun z => by
        rw [z, tp] at b3
        cases b3
        cases b6
      exact ⟨bmA, ob, b1, b2, nG, nP, hidT_get b3 (un b3 (fun its n z => by rw [b6] at z; cases z) fun z => by rw [b6] at z; cases z), b4, b5, b6⟩
  have en : Env0 P w K mg (hidT g.heap H) callerA [] g H := ⟨rfl, md, fun b o e => of_hidT e, Nat.le_of_eq (hidT_size _ _), trivial, fun b m => absurd (show b ∈ ([] : List Addr) from m) (by simp), ok, .of_eq gens⟩
  refine codeAny_mono ((F _ kB (nsB hns) tb).run callerA [] g H ⟨[.ref a], []⟩ [.ref a] [.ref a] _ _ room rfl en (bind g (.ref a)) (.cons rfl .nil) (asked H tbl sq)) fun res s2 got => ?_
  match res, got with
  | .error er, got => exact (noX H er s2 got).elim
  | .ok .next, got => exact False.elim got
  | .ok .brk, got => exact False.elim got
  | .ok .cont, got => exact False.elim got
  | .ok (.ret u), ⟨v, H2, os, bare, kept, ok2, ru, (q : v = .bl true)⟩ =>
    subst q
    obtain rfl : u = Value.bool true := ru
    have key : ∀ b o, b ∉ T → g.heap.get? b = some o → s2.heap.get? b = some o := fun b o nb e => by
      cases q : H b with
      | none => exact kept.keep b o e q (fun m => absurd (show b ∈ ([] : List Addr) from m) (by simp)) (by simp)
      | some u =>
        rcases cse q with ⟨m, _⟩ | ⟨_, rfl, _, rfl⟩
        · exact absurd m nb
        · obtain ⟨z, _⟩ := ok2 b _ (kept.frzs b _ _ q)
          rw [ha] at e
          cases e
          exact z
    refine ⟨rfl, ⟨fun b o e => ?_, fun b o e => ?_⟩, os, bare⟩
    · by_cases m : b ∈ T
      · rw [← hTs] at m
        obtain ⟨p, hp, rfl⟩ := List.mem_map.mp m
        obtain ⟨more, z⟩ := kept.tbls p.2 #[] (tbl p hp)
        rw [hT p hp] at e
        cases e
        exact .inr (.inl ⟨((hC p hp).tab (hT p hp)).isCodeTable, rfl, #[], more, rfl, ok2 p.2 _ z⟩)
      · exact .inl (key b o m e)
    · by_cases m : b ∈ T
      · rw [← hTs] at m
        obtain ⟨p, hp, rfl⟩ := List.mem_map.mp m
        obtain ⟨more, z⟩ := kept.tbls p.2 #[] (tbl p hp)
        exact ⟨_, ok2 p.2 _ z⟩
      · exact ⟨o, key b o m e⟩
end
/-- a law by the promise of its def -/
def LawG (l : PySem.W.OpenLaw) (w : World) (K : PySem.W.Frag) (CX : CXT) (k n : Nat) (x : Str) (mg : Str → Option Value) (fa : Addr) (h : Heap) : Prop :=
  ∃ (fd : FuncData) (cs : List (Addr × Addr)) (sp : Sp), (∀ p ∈ cs, h.get? p.2 = some { cls := .none, data := .fields #[] } ∧ K.lookup p.2 = none ∧ PySem.W.CodeHd h p.1 p.2) ∧ (∀ (s : Shared) (u : Value), BindsTo s fd ⟨[u], []⟩ [(x, u)]) ∧
    (∀ (H : Hp) (a : Addr) (ns : List Int), ns.length ≤ n → (∀ p ∈ cs, H p.2 = some (.tbl #[])) → SqL K H a (ns.map V.int) → sp [.ref a] H (fun v _ => v = .bl true) fun _ _ _ => False) ∧
    ∀ base : Heap, K.In base → base.Ns mainGlobals mg → (∀ p ∈ cs, TabB base mg p.1 p.2) → FnG l.prog w K mg base CX k fa fd [x] sp
theorem walk_G {l : PySem.W.OpenLaw} {n k : Nat} {q : Program} {loose : List Str} {XP : (Str → Option Value) → Heap → Prop} {YP : World → Heap → Prop} {d : DefRec} {CX : World → CXT} {x : Str}
    (most : l.most = some n) (n2 : n ≤ sizeLine) (plain : d.params.defaults = []) (room : Room k callerA)
    (F : ∀ (w : World) (mg : Str → Option Value) (fa : Addr) (h : Heap), YP w h → h.Ns mainGlobals mg → mg d.name = some (.ref fa) → ∃ K : PySem.W.Frag, K.In h ∧ LawG l w K (CX w) k n x mg fa h)
    (noX : ∀ (w : World) (H : Hp) (s : Shared) (e : Value) (s2 : Shared), CX w [] H s (fun _ _ _ => False) e s2 → False) :
    PySem.W.WalkO q loose XP YP l.row.toRowW d [] (fun f vs => PySem.call f vs) := by
  refine Att.attach_callB most plain fun w s0 g mg mb fa o pm cd doc a vs ns G Y ho hd hcd hmg hobj hints hlen hbits hg => ?_
  obtain ⟨K, KX, fd, cs, sp, hT, hb, asked, hF⟩ := F w mg fa _ Y G.T.g hmg
  exact law_callG KX G.T.g G.T.b G.T.builtins G.T.nolimit hg (fun p hp => (hT p hp).1) (fun p hp => (hT p hp).2.1) (fun p hp => (hT p hp).2.2) G.T.bmain hobj hints (Nat.le_trans hlen n2) room hF hb (fun H hH hS => asked H a ns hlen hH hS) fun H e s2 => noX w H g e s2
end GD
set_option Elab.async false
set_option linter.all false
set_option maxRecDepth 100000
set_option maxHeartbeats 4000000
namespace RZ
open PySem PySem.Spec PyProof.Rows L2 CM LamX
/-! ### what a value shows -/
mutual
inductive Shw (H : Hp) : V → PyData → Prop
  | non : Shw H .non .none
  | bl (b : Bool) : Shw H (.bl b) (.bool b)
  | int (i : Int) : Shw H (.int i) (.int i)
  | str (z : Str) : Shw H (.str z) (.str z)
  | lst {a : Addr} {xs : List V} {ds : List PyData} : H a = some (.lst xs) → ShwAll H xs ds → Shw H (.ref a) (.list ds)
  | tup {a : Addr} {xs : List V} {ds : List PyData} : H a = some (.tup xs) → ShwAll H xs ds → Shw H (.ref a) (.tuple ds)
inductive ShwAll (H : Hp) : List V → List PyData → Prop
  | nil : ShwAll H [] []
  | cons {v : V} {vs : List V} {d : PyData} {ds : List PyData} : Shw H v d → ShwAll H vs ds → ShwAll H (v :: vs) (d :: ds)
end
mutual
theorem Shw.noDict {H : Hp} : ∀ {v : V} {d : PyData}, Shw H v d → d.hasDict = false
  | _, _, .non => by simp only [PyData.hasDict]
  | _, _, .bl _ => by simp only [PyData.hasDict]
  | _, _, .int _ => by simp only [PyData.hasDict]
  | _, _, .str _ => by simp only [PyData.hasDict]
  | _, _, .lst _ h => by
    simp only [PyData.hasDict]
    exact h.noDict
  | _, _, .tup _ h => by
    simp only [PyData.hasDict]
    exact h.noDict
theorem ShwAll.noDict {H : Hp} : ∀ {vs : List V} {ds : List PyData}, ShwAll H vs ds → PyData.hasDictAll ds = false
  | _, _, .nil => by simp only [PyData.hasDictAll]
  | _, _, .cons h t => by simp only [PyData.hasDictAll, h.noDict, t.noDict, Bool.or_self]
end
mutual
theorem Shw.reads {P : Program} {w : World} {H : Hp} {h : Heap} (ok : HOk P w H h) : ∀ {v : V} {d : PyData}, Shw H v d → ∀ {u : Value}, RelV v u → ∃ as, Reads h u d as
  | _, _, .non, u, r => by
    obtain rfl : u = Value.none := r
    exact ⟨_, .none⟩
  | _, _, .bl b, u, r => by
    obtain rfl : u = Value.bool b := r
    exact ⟨_, .bool b⟩
  | _, _, .int i, u, r => by
    obtain ⟨t, rfl⟩ := r
    exact ⟨_, .int i t⟩
  | _, _, .str z, u, r => by
    obtain ⟨t, rfl⟩ := r
    exact ⟨_, .str z t⟩
  | _, _, .lst (a := a) e hs, u, r => by
    obtain rfl : u = Value.ref a := r
    obtain ⟨_, its, n, rv, g⟩ := (show ObjOk P w H h a (.lst _) from ok a _ e)
    obtain ⟨as, ra⟩ := hs.reads ok rv
    exact ⟨_, .list g rfl rfl (by simpa using ra)⟩
  | _, _, .tup (a := a) e hs, u, r => by
    obtain rfl : u = Value.ref a := r
    obtain ⟨_, its, rv, o, g, hc, n, hd⟩ := (show ObjOk P w H h a (.tup _) from ok a _ e)
    obtain ⟨as, ra⟩ := hs.reads ok rv
    exact ⟨_, .tuple g hc hd (by simpa using ra)⟩
theorem ShwAll.reads {P : Program} {w : World} {H : Hp} {h : Heap} (ok : HOk P w H h) : ∀ {vs : List V} {ds : List PyData}, ShwAll H vs ds → ∀ {us : List Value}, Vals vs us → ∃ as, ReadsAll h us ds as
  | _, _, .nil, _, .nil => ⟨_, .nil⟩
  | _, _, .cons h1 t1, _, .cons r1 r2 => by
    obtain ⟨a1, e1⟩ := h1.reads ok r1
    obtain ⟨a2, e2⟩ := t1.reads ok r2
    exact ⟨_, .cons e1 e2⟩
end
/-- what repr tells of it -/
def Says (H : Hp) (v : V) (d : PyData) : Prop := Shw H v d ∨ ∃ a, v = .ref a ∧ H a = some (.dK []) ∧ d = .dict []
section
variable {X : Cx}
theorem call_reprD (gd : X.A.guards = some []) (hu : X.A.units + 90 < cLine) : CallR X (.builtin "repr") (fun xs H Q => ∃ v d, xs = [v] ∧ Says H v d ∧ d.showable = true ∧ d.depth ≤ 80 ∧ d.shown.length ≤ sizeLine ∧ Q (.str d.shown) H) := by
  intro pins s σ H xs us Q I r h
  obtain ⟨v, d, rfl, hs, hz, hd, hl, q⟩ := h
  obtain ⟨u, rfl, ru⟩ : ∃ u, us = [u] ∧ RelV v u := by
    cases r with
    | cons a b =>
      cases b
      exact ⟨_, rfl, a⟩
  obtain ⟨as, ra, hsm⟩ : ∃ as, Reads s.heap u d as ∧ (d.hasDict = true → sysModules ∉ as) := by
    rcases hs with hs | ⟨a, rfl, ha, rfl⟩
    · obtain ⟨as, ra⟩ := hs.reads I.hok ru
      exact ⟨as, ra, PyData.noDict_hsm hs.noDict⟩
    · obtain rfl : u = Value.ref a := ru
      obtain ⟨_, hn, vs, kv, ho⟩ := (show ObjOk X.prog X.w H s.heap a (.dK []) from I.hok a _ ha)
      cases kv
      obtain ⟨o, es, ep, g, hc, hd1, _, he, _⟩ := ho
      refine ⟨_, .dict (as := []) (bs := []) g hc.1 hd1 ?_ ?_, fun _ m => ?_⟩
      · have e0 : es.toList = [] := by
          generalize es.toList = l at he
          cases he
          rfl
        rw [e0]
        exact .nil
      · have e0 : es.toList = [] := by
          generalize es.toList = l at he
          cases he
          rfl
        rw [e0]
        exact .nil
      · have e1 : sysModules = a := by simpa using m
        rw [← e1] at hn
        simp at hn
  have fin : ∀ h' uu tk, (∀ b o, s.heap.get? b = some o → h'.get? b = some o) → EP X pins σ Q (.str d.shown uu) { s with heap := h', toks := tk } := fun h' uu tk k => ⟨.str d.shown, H, I.kept k, ⟨_, rfl⟩, q⟩
  cases ra with
  | none =>
    simp only [PyData.shown] at fin
    exact PySem.P.repr_of_none (fin s.heap _ _ fun _ _ e => e)
  | bool b =>
    simp only [PyData.shown] at fin
    exact PySem.P.repr_of_bool (fin s.heap _ _ fun _ _ e => e)
  | int i t =>
    simp only [PyData.shown] at fin
    exact PySem.P.repr_of_int (by simpa [PyData.showable] using hz) (fin s.heap _ _ fun _ _ e => e)
  | str x t =>
    simp only [PyData.shown] at fin
    exact PySem.P.repr_of_str (fin s.heap _ _ fun _ _ e => e) (by simpa only [PyData.shown] using hl)
  | list h1 h2 h3 h4 => exact repr_of_reads' (.list h1 h2 h3 h4) hz hsm gd (by omega) (fun _ _ e => e) (fun h' uu tk k => fin h' uu tk k) hl
  | tuple h1 h2 h3 h4 => exact repr_of_reads' (.tuple h1 h2 h3 h4) hz hsm gd (by omega) (fun _ _ e => e) (fun h' uu tk k => fin h' uu tk k) hl
  | dict h1 h2 h3 h4 h5 => exact repr_of_reads' (.dict h1 h2 h3 h4 h5) hz hsm gd (by omega) (fun _ _ e => e) (fun h' uu tk k => fin h' uu tk k) hl
/-! ### C(e, ..) in a try: __init__ may raise -/
def tMakeS (C : Addr) (sp : Sp) (E : L2.St → XK) (ta : TA) : TE := fun σ H Q => ta σ H fun vs H1 => ∀ x dx, H1 x = none → H1 dx = none → dx ≠ x → sp (.ref x :: vs) (upd (upd H1 dx (.own x)) x (.ins C dx [])) (fun v H2 => v = .non ∧ Q (.ref x) H2) (E σ)
end
section
variable {X : Cx} {CX : CXT} {k : Nat} {f C : Addr} {fd : FuncData} {ps : List Str} {sp : Sp} {E : L2.St → XK} {x : Str} {p pos : Pos} {e : Expr} {es : List Expr} {t : TA}
theorem pe_makeS (M : Mk X.K C f) (F : FnOk X.prog X.w X.K X.mg X.base CX k f fd ps sp) (hr : Room (k + 1) X.A) (hg : Gl X x) (hm : X.mg x = some (.ref C)) (hb : Binds X.K fd ps []) (hx : ∀ σ, PassesAt CX X σ (E σ)) (ha : PA X (e :: es) t)
    (hdb : (x == ("__debug__" : Str)) = false := by decide) (he : starEach (e :: es) X.env = (false, eval e X.env) :: starEach es X.env := by rfl) (hpl : (backTo pos (starEach es X.env)).any (·.1) = false := by rfl) :
    PE X (.Call (.Name x p) (e :: es) [] pos) (tMakeS C sp E t) := by
  refine ⟨fun pins s σ H Q I h => ?_⟩
  refine wpAny_Call_Name_kw (ld_glob I hg hm ?_ hdb)
  refine PySem.W.callWith_K (h₀ := X.base) I.ok.mod.kin M.kp (thn (ha.run pos pins s σ H _ I h) fun us s1 ⟨vs, H1, I1, r, q⟩ => ⟨I1.kIn, ?_⟩) he hpl
  have hq := q (s1.heap.objs.size + 1) s1.heap.objs.size (I1.hok.fresh (Nat.le_succ _)) (I1.hok.fresh (Nat.le_refl _)) (Nat.ne_of_lt (Nat.lt_succ_self _))
  have I2 := Inv.made (C := C) I1
  have r2 : Vals (V.ref (s1.heap.objs.size + 1) :: vs) (Value.ref (s1.heap.objs.size + 1) :: us) := .cons rfl r
  have hl : (Value.ref (s1.heap.objs.size + 1) :: us ++ []).length = ps.length := by
    have e := r2.length
    rw [F.len _ _ _ _ hq] at e
    rw [List.append_nil]
    exact e.symm
  have bb := hb _ (Value.ref (s1.heap.objs.size + 1) :: us) I2.kIn hl
  rw [List.append_nil] at bb
  refine wpAny_call (make_map (f := f) I1.kIn M.makes M.init (beq_iff_eq.mp M.fn) (codeAny_mono (F.run _ X.stack _ _ ⟨Value.ref (s1.heap.objs.size + 1) :: us, []⟩ (Value.ref (s1.heap.objs.size + 1) :: us) _ _ (E σ) (hr.make C us [])
    (I2.env0.make C us []) bb r2 hq) fun r s' hq' => ?_))
  cases r with
  | error e => exact hx σ pins _ _ e s' I2 hq'
  | ok fl =>
    cases fl with
    | ret u =>
      obtain ⟨v, H', I3, rv, ev, q3⟩ := I2.after hq'
      subst ev
      exact ⟨rv, ⟨V.ref (s1.heap.objs.size + 1), H', I3, rfl, q3⟩⟩
    | next => exact False.elim hq'
    | brk => exact False.elim hq'
    | cont => exact False.elim hq'
end
end RZ
set_option Elab.async false
set_option linter.all false
set_option maxRecDepth 100000
set_option maxHeartbeats 4000000
namespace SU
open PySem PySem.Spec PySem.Calls PyProof.Rows L2 CM LamX NdefX ClX
/-- what stands of a method of the class at C whose text says super().m(..), D the class of that text, f2 the def above -/
structure SupF (P : Program) (K : PySem.W.Frag) (C D f f2 : Addr) (m : Str) (F : NF) (fd : FuncData) : Prop where
  ex : ∃ (oc : Value) (od : Option Addr) (doc pm ct : Value) (osl : Array (Option Value)) (cc : Addr) (ccl : Value) (cdd : Option Addr) (vs : Array Value) (file : Str) (tf : Tok) (ccs : Array (Option Value)) (cl : Value) (cld : Option Addr) (csl : Array (Option Value)) (cdD cd : ClassData),
    fd = F.fd doc pm ct ∧ K.lookup f = some ⟨oc, od, .func (F.fd doc pm ct), osl⟩ ∧ F.cl = [(("__class__" : Str), cc)] ∧ PySem.W.codeIn K (.ref F.c) F.qual = true ∧ K.lookup F.c = some ⟨ccl, cdd, .fields vs, ccs⟩ ∧ vs[2]? = some (.str file tf) ∧ ((P.main.file : Str) == file) = true ∧
    K.lookup cc = some ⟨cl, cld, .cell (some (.ref D)), csl⟩ ∧ PySem.W.clsIn K D = some cdD ∧ PySem.W.mroIn K C (.ref D) = some true ∧ PySem.W.clsIn K C = some cd ∧ PySem.W.alongIn K m ((cd.mro.dropWhile (· != .ref D)).drop 1) = some (some (.ref f2)) ∧
    PySem.W.typeIn K (.ref f2) = some (.type "function") ∧ PySem.W.nsIn K cStatics "thirdparty.any" = some none ∧ PySem.W.fnIn K f2 = true
section
variable {P : Program} {w : World} {K : PySem.W.Frag} {mg : Str → Option Value} {base : Heap} {CX : CXT} {k : Nat}
theorem fnR_of {f : Addr} {fd : FuncData} {ps : List Str} {sp : Sp} (F : FnOk P w K mg base CX k f fd ps sp) (hb : Binds K fd ps []) : FnR P w K mg base CX k f sp := fun A outer s H us vs Q E hr e0 r h => by
  have hl : us.length = ps.length := by rw [← r.length]; exact F.len _ _ _ _ h
  have b := hb s us (e0.mod.kin.keeps fun b o e => (e0.bs b o e).1) (by rw [List.append_nil]; exact hl)
  rw [List.append_nil] at b
  exact F.run A outer s H ⟨us, []⟩ us vs Q E hr e0 b r h
def spSup (N ps : List Str) (C : Addr) (t : TA) (sp : Sp) : Sp := fun vs H Q E => vs.length = ps.length ∧ ∃ a dx fs, vs[0]? = some (.ref a) ∧ H a = some (.ins C dx fs) ∧ t (startF N vs [none]) H (fun ws H1 => sp (.ref a :: ws) H1 Q E)
theorem ok_super {C D f f2 : Addr} {m : Str} {F : NF} {fd : FuncData} {N ps ps' : List Str} {sp : Sp} {t : TA} {ar : Arg} {p0 p1 apos pos rp : Pos} {e : Expr} {es : List Expr} (S : NScope N ps ["__class__"] F.scope) (Z : SupF P K C D f f2 m F fd)
    (hps : ps = ar.arg :: ps') (hp : (F.params.posonlyargs ++ F.params.args).head? = some ar) (hks : F.scope.names.lookup ("super" : Str) = some .globalImplicit)
    (hbody : F.body = [.Return (some (.Call (.Attribute (.Call (.Name "super" p0) [] [] p1) m apos) (e :: es) [] pos)) rp])
    (htop : (P.main.scope.names.lookup ("super" : Str)).isSome = false) (msup : mg "super" = none) (hn : (m == ("__class__" : Str)) = false) (G : FnR P w K mg base CX k f2 sp)
    (ha : ∀ (g : Addr) (A : Around) (outer : List Env) (s : Shared) (H : Hp) (E : XK), PA (ncx CX P w K mg base N F g A outer s H E) (e :: es) t) (hx : ∀ (g : Addr) (A : Around) (outer : List Env) (s : Shared) (H : Hp) (E : XK), Passes CX (ncx CX P w K mg base N F g A outer s H E) E)
    (hst : ∀ env : Env, starEach (e :: es) env = (false, eval e env) :: starEach es env) (hpl : ∀ env : Env, (backTo pos (starEach es env)).any (·.1) = false)
    {pl : Env → Sem Bool} (hev : ∀ env : Env, eval (.Call (.Attribute (.Call (.Name "super" p0) [] [] p1) m apos) (e :: es) [] pos) env = (do
      let ov ← attributeBase (.Call (.Name "super" p0) [] [] p1) m env (eval (.Call (.Name "super" p0) [] [] p1) env)
      standAt apos.atName
      let (f, first) ← holding [ov] (getMethod ov m (pl env))
      callWith pos f first (backTo pos (starEach (e :: es) env)) [])) :
    FnOk P w K mg base CX (k + 1) f fd ps (spSup N ps C t sp) := by
  obtain ⟨oc, od, doc, pm, ct, osl, cc, ccl, cdd, cvs, file, tf, ccs, cl, cld, csl, cdD, cd, rfl, lk, hcl, hcd, hcode, hvs, hfile, hcell, hD, hsub, hC, hal, hty, hno, hfn⟩ := Z.ex
  refine ⟨fun vs H Q E h => h.1, fun A outer s H args us vs Q E hr e0 bt r h => ?_⟩
  obtain ⟨hl, a, dx, fs, h0, hi, hq⟩ := h
  have old : ∀ b o, base.get? b = some o → s.heap.get? b = some o := fun b o e => (e0.bs b o e).1
  have X0 : K.In s.heap := e0.mod.kin.keeps old
  have hH : ∀ {b : Addr} {o : Obj}, K.lookup b = some o → H b = none := fun {b o} e => (e0.bs b o (e0.mod.kin b o e)).2
  have Cl : CellsAt F.cl ["__class__"] [none] s.heap H := by
    refine ⟨rfl, fun y c z => ?_, fun x y c z1 z2 => ?_, fun i y z => ?_⟩
    · rw [hcl] at z
      have e1 : cc = c := by
        simp only [List.lookup] at z
        split at z
        · exact Option.some.inj z
        · cases z
      subst e1
      exact ⟨hH hcell, _, _, X0 _ _ hcell, rfl⟩
    · rw [hcl] at z1 z2
      simp only [List.lookup] at z1 z2
      split at z1
      · rename_i q1
        split at z2
        · rename_i q2
          rw [beq_iff_eq.mp q1, beq_iff_eq.mp q2]
        · cases z2
      · cases z1
    · cases i with
      | zero =>
        have e1 : "__class__" = y := Option.some.inj z
        subst e1
        exact ⟨cc, by rw [hcl]; rfl, fun v q => by cases q⟩
      | succ i => cases z
  refine PySem.ks_codeAny_call_defAt (fd := F.fd doc pm ct) (body := F.body) (binds := ps.zip us) hr.depth (X0 _ _ lk) rfl (e0.mod.nolimit.keeps old) (PySem.W.codeRec_of X0 hcd) rfl bt S.nocell (fun y hy => S.par _ (List.of_mem_zip (show (y.1, y.2) ∈ ps.zip us from hy)).1) (fun h₁ hns kp => ?_) S.co S.gen S.kind
  have I : Inv (ncx CX P w K mg base N F f A outer s H E) [] (startF N vs [none]) H { s with heap := h₁, toks := s.toks + (ps.zip us).length } := inv_startN S hr.hd e0 hl r Cl hns kp
  have hEnv : PySem.callEnv (F.fd doc pm ct) s.heap.objs.size f = envF F f s.heap.objs.size := rfl
  rw [hEnv]
  generalize hs1 : ({ s with heap := h₁, toks := s.toks + (ps.zip us).length } : Shared) = s1 at I ⊢
  have hs1h : s1.heap = h₁ := by rw [← hs1]
  rw [hbody]
  refine PySem.ks_wpAt_execs_cons (PySem.ks_wpAt_Return_some (PySem.ks_wpAt_MethodCall (pl := pl (envF F f s.heap.objs.size)) ?_ (hev _)))
  have lk1 := I.kIn _ _ lk
  have hk : (envF F f s.heap.objs.size).scope.kind = .function := S.kind
  have hfr : F.scope.names.lookup ("__class__" : Str) = some .free := S.frk _ (List.mem_singleton.mpr rfl)
  refine PySem.ks_wpAt_super_base (env := envF F f s.heap.objs.size) hks hfr hn rfl lk1 rfl hp rfl (I.kIn _ _ hcode) rfl hvs hfile htop ?_
  obtain ⟨mb, hmb, hbb⟩ := I.mod.blt
  refine PySem.W.ks_loadName_global hk hks (loadGlobal_builtin (env := envF F f s.heap.objs.size) (I.mod.glob.keeps I.bk) msup (hmb.keeps I.bk) ((hbb _ (by decide +kernel)).trans (by rfl)) ⟨rfl, ?_⟩)
  refine wpAny_loadName_free hk hfr (by rw [show (envF F f s.heap.objs.size).cells = F.cl from rfl, hcl]; rfl) ⟨_, I.kIn _ _ hcell, rfl⟩ ?_
  obtain ⟨us0, ut, rfl⟩ : ∃ u0 ut, us = u0 :: ut := by
    cases us with
    | nil =>
      have z := r.length
      rw [hl, hps] at z
      cases z
    | cons u0 ut => exact ⟨_, _, rfl⟩
  have ru : us0 = Value.ref a := by
    cases r with
    | cons rv rt =>
      have e1 := Option.some.inj h0
      subst e1
      exact rv
  subst ru
  refine wpAny_loadName_local hk (S.par _ (by rw [hps]; exact List.mem_cons_self)) (hs1h ▸ hns) (v := .ref a) (zip_look (i := 0) ?nd ?p0 rfl) ?_
  case nd =>
    have q := S.nd.sublist (List.take_sublist (ps.length + 1) N)
    rw [show N.take (ps.length + 1) = ps ++ [("__class__" : Str)] from S.pre] at q
    exact (List.nodup_append.mp q).1
  case p0 => rw [hps]; rfl
  have X1 : K.In s1.heap := I.kIn
  obtain ⟨hh, g, dr, tk, os⟩ := s1
  obtain ⟨oD, hD1, hD2⟩ : ∃ oD, hh.get? D = some oD ∧ oD.data = .cls cdD := by
    unfold PySem.W.clsIn at hD
    split at hD
    · rename_i c d cd' sl ho
      cases hD
      exact ⟨_, X1 _ _ ho, rfl⟩
    · cases hD
  obtain ⟨mA, O, _⟩ := ins_get I.hok hi
  obtain ⟨odi, J, _⟩ := O.look
  refine PySem.ks_wpAny_isType_cls hD1 hD2 ⟨rfl, ?_⟩
  refine PySem.ks_wpAny_call_super hD1 hD2 J.at_ J.cls (fun c e => by cases e) (PySem.W.looks_mroIn X1 hsub) (fun h' eso k => ?_)
  have I1 : Inv (ncx CX P w K mg base N F f A outer s H E) [] (startF N vs [none]) H ⟨h', g, dr, tk, os⟩ := I.kept (t' := tk) k
  have X2 : K.In h' := I1.kIn
  obtain ⟨of, hof, hofc⟩ : ∃ of, h'.get? f2 = some of ∧ of.cls = .type "function" := by
    have ht' : (K.lookup f2).map (·.cls) = some (.type "function") := hty
    cases z : K.lookup f2 with
    | none => rw [z] at ht'; cases ht'
    | some of => rw [z] at ht'; exact ⟨of, X2 _ _ z, Option.some.inj ht'⟩
  obtain ⟨mA1, O1, _⟩ := ins_get I1.hok hi
  obtain ⟨odi1, J1, _⟩ := O1.look
  refine PySem.ks_wpAny_getMethod_super eso (PySem.W.looks_opaque X2 hno) (l₀ := cd.mro) (fun A Q E s k q => wpAny_bind ((PySem.W.looks_clsIn X2 hC) A _ E s k (wpAny_pure q))) rfl X2 hal hof hofc (PySem.W.ks_ne X2 J1 hC) hn ?_
  have I2 := met_new (g := f2) (C := a) I1
  have hb2 : (ncx CX P w K mg base N F f A outer s H E).base.get? h'.objs.size = none := base_none I1 (Nat.le_refl _)
  refine wpAny_mono (callwith_cm (X := ncx CX P w K mg base N F f A outer s H E) I2 hb2 hfn (thn ((ha f A outer s H E).run pos _ _ _ _ _ I2 hq) fun ws s3 ⟨zs, H2, I3, rv, q2⟩ => ⟨⟨pin_at I3, I3.kIn⟩, run_cm G (hr.deeper _) (hx f A outer s H E) I3 rv q2⟩) (hst _) (hpl _)) (fun u s' hs => ?_) fun e s' hs => hs
  obtain ⟨v, H', J, rv, qv⟩ := hs
  exact ⟨v, H', J.os, J.bare, J.base, J.hok, rv, qv⟩
end
end SU
set_option Elab.async false
set_option linter.all false
set_option maxRecDepth 100000
set_option maxHeartbeats 4000000
namespace SU
open PySem PySem.Spec PySem.Calls PyProof.Rows L2 CM LamX NdefX ClX
/-- super().m(x), alone in the text: the name, the method, the argument -/
def supSt : List Stmt → Option (Str × Str × Str)
  | [.Return (some (.Call (.Attribute (.Call (.Name s _) [] [] _) m p) [.Name x _] [] q)) _] => if p.endLine == q.line then some (s, m, x) else none
  | _ => none
theorem supSt_ok {b : List Stmt} {s m x : Str} (h : supSt b = some (s, m, x)) : ∃ p0 p1 p2 p3 p4 p5 : Pos, b = [.Return (some (.Call (.Attribute (.Call (.Name s p0) [] [] p1) m p2) [.Name x p3] [] p4)) p5] ∧ (p2.endLine == p4.line) = true := by
  unfold supSt at h
  split at h
  · split at h
    · rename_i q
      cases h
      exact ⟨_, _, _, _, _, _, rfl, q⟩
    · cases h
  · cases h
theorem sup_ev {p0 p1 p2 p3 p4 : Pos} {m x : Str} (hl : (p2.endLine == p4.line) = true) (env : Env) : eval (.Call (.Attribute (.Call (.Name "super" p0) [] [] p1) m p2) [.Name x p3] [] p4) env = (do
      let ov ← attributeBase (.Call (.Name "super" p0) [] [] p1) m env (eval (.Call (.Name "super" p0) [] [] p1) env)
      standAt p2.atName
      let (f, first) ← holding [ov] (getMethod ov m (do return (← importBound (.Call (.Name "super" p0) [] [] p1) env).getD true))
      callWith p4 f first (backTo p4 (starEach [.Name x p3] env)) []) := by
  have hpos : ∀ o : Expr, methodCallPos true o env p2 p4 = pure p4 := fun o => by
    unfold methodCallPos
    simp [hl]
  conv => lhs; unfold eval
  show (do
      let ov ← attributeBase (.Call (.Name "super" p0) [] [] p1) m env (eval (.Call (.Name "super" p0) [] [] p1) env)
      standAt p2.atName
      let (f, first) ← holding [ov] (calleeOf true (.Call (.Name "super" p0) [] [] p1) env ov m)
      let callPos ← methodCallPos true (.Call (.Name "super" p0) [] [] p1) env p2 p4
      callWith callPos f first (backTo p4 (starEach [.Name x p3] env)) (backToKw p4 (keywordEach [] env))) = _
  simp only [hpos]
  rfl
def supAr (p : Arguments) : Option (Str × Str) := match p with
  | ⟨[], [⟨a, none, _⟩, ⟨b, none, _⟩], none, [], [], none, []⟩ => some (a, b)
  | _ => none
theorem supAr_ok {p : Arguments} {a b : Str} (h : supAr p = some (a, b)) : ∃ q0 q1 : Pos, p = ⟨[], [⟨a, none, q0⟩, ⟨b, none, q1⟩], none, [], [], none, []⟩ := by
  unfold supAr at h
  split at h
  · cases h
    exact ⟨_, _, rfl⟩
  · cases h
def fnAt (K : PySem.W.Frag) (f : Addr) : Option FuncData := match K.lookup f with
  | some ⟨_, _, .func fd, _⟩ => some fd
  | _ => none
theorem fnAt_ok {K : PySem.W.Frag} {f : Addr} {fd : FuncData} (h : fnAt K f = some fd) : ∃ oc od osl, K.lookup f = some ⟨oc, od, .func fd, osl⟩ := by
  unfold fnAt at h
  split at h
  · rename_i e
    cases h
    exact ⟨_, _, _, e⟩
  · cases h
def fileAt (K : PySem.W.Frag) (c : Addr) : Option Str := match K.lookup c with
  | some ⟨_, _, .fields vs, _⟩ => (match (vs[2]? : Option Value) with
    | some (.str z _) => some z
    | _ => none)
  | _ => none
theorem fileAt_ok {K : PySem.W.Frag} {c : Addr} {z : Str} (h : fileAt K c = some z) : ∃ oc od vs osl t, K.lookup c = some ⟨oc, od, .fields vs, osl⟩ ∧ vs[2]? = some (.str z t) := by
  unfold fileAt at h
  split at h
  · rename_i e
    split at h
    · rename_i e2
      cases h
      exact ⟨_, _, _, _, _, e, e2⟩
    · cases h
  · cases h
def cellAt (K : PySem.W.Frag) (c : Addr) : Option Addr := match K.lookup c with
  | some ⟨_, _, .cell (some (.ref D)), _⟩ => some D
  | _ => none
theorem cellAt_ok {K : PySem.W.Frag} {c D : Addr} (h : cellAt K c = some D) : ∃ oc od osl, K.lookup c = some ⟨oc, od, .cell (some (.ref D)), osl⟩ := by
  unfold cellAt at h
  split at h
  · rename_i e
    cases h
    exact ⟨_, _, _, e⟩
  · cases h
/-- how the def ends: its cell, its code object, what else must be nothing -/
def supEnd (fd : FuncData) : Option (Addr × Addr) := match fd with
  | ⟨_, _, _, _, _, g, [(x, cc)], .none, .none, _, _, none, .ref c, _, b⟩ => if decide (x = ("__class__" : Str)) && (decide (g = mainGlobals) && decide (b = builtinsNs)) then some (cc, c) else none
  | _ => none
def bodyOf (fd : FuncData) : List Stmt := match fd.body with
  | .stmts b => b
  | _ => []
theorem supEnd_ok {fd : FuncData} {cc c : Addr} (h : supEnd fd = some (cc, c)) (hb : bodyOf fd ≠ []) : ∃ doc pm ct, fd = PySem.W.fnX fd.name fd.qualname fd.params (bodyOf fd) fd.scope [(("__class__" : Str), cc)] .none .none doc pm none (.ref c) ct := by
  unfold supEnd at h
  split at h
  · split at h
    · rename_i q
      simp only [Bool.and_eq_true, decide_eq_true_eq] at q
      obtain ⟨rfl, rfl, rfl⟩ := q
      cases h
      rename_i bd _ _ _ _
      unfold bodyOf at hb ⊢
      first
        | (cases bd with
          | stmts b => exact ⟨_, _, _, rfl⟩
          | _ => exact absurd rfl hb)
    · cases h
  · cases h
/-- the whole word: C's own m(self, x) says super().m(x), D is the class of the text, f2 the def that is meant -/
def supB (F0 : Str) (K : PySem.W.Frag) (C D f2 : Addr) (m x : Str) : Bool := match fnAt K (He.ma K C m) with
  | some fd => (match supEnd fd with
    | some (cc, c) => decide (supSt (bodyOf fd) = some (("super" : Str), m, x)) && (decide (supAr fd.params = some (("self" : Str), x)) && (nscB ["self", x, "__class__"] ["self", x] ["__class__"] fd.scope && (decide (fd.scope.names.lookup ("super" : Str) = some .globalImplicit) &&
      (PySem.W.codeIn K (.ref c) fd.qualname && (decide (fileAt K c = some F0) && (decide (cellAt K cc = some D) && ((PySem.W.clsIn K D).isSome && (decide (PySem.W.mroIn K C (.ref D) = some true) && ((match PySem.W.clsIn K C with
        | some cd => decide (PySem.W.alongIn K m ((cd.mro.dropWhile (· != .ref D)).drop 1) = some (some (.ref f2)))
        | none => false) && (decide (PySem.W.typeIn K (.ref f2) = some (.type "function")) && (decide (PySem.W.nsIn K cStatics "thirdparty.any" = some none) && PySem.W.fnIn K f2)))))))))))
    | none => false)
  | none => false
structure SupOk (F0 : Str) (P : Program) : Prop where
  file : ((P.main.file : Str) == F0) = true
  top : (P.main.scope.names.lookup ("super" : Str)).isSome = false
section
variable {P : Program} {w : World} {K : PySem.W.Frag} {mg : Str → Option Value} {base : Heap} {CX : CXT} {k : Nat}
theorem supB_ok {F0 : Str} {C D f2 : Addr} {m x : Str} (h : supB F0 K C D f2 m x = true) (O : SupOk F0 P) : ∃ (F : NF) (fd : FuncData) (p0 p1 p2 p3 p4 p5 q0 q1 : Pos), SupF P K C D (He.ma K C m) f2 m F fd ∧
    F.body = [.Return (some (.Call (.Attribute (.Call (.Name "super" p0) [] [] p1) m p2) [.Name x p3] [] p4)) p5] ∧ (p2.endLine == p4.line) = true ∧ F.params = ⟨[], [⟨"self", none, q0⟩, ⟨x, none, q1⟩], none, [], [], none, []⟩ ∧ NScope ["self", x, "__class__"] ["self", x] ["__class__"] F.scope ∧ F.scope.names.lookup ("super" : Str) = some .globalImplicit := by
  unfold supB at h
  split at h
  · rename_i fd e
    split at h
    · rename_i cc c e2
      simp only [Bool.and_eq_true, decide_eq_true_eq] at h
      obtain ⟨h1, h2, h3, h4, h5, h6, h7, h8, h9, h10, h11, h12, h13⟩ := h
      obtain ⟨p0, p1, p2, p3, p4, p5, eb, el⟩ := supSt_ok h1
      obtain ⟨q0, q1, ep⟩ := supAr_ok h2
      obtain ⟨doc, pm, ct, ef⟩ := supEnd_ok e2 (by rw [eb]; exact List.cons_ne_nil _ _)
      obtain ⟨oc, od, osl, lk⟩ := fnAt_ok e
      obtain ⟨ccl, cdd, vs, ccs, tf, lc, hv⟩ := fileAt_ok h6
      obtain ⟨cl, cld, csl, lcell⟩ := cellAt_ok h7
      obtain ⟨cdD, hD⟩ := Option.isSome_iff_exists.mp h8
      split at h10
      · rename_i cd hC
        have h10 := of_decide_eq_true h10
        refine ⟨⟨fd.name, fd.qualname, fd.params, bodyOf fd, fd.scope, [("__class__", cc)], c⟩, fd, p0, p1, p2, p3, p4, p5, q0, q1, ⟨oc, od, doc, pm, ct, osl, cc, ccl, cdd, vs, F0, tf, ccs, cl, cld, csl, cdD, cd, ef, ?_, rfl, h5, lc, hv, O.file, lcell, hD, h9, hC, h10, h11, h12, h13⟩, eb, el, ep, nscope_by h3, h4⟩
        rw [lk]
        exact congrArg some (congrArg (fun z => (⟨oc, od, .func z, osl⟩ : Obj)) ef)
      · cases h10
    · cases h
  · cases h
end
section
variable {P : Program} {w : World} {K : PySem.W.Frag} {mg : Str → Option Value} {base : Heap} {k : Nat}
/-- sides(self, labels), as the class above tells them -/
def spSides (C : Addr) (sp : Sp) : Sp := fun vs H Q E => ∃ a v dx fs, vs = [.ref a, v] ∧ H a = some (.ins C dx fs) ∧ sp [.ref a, v] H Q E
theorem ok_supSides {F0 : Str} {C D f2 : Addr} {fd2 : FuncData} {sp : Sp} (h : supB F0 K C D f2 "sides" "labels" = true) (O : SupOk F0 P) (msup : mg "super" = none) (G : FnOk P w K mg base CX0 k f2 fd2 ["self", "labels"] sp) (hb2 : Binds K fd2 ["self", "labels"] []) :
    ∃ fd, FnOk P w K mg base CX0 (k + 1) (He.ma K C "sides") fd ["self", "labels"] (spSides C sp) ∧ Binds K fd ["self", "labels"] [] := by
  obtain ⟨F, fd, p0, p1, p2, p3, p4, p5, q0, q1, Z, hb, he, hp, S, hs⟩ := supB_ok h O
  refine ⟨fd, FnOk.imp (ok_super (t := tCons (tVar 1) tNil) (ps' := ["labels"]) S Z rfl (by rw [hp]; rfl) hs hb O.top msup (by decide +kernel) (fnR_of G hb2) (fun g A outer s H E => pa_cons (pe_var (i := 1) rfl (.inl (S.par _ (by decide +kernel)))) pa_nil) (fun _ _ _ _ _ _ => pass0) (fun _ => rfl) (fun _ => rfl) (sup_ev he)) (fun vs H Q E hh => ?_), ?_⟩
  · obtain ⟨a, v, dx, fs, rfl, hi, q⟩ := hh
    exact ⟨rfl, a, dx, fs, rfl, hi, v, rfl, q⟩
  · obtain ⟨oc, od, doc, pm, ct, osl, cc, ccl, cdd, cvs, file, tf, ccs, cl, cld, csl, cdD, cd, rfl, lk, _⟩ := Z.ex
    refine Binds.all fun us hl => ?_
    match us, hl with
    | [u0, u1], _ =>
      obtain ⟨nm, qual, params, body, scope, cl, c⟩ := F
      dsimp only at hp
      subst hp
      rfl
end
end SU
set_option Elab.async false
set_option linter.all false
set_option maxRecDepth 100000
set_option maxHeartbeats 4000000
namespace PR
open PySem PySem.Spec PySem.Calls PyProof.Rows L2 CM SU
/-- return x.f -/
def getSt : List Stmt → Option (Str × Str)
  | [.Return (some (.Attribute (.Name x _) f _)) _] => some (x, f)
  | _ => none
theorem getSt_ok {b : List Stmt} {x f : Str} (h : getSt b = some (x, f)) : ∃ p1 p2 p3 : Pos, b = [.Return (some (.Attribute (.Name x p1) f p2)) p3] := by
  unfold getSt at h
  split at h
  · cases h
    exact ⟨_, _, _, rfl⟩
  · cases h
def oneAr (p : Arguments) : Option Str := match p with
  | ⟨[], [⟨a, none, _⟩], none, [], [], none, []⟩ => some a
  | _ => none
theorem oneAr_ok {p : Arguments} {a : Str} (h : oneAr p = some a) : ∃ q0 : Pos, p = ⟨[], [⟨a, none, q0⟩], none, [], [], none, []⟩ := by
  unfold oneAr at h
  split at h
  · cases h
    exact ⟨_, rfl⟩
  · cases h
def flatEnd (fd : FuncData) : Bool := match fd with
  | ⟨_, _, _, _, _, g, [], .none, .none, _, _, _, _, _, b⟩ => decide (g = mainGlobals) && decide (b = builtinsNs)
  | _ => false
theorem flatEnd_ok {fd : FuncData} (h : flatEnd fd = true) (hb : bodyOf fd ≠ []) : ∃ doc pm an ct, fd = PySem.W.fnOf fd.name fd.qualname fd.params (bodyOf fd) fd.scope .none .none doc pm an fd.code ct := by
  unfold flatEnd at h
  split at h
  · simp only [Bool.and_eq_true, decide_eq_true_eq] at h
    obtain ⟨rfl, rfl⟩ := h
    rename_i bd _ _ _ _ _ _
    unfold bodyOf at hb ⊢
    first
      | (cases bd with
        | stmts b => exact ⟨_, _, _, _, rfl⟩
        | _ => exact absurd rfl hb)
  · cases h
def fscB (N ps : List Str) (sc : Scope) : Bool := decide (sc.kind = .function) && (!sc.isCoroutine && (!sc.isGenerator && (decide N.Nodup && (decide (N.take ps.length = ps) && (ps.all (fun x => decide (sc.names.lookup x = some .local)) && sc.names.all (fun y => !decide (y.2 = .free)))))))
theorem fscB_ok {N ps : List Str} {sc : Scope} (h : fscB N ps sc = true) : FnScope N ps sc := by
  unfold fscB at h
  simp only [Bool.and_eq_true, Bool.not_eq_true', decide_eq_true_eq, List.all_eq_true, decide_eq_false_iff_not] at h
  obtain ⟨h1, h2, h3, h4, h5, h6, h7⟩ := h
  exact ⟨h1, h2, h3, h4, h5, fun x hx => .inl (h6 x hx), h7⟩
/-- the class at C has f as a property whose getter returns self.g -/
def propB (K : PySem.W.Frag) (C : Addr) (f g : Str) : Bool := match PySem.W.findIn K (.ref C) f with
  | some (some (.ref p)) => He.eqO (PySem.W.specialIn K (.ref p) "__get__") (some (some (.builtin "property.__get__"))) && (decide (PySem.W.takesIn K (.ref p) = some true) && (match PySem.W.recIn K p "property" with
    | some (.ref q :: _) => (match fnAt K q with
      | some fd => decide (getSt (bodyOf fd) = some (("self" : Str), g)) && (decide (oneAr fd.params = some ("self" : Str)) && (flatEnd fd && (fscB ["self"] ["self"] fd.scope && PySem.W.codeIn K fd.code fd.qualname)))
      | none => false)
    | _ => false))
  | _ => false
section
variable {P : Program} {w : World} {K : PySem.W.Frag} {mg : Str → Option Value} {base : Heap} {CX : CXT}
theorem propB_ok {C : Addr} {f g : Str} (h : propB K C f g = true) (c : Cls K C) (n : NoAttr K C g) : ∃ (p q : Addr) (fd : FuncData), PropOf K C f p q ∧ FnOk P w K mg base CX 1 q fd ["self"] (getSp C g) ∧ Binds K fd ["self"] [] := by
  unfold propB at h
  split at h
  · rename_i p e
    obtain ⟨h1, h⟩ := He.ba h
    obtain ⟨h2, h⟩ := He.ba h
    split at h
    · rename_i q rest e2
      split at h
      · rename_i fd e3
        simp only [Bool.and_eq_true, decide_eq_true_eq] at h
        obtain ⟨h3, h4, h5, h6, h7⟩ := h
        obtain ⟨p1, p2, p3, eb⟩ := getSt_ok h3
        obtain ⟨q0, ep⟩ := oneAr_ok h4
        obtain ⟨doc, pm, an, ct, ef⟩ := flatEnd_ok h5 (by rw [eb]; exact List.cons_ne_nil _ _)
        obtain ⟨oc, od, osl, lk⟩ := fnAt_ok e3
        rw [ef] at lk
        refine ⟨p, q, _, ⟨e, He.eqO_ok h1, of_decide_eq_true (by simpa using h2), ⟨rest, e2⟩⟩, fn_getter lk h7 (fscB_ok h6) rfl eb c n, ?_⟩
        refine Binds.all fun us hl => ?_
        match us, hl with
        | [u0], _ =>
          rw [ep]
          rfl
      · cases h
    · cases h
  · cases h
end
end PR
set_option Elab.async false
set_option linter.all false
set_option maxRecDepth 100000
set_option maxHeartbeats 4000000
namespace BI
open PySem PySem.Spec PySem.Calls PyProof.Rows L2 CM
/-! ### t[::-1], a tuple -/
section
variable {prog : Program} {w : World} {A : Around} {E : Value → Shared → Prop} {s : Shared}
theorem adjust_rev (n : Nat) : Builtin.Slice.sliceAdjust none none (-1) (n : Int) = ((n : Int) - 1, -1) := by
  first
  | rfl
  | (unfold Builtin.Slice.sliceAdjust; simp)
theorem places_rev (n : Nat) : Builtin.Slice.slicePlaces ((n : Int) - 1) (-1) (-1) = n := by
  unfold Builtin.Slice.slicePlaces
  rw [if_neg (by decide)]
  split
  · rw [show (-(-1) : Int) = 1 by decide, Int.ediv_one]
    omega
  · omega
theorem pick_rev (xs : Array Value) : ((List.range xs.size).filterMap fun (k : Nat) => xs[(((xs.size : Int) - 1) + (k : Int) * -1).toNat]?).toArray = xs.toList.reverse.toArray := by
  have e : (fun (k : Nat) => xs[(((xs.size : Int) - 1) + (k : Int) * -1).toNat]?) = (fun k : Nat => xs[k]?) ∘ fun k : Nat => xs.size - 1 - k := by
    funext k
    show xs[_]? = xs[xs.size - 1 - k]?
    have : (((xs.size : Int) - 1) + (k : Int) * -1).toNat = xs.size - 1 - k := by omega
    rw [this]
  rw [e, ← List.filterMap_map, PySem.W.krv_range, List.filterMap_reverse, PySem.W.krv_all]
theorem sliceApplied_rev {sl : Addr} {vl vu vs : Value} {n : Nat} {Q : Int × Int × Nat → Shared → Prop} (hs : s.heap.IsSliceOf sl vl vu vs) (pl : IsPart vl none) (pu : IsPart vu none) (ps : IsPart vs (some (-1)))
    (h : Q ((n : Int) - 1, -1, n) s) : wpAny (model prog w) A (Builtin.Slice.sliceApplied (.ref sl) (pure (n : Int))) Q E s := by
  obtain ⟨os, hos, hcs, hds⟩ := id hs
  unfold Builtin.Slice.sliceApplied Builtin.Slice.sliceFields
  refine wpAny_bind (wpAny_bind (wpAny_field hos hds (x := vl) rfl (wpAny_bind (wpAny_field hos hds (x := vu) rfl (wpAny_bind (wpAny_field hos hds (x := vs) rfl (wpAny_pure ?_)))))))
  refine wpAny_bind (HT.slicePart_ ps ?_)
  show wpAny _ _ (if ((-1 : Int) == 0) = true then _ else _) _ _ s
  rw [if_neg (by decide)]
  refine wpAny_bind (HT.slicePart_ pl (wpAny_bind (HT.slicePart_ pu (wpAny_bind (wpAny_pure ?_)))))
  show wpAny _ _ (match Builtin.Slice.sliceAdjust none none (-1) (n : Int) with | (lo, hi) => pure (lo, (-1 : Int), Builtin.Slice.slicePlaces lo hi (-1))) _ _ s
  rw [adjust_rev n]
  show wpAny _ _ (pure ((n : Int) - 1, (-1 : Int), Builtin.Slice.slicePlaces ((n : Int) - 1) (-1) (-1))) _ _ s
  rw [places_rev]
  exact wpAny_pure h
theorem getItem_tuple_rev {t sl : Addr} {items : Array Value} {vl vu vs : Value} {Q : Value → Shared → Prop} (ht : IsTup s.heap t items) (hs : s.heap.IsSliceOf sl vl vu vs) (pl : IsPart vl none) (pu : IsPart vu none) (ps : IsPart vs (some (-1)))
    (h : Q (.ref s.heap.objs.size) { s with heap := s.heap.push { cls := .type "tuple", data := .seq items.toList.reverse.toArray } }) (hsz : items.size ≤ sizeLine) : wpAny (model prog w) A (getItem (.ref t) (.ref sl)) Q E s := by
  have htake : sizeOk (.seq items.toList.reverse.toArray) := by
    show items.toList.reverse.toArray.size ≤ sizeLine
    rw [List.size_toArray, List.length_reverse, Array.length_toList]
    exact hsz
  obtain ⟨os, hos, hcs, hds⟩ := id hs
  have hTs : s.TypeIs (.ref sl) "slice" := ⟨os, hos, hcs⟩
  unfold getItem
  try with_reducible refine wpAny_holding ?_
  first | refine wpAny_bind (wpAny_pure ?_) | skip
  refine wpAny_bind (wpAny_sequenceKey ht.typeIs (by decide) ?_)
  refine wpAny_bind (wpAny_callSpecial?_slot (name := Str.ofString "__getitem__") ht.typeIs PyProof.Rows.slot_tuple_getitem
    (wpAny_call_entry PyProof.Rows.slot_tuple_getitem ht.typeIs entry_tuple_getitem ?_ (args_tuple_getitem _ _)))
  show wpAny _ _ (Builtin.Tuple.tupleItemsOf (.ref t) >>= _) _ _ s
  refine wpAny_bind (tupleItemsOf_ ht ?_)
  refine wpAny_bind (wpAny_typeOf hTs ?_)
  rw [if_pos (by decide)]
  refine wpAny_bind (sliceApplied_rev hs pl pu ps ?_)
  have hno : ¬ ((((items.size : Int) - 1) == 0 && (-1 : Int) == 1 && items.size == items.size) = true) := by
    intro q
    rw [Bool.and_eq_true, Bool.and_eq_true] at q
    exact absurd q.1.2 (by decide)
  show wpAny _ _ (if (((items.size : Int) - 1) == 0 && (-1 : Int) == 1 && items.size == items.size) = true then _ else _) _ _ s
  rw [if_neg hno, pick_rev]
  first
    | exact wpAny_bind (m := Builtin.Tuple.tupleExact _) (wpAny_newObj_type (wpAny_pure ⟨_, rfl, wpAny_pure h⟩) htake)
    | exact wpAny_bind (m := Builtin.Tuple.tupleExact _) (wpAny_newObj_type (wpAny_bind (wpAny_pure (wpAny_pure ⟨_, rfl, wpAny_pure h⟩))) htake)
    | exact wpAny_bind (wpAny_bind (m := Builtin.Tuple.tupleExact _) (wpAny_newObj_type (wpAny_pure (wpAny_pure ⟨_, rfl, wpAny_pure h⟩)) htake))
    | exact wpAny_bind (wpAny_bind (m := Builtin.Tuple.tupleExact _) (wpAny_newObj_type (wpAny_pure ⟨_, rfl, wpAny_pure h⟩) htake))
end
section
variable {X : Cx}
def tRevT (K : PySem.W.Frag) (te : TE) : TE := fun σ H Q => te σ H fun x H1 => ∃ a xs, x = .ref a ∧ SqT K H1 a xs ∧ ∀ p, H1 p = none → Q (.ref p) (upd H1 p (.tup xs.reverse))
theorem pe_revT {e : Expr} {te : TE} {k : Nat} {p1 p2 p3 pos : Pos} (he : PE X e te) : PE X (.Subscript e (.Slice none none (some (.UnaryOp .USub (.Constant (.int 1) k p1) p2)) p3) pos) (tRevT X.K te) := by
  refine ⟨fun pins s σ H Q I h => ?_⟩
  refine Subscript_ (thn (he.run pins s σ H _ I h) fun v s1 ⟨x, H1, I1, r1, q1⟩ => ?_)
  obtain ⟨a, xs, ex, hx, q⟩ := q1
  subst ex
  cases r1
  have hst : PO X (some (.UnaryOp .USub (.Constant (.int 1) k p1) p2)) (tPart (tUn (rU fun i => .int (-i)) (tC (.int 1)))) := po_some (pe_un un_neg pe_int)
  refine wpAny_Slice (thn (po_none.run pins s1 σ H1 (fun o H2 => o = none ∧ H2 = H1) I1 ⟨rfl, rfl⟩) fun vl s2 ⟨l, H2, I2, pl, el, e2⟩ => ?_)
  subst el e2
  refine thn (po_none.run pins s2 σ H2 (fun o H3 => o = none ∧ H3 = H2) I2 ⟨rfl, rfl⟩) fun vu s3 ⟨u, H3, I3, pu, eu, e3⟩ => ?_
  subst eu e3
  refine thn (hst.run pins s3 σ H3 (fun o H4 => o = some (-1) ∧ H4 = H3) I3 ⟨1, rfl, -1, rfl, rfl, rfl⟩) fun vs s4 ⟨o, H4, I4, ps, eo, e4⟩ => ?_
  subst eo e4
  have I5 : Inv X pins σ H4 { s4 with heap := s4.heap.push { cls := .type "slice", data := .fields #[vl, vu, vs] } } := I4.kept (t' := s4.toks) fun b ob q => Heap.get?_push_of_some _ q
  obtain ⟨its, r, ht, hz⟩ := I5.tuple hx
  have hlen := r.length
  show wpAny (model X.prog X.w) X.A (subscriptTail e (.Slice none none (some (.UnaryOp .USub (.Constant (.int 1) k p1) p2)) p3) (.ref a) (.ref s4.heap.objs.size)) (EP X pins σ Q) X.xe { s4 with heap := s4.heap.push { cls := .type "slice", data := .fields #[vl, vu, vs] } }
  refine tail_any (ops := [.ref a, .ref s4.heap.objs.size]) ht.typeIs (PyProof.Rows.slot_tuple_getitem.lookup) ?_ (by with_unfolding_all rfl)
  refine getItem_tuple_rev ht (Heap.IsSliceOf.new _ vl vu vs) pl pu ps ?_ (by rw [List.size_toArray]; omega)
  refine ⟨.ref _, _, I5.laid (t' := s4.toks) (o := .tup xs.reverse) (fun b ob q => Heap.get?_push_of_some _ q) (Nat.le_refl _) ?_, rfl, q _ (I5.hok.fresh (Nat.le_refl _))⟩
  exact ⟨by rw [List.length_reverse]; exact hz, _, r.reverse, IsTup.new _ _⟩
/-! ### | & ^ of naturals -/
theorem bitNot_not (x : Int) : Builtin.bitNot (Builtin.bitNot x) = x := by
  unfold Builtin.bitNot
  omega
theorem bitAnd_nat (a b : Nat) : Builtin.bitAnd (a : Int) (b : Int) = ((a &&& b : Nat) : Int) := by
  unfold Builtin.bitAnd
  rw [decide_eq_true (Int.natCast_nonneg a), decide_eq_true (Int.natCast_nonneg b)]
  simp
theorem bitOr_nat (a b : Nat) : Builtin.bitOr (a : Int) (b : Int) = ((a ||| b : Nat) : Int) := by
  have h : ∀ n : Nat, ¬ (0 : Int) ≤ Builtin.bitNot (n : Int) := fun n => by
    unfold Builtin.bitNot
    omega
  unfold Builtin.bitOr Builtin.bitAnd
  rw [decide_eq_false (h a), decide_eq_false (h b)]
  simp only [bitNot_not]
  simp
def rN2 (f : Nat → Nat → V) : R2 := fun x y H Q => ∃ a b : Nat, x = .int (a : Int) ∧ y = .int (b : Int) ∧ Q (f a b) H
theorem op_orN : OpR X (binaryOp .BitOr) (rN2 fun a b => .int ((a ||| b : Nat) : Int)) := by
  intro pns s σ H x y v u Q I rx ry h
  obtain ⟨a, b, rfl, rfl, q⟩ := h
  exact op_or pns s σ H _ _ v u Q I rx ry ⟨_, _, rfl, rfl, by dsimp only; rw [bitOr_nat]; exact q⟩
theorem op_andN : OpR X (binaryOp .BitAnd) (rN2 fun a b => .int ((a &&& b : Nat) : Int)) := by
  intro pns s σ H x y v u Q I rx ry h
  obtain ⟨a, b, rfl, rfl, q⟩ := h
  exact op_and pns s σ H _ _ v u Q I rx ry ⟨_, _, rfl, rfl, by dsimp only; rw [bitAnd_nat]; exact q⟩
/-- a ^ b where a has no bit that b lacks -/
def rXor : R2 := fun x y H Q => ∃ a b c : Nat, x = .int (a : Int) ∧ y = .int (b : Int) ∧ a ||| b = b ∧ a &&& b = a ∧ b = a + c ∧ Q (.int (c : Int)) H
theorem op_xorN : OpR X (binaryOp .BitXor) rXor := by
  intro pns s σ H x y v u Q I rx ry h
  obtain ⟨a, b, c, rfl, rfl, h1, h2, h3, q⟩ := h
  refine op_xor pns s σ H _ _ v u Q I rx ry ⟨_, _, rfl, rfl, ?_⟩
  have e : Builtin.bitXor (a : Int) (b : Int) = (c : Int) := by
    unfold Builtin.bitXor
    rw [bitOr_nat, bitAnd_nat, h1, h2]
    omega
  dsimp only
  rw [e]
  exact q
end
section
variable {X : Cx} {K : PySem.W.Frag}
theorem op_inK (hK : X.K = K := by rfl) : OpR X (compareOp .In) (rIn K false) := by
  subst hK
  exact op_in_seq
theorem op_notInK (hK : X.K = K := by rfl) : OpR X (compareOp .NotIn) (rIn K true) := by
  subst hK
  exact op_notIn_seq
theorem op_neNilK (hu : X.A.units + 64 < cLine) (hK : X.K = K := by rfl) : OpR X (compareOp .NotEq) (rNeNil K) := by
  subst hK
  exact op_neNil hu
end
theorem pi_tupK {X : Cx} {K : PySem.W.Frag} {tg l : Expr} {tl : TE} (hl : PE X l tl) (hK : X.K = K := by rfl) : PI X tg l (iTup K tl) := by
  subst hK
  exact pi_tup hl
theorem pi_listK {X : Cx} {K : PySem.W.Frag} {tg l : Expr} {tl : TE} (hl : PE X l tl) (hK : X.K = K := by rfl) : PI X tg l (iList K tl) := by
  subst hK
  exact pi_list hl
/-- the scope of a list comprehension; the value of a def that only returns -/
def lcSc : Expr → Scope
  | .ListComp _ _ sc _ => sc
  | _ => { kind := .module, names := [], isGenerator := false, isCoroutine := false, more := [] }
def ret0 (st : Stmt) : Expr := match defBody st with
  | .Return (some e) _ :: _ => e
  | _ => .Name "" ⟨0, 0, 0, 0⟩
theorem seqT {K : PySem.W.Frag} {H H' : Hp} {a : Addr} {xs : List V} (e : Same H H') (h : SqT K H a xs) : SqT K H' a xs := by
  rcases h with (h | ⟨o, h⟩) | h
  · exact .inl (.inl (e _ _ h))
  · exact .inl (.inr ⟨o, e _ _ h⟩)
  · exact .inr h
/-! ### masks -/
def mk (f : Nat → Bool) : Nat → Nat
  | 0 => 0
  | w + 1 => mk f w + if f w then 2 ^ w else 0
theorem mk_lt (f : Nat → Bool) : ∀ w, mk f w < 2 ^ w
  | 0 => Nat.one_pos
  | w + 1 => by
    have h := mk_lt f w
    rw [Nat.pow_succ]
    unfold mk
    split <;> omega
theorem mk_bit (f : Nat → Bool) (k : Nat) : ∀ w, (mk f w).testBit k = (decide (k < w) && f k)
  | 0 => by simp [mk]
  | w + 1 => by
    have ih := mk_bit f k w
    have h := mk_lt f w
    unfold mk
    by_cases hw : f w = true
    · rw [if_pos hw, Nat.add_comm]
      by_cases e : k = w
      · subst e
        rw [Nat.testBit_two_pow_add_eq, Nat.testBit_lt_two_pow h, hw]
        simp
      · rcases Nat.lt_or_gt_of_ne e with g | g
        · rw [Nat.testBit_two_pow_add_gt g, ih]
          simp [show k < w + 1 by omega, g]
        · have e2 : ¬ k < w + 1 := by omega
          rw [Nat.testBit_lt_two_pow (Nat.lt_of_lt_of_le (show 2 ^ w + mk f w < 2 ^ (w + 1) by rw [Nat.pow_succ]; omega) (Nat.pow_le_pow_right (by decide) (show w + 1 ≤ k by omega)))]
          simp [e2]
    · rw [if_neg hw, Nat.add_zero, ih]
      by_cases e : k = w
      · subst e
        simp [hw]
      · simp [show (k < w) ↔ (k < w + 1) by omega]
theorem mk_ext {f g : Nat → Bool} : ∀ {w : Nat}, (∀ k, k < w → f k = g k) → mk f w = mk g w
  | 0, _ => rfl
  | w + 1, h => by
    unfold mk
    rw [mk_ext fun k hk => h k (by omega), h w (by omega)]
theorem mk_or (f g : Nat → Bool) (w : Nat) : mk f w ||| mk g w = mk (fun k => f k || g k) w := by
  apply Nat.eq_of_testBit_eq
  intro k
  rw [Nat.testBit_or, mk_bit, mk_bit, mk_bit]
  cases decide (k < w) <;> simp
theorem mk_and (f g : Nat → Bool) (w : Nat) : mk f w &&& mk g w = mk (fun k => f k && g k) w := by
  apply Nat.eq_of_testBit_eq
  intro k
  rw [Nat.testBit_and, mk_bit, mk_bit, mk_bit]
  cases decide (k < w) <;> simp
theorem mk_put {f : Nat → Bool} {w j : Nat} (hj : j < w) : mk f w ||| 2 ^ j = mk (fun k => f k || decide (k = j)) w := by
  apply Nat.eq_of_testBit_eq
  intro k
  rw [Nat.testBit_or, mk_bit, mk_bit, Nat.testBit_two_pow]
  by_cases e : j = k
  · subst e
    simp [hj]
  · simp [e, Ne.symm e]
theorem mk_none {w : Nat} : mk (fun _ => false) w = 0 := by
  induction w with
  | zero => rfl
  | succ w ih =>
    unfold mk
    rw [ih]
    rfl
/-- the part that g has more -/
theorem mk_more {f g : Nat → Bool} (h : ∀ k, f k = true → g k = true) : ∀ w, mk g w = mk f w + mk (fun k => g k && !f k) w
  | 0 => rfl
  | w + 1 => by
    have ih := mk_more h w
    unfold mk
    rw [ih]
    cases hf : f w with
    | true =>
      rw [h w hf]
      simp
      omega
    | false =>
      cases hg : g w <;> simp <;> omega
theorem mk_eq {f g : Nat → Bool} {w : Nat} : mk f w = mk g w ↔ ∀ k, k < w → f k = g k := by
  refine ⟨fun e k hk => ?_, mk_ext⟩
  have z := congrArg (fun n : Nat => n.testBit k) e
  simpa [mk_bit, hk] using z
/-! ### how many -/
def cnt (f : Nat → Bool) (w : Nat) : Nat := ((List.range w).filter f).length
theorem cnt_succ (f : Nat → Bool) (w : Nat) : cnt f (w + 1) = cnt f w + if f w then 1 else 0 := by
  unfold cnt
  rw [List.range_succ, List.filter_append, List.length_append]
  by_cases h : f w = true
  · rw [if_pos h, List.filter_cons_of_pos (p := f) h]
    rfl
  · rw [if_neg h, List.filter_cons_of_neg (p := f) h]
    rfl
theorem cnt_ext {f g : Nat → Bool} : ∀ {w : Nat}, (∀ k, k < w → f k = g k) → cnt f w = cnt g w
  | 0, _ => rfl
  | w + 1, h => by rw [cnt_succ, cnt_succ, cnt_ext fun k hk => h k (by omega), h w (by omega)]
theorem cnt_more {f g : Nat → Bool} (h : ∀ k, f k = true → g k = true) : ∀ w, cnt g w = cnt f w + cnt (fun k => g k && !f k) w
  | 0 => rfl
  | w + 1 => by
    have ih := cnt_more h w
    rw [cnt_succ, cnt_succ, cnt_succ, ih]
    cases hf : f w with
    | true =>
      rw [h w hf]
      simp
      omega
    | false =>
      cases hg : g w <;> simp <;> omega
theorem cnt_up {f : Nat → Bool} {w : Nat} (h : ∀ k, w ≤ k → f k = false) : ∀ d, cnt f (w + d) = cnt f w
  | 0 => rfl
  | d + 1 => by
    rw [← Nat.add_assoc, cnt_succ, cnt_up h d, h (w + d) (by omega)]
    rfl
theorem cnt_le {f : Nat → Bool} {w v : Nat} (hw : ∀ k, w ≤ k → f k = false) (hv : ∀ k, v ≤ k → f k = false) : cnt f w = cnt f v := by
  rcases Nat.le_total w v with h | h
  · have z := cnt_up hw (v - w)
    rw [show w + (v - w) = v by omega] at z
    exact z.symm
  · have z := cnt_up hv (w - v)
    rw [show v + (w - v) = w by omega] at z
    exact z
/-- the bits of a mask, counted by any length that is enough -/
theorem cnt_mk {f : Nat → Bool} {w L : Nat} (hL : mk f w < 2 ^ L) : cnt (fun k => (mk f w).testBit k) L = cnt f w := by
  rw [cnt_le (w := L) (v := w) (fun k hk => Nat.testBit_lt_two_pow (Nat.lt_of_lt_of_le hL (Nat.pow_le_pow_right (by decide) hk))) fun k hk => by rw [mk_bit, decide_eq_false (by omega)]; rfl]
  exact cnt_ext fun k hk => by rw [mk_bit, decide_eq_true hk]; rfl
/-- a mask as a sum -/
theorem mk_sum (f : Nat → Bool) : ∀ w, (((List.range w).filter f).map fun k => 2 ^ k).sum = mk f w
  | 0 => rfl
  | w + 1 => by
    rw [List.range_succ, List.filter_append, List.map_append, List.sum_append, mk_sum f w]
    show _ = mk f w + if f w then 2 ^ w else 0
    by_cases h : f w = true
    · rw [if_pos h, List.filter_cons_of_pos (p := f) h]
      simp
    · rw [if_neg h, List.filter_cons_of_neg (p := f) h]
      simp
end BI
set_option Elab.async false
set_option linter.all false
set_option maxRecDepth 100000
set_option maxHeartbeats 4000000
namespace OX
open PySem PySem.Spec PyProof.Rows L2 CM
def oexB (K : PySem.W.Frag) (C : Addr) : Bool := (match K.lookup C with
    | some ⟨.type "type", _, .cls cd, sl⟩ => (match cd.mro, sl.toList with
      | .ref C' :: bm, [_, _, _, _, some (.builtin n), _] => decide (C' = C) && (decide (n = "ValueError.__new__") && (!cd.hasDel && (cd.hasDict && PySem.HandSPX.refsVE bm)))
      | _, _ => false)
    | _ => false) && (He.eqO (PySem.W.findIn K (.ref C) "__setattr__") (some (some (.builtin "object.__setattr__"))) && (decide (PySem.W.subIn K (.ref C) (.type "BaseException") = some true) &&
      (decide (PySem.W.typeIn K (.ref C) = some (.type "type")) && PySem.W.keepIn K (.ref C))))
theorem oexB_ok {K : PySem.W.Frag} {C : Addr} (h : oexB K C = true) : OexC K C := by
  obtain ⟨h1, h⟩ := He.ba h
  obtain ⟨h2, h⟩ := He.ba h
  obtain ⟨h3, h⟩ := He.ba h
  obtain ⟨h4, h5⟩ := He.ba h
  refine ⟨?_, He.eqO_ok h2, of_decide_eq_true h3, of_decide_eq_true h4, h5⟩
  split at h1
  · rename_i dd cd sl ho
    split at h1
    · rename_i C' bm k0 k1 k2 k3 n k5 hm hs
      obtain ⟨g1, h1⟩ := He.ba h1
      obtain ⟨g2, h1⟩ := He.ba h1
      obtain ⟨g3, h1⟩ := He.ba h1
      obtain ⟨g4, g5⟩ := He.ba h1
      obtain ⟨nm, bs, mro, ns, qn, hd, sn, sb, ab, col, del⟩ := cd
      dsimp only at hm g3 g4
      subst hm g4
      obtain rfl : C' = C := of_decide_eq_true g1
      obtain rfl : n = "ValueError.__new__" := of_decide_eq_true g2
      obtain rfl : del = false := by
        cases del
        · rfl
        · cases g3
      obtain rfl : sl = #[k0, k1, k2, k3, some (.builtin "ValueError.__new__"), k5] := by
        rw [← Array.toArray_toList (xs := sl), hs]
      exact ⟨_, _, _, _, _, _, _, _, _, _, _, _, _, _, _, ho, g5⟩
    · cases h1
  · cases h1
/-- an own error whose __init__ stores its one argument as f -/
def errB (K : PySem.W.Frag) (C : Addr) (f : Str) : Bool := oexB K C && (He.eqO (PySem.W.findIn K (.ref C) "__init__") (some (some (.ref (He.ma K C "__init__")))) && (decide (PySem.W.typeIn K (.ref (He.ma K C "__init__")) = some (.type "function")) &&
  (He.eqO (PySem.W.findIn K (.ref C) f) (some none) && (xfB K C && decide (PySem.W.exmOne K (.ref C) (.ref C) = some true)))))
structure ErrOk (K : PySem.W.Frag) (C : Addr) (f : Str) : Prop where
  ox : OexC K C
  iC : PySem.W.findIn K (.ref C) "__init__" = some (some (.ref (He.ma K C "__init__")))
  tI : PySem.W.typeIn K (.ref (He.ma K C "__init__")) = some (.type "function")
  no : PySem.W.findIn K (.ref C) f = some none
  xf : XfC K C
  te : PySem.W.exmOne K (.ref C) (.ref C) = some true
theorem errB_ok {K : PySem.W.Frag} {C : Addr} {f : Str} (h : errB K C f = true) : ErrOk K C f := by
  obtain ⟨h1, h⟩ := He.ba h
  obtain ⟨h2, h⟩ := He.ba h
  obtain ⟨h3, h⟩ := He.ba h
  obtain ⟨h4, h⟩ := He.ba h
  obtain ⟨h5, h6⟩ := He.ba h
  exact ⟨oexB_ok h1, He.eqO_ok h2, of_decide_eq_true h3, He.eqO_ok h4, xfB_ok h5, of_decide_eq_true h6⟩
/-! ### what the names reach, and the interpreter's own statics -/
def reachY (g : Addr → Option Obj) (n : Nat) : PySem.W.Frag := He.frT g (He.asD g n ++ [cStatics, sysModules])
def obsY (n : Nat) (fa : List He.Fa) (fn : List He.DefD) (ex : PySem.W.Frag → Bool) (g : Addr → Option Obj) : He.AlX :=
  (He.obsT fa fn [] (reachY g n), ex (reachY g n))
theorem saysY {n : Nat} {fa : List He.Fa} {fn : List He.DefD} {ex : PySem.W.Frag → Bool} {w : World} {h : Heap} (e : obsY n fa fn ex h.get? = He.valX fn [] w) : He.SaysX fa fn [] [] ex w h (reachY h.get? n) where
  t := congrArg Prod.fst e
  more := congrArg Prod.snd e
  hd := fun _ z => absurd z List.not_mem_nil
  out := fun _ z => absurd z List.not_mem_nil
  empty := fun _ z => absurd z List.not_mem_nil
def hookY (n : Nat) (fa : List He.Fa) (fn : List He.DefD) (ex : PySem.W.Frag → Bool) : PySem.W.Hook where
  α := He.AlX
  obs s := obsY n fa fn ex s.heap.get?
  val w := He.valX fn [] w
  says w h := ∃ K : PySem.W.Frag, K.In h ∧ He.SaysX fa fn [] [] ex w h K
  of _ s e := ⟨reachY s.heap.get? n, He.frT_in, saysY e⟩
  keeps _ _ _ z k := by
    obtain ⟨K, hK, c⟩ := z
    refine ⟨K, hK.keeps k, ?_⟩
    exact { t := c.t, more := c.more, hd := c.hd, out := c.out, empty := fun _ z => absurd z List.not_mem_nil }
theorem obsY_eq {n : Nat} {fa : List He.Fa} {fn : List He.DefD} {ex : PySem.W.Frag → Bool} {g : Addr → Option Obj} {s : Shared} (h : ∀ a, g a = s.heap.get? a) : obsY n fa fn ex g = (hookY n fa fn ex).obs s := by
  rw [show g = s.heap.get? from funext h]
  rfl
end OX
set_option Elab.async false
set_option linter.all false
set_option maxRecDepth 100000
set_option maxHeartbeats 4000000
namespace DN
open PySem PySem.Spec PyProof.Rows L2 CM
/-! ### keys: None, ints, texts, tuples of such -/
abbrev NK := NestedKey
mutual
inductive KeyV (H : Hp) : NK → V → Prop
  | non : KeyV H .none .non
  | int (i : Int) : KeyV H (.num i) (.int i)
  | str (z : Str) : KeyV H (.text z) (.str z)
  | tup {a : Addr} {ks : List NK} {vs : List V} : H a = some (.tup vs) → KeysV H ks vs → KeyV H (.tup ks) (.ref a)
inductive KeysV (H : Hp) : List NK → List V → Prop
  | nil : KeysV H [] []
  | cons {k : NK} {v : V} {ks : List NK} {vs : List V} : KeyV H k v → KeysV H ks vs → KeysV H (k :: ks) (v :: vs)
end
mutual
theorem KeyV.same {H H' : Hp} (s : ∀ a xs, H a = some (.tup xs) → H' a = some (.tup xs)) : ∀ {k : NK} {v : V}, KeyV H k v → KeyV H' k v
  | _, _, .non => .non
  | _, _, .int i => .int i
  | _, _, .str z => .str z
  | _, _, .tup e h => .tup (s _ _ e) (h.same s)
theorem KeysV.same {H H' : Hp} (s : ∀ a xs, H a = some (.tup xs) → H' a = some (.tup xs)) : ∀ {ks : List NK} {vs : List V}, KeysV H ks vs → KeysV H' ks vs
  | _, _, .nil => .nil
  | _, _, .cons h t => .cons (h.same s) (t.same s)
end
mutual
theorem KeyV.is {P : Program} {w : World} {H : Hp} {h : Heap} (ok : HOk P w H h) : ∀ {k : NK} {v : V}, KeyV H k v → ∀ {u : Value}, RelV v u → NestedIs h k u
  | _, _, .non, u, r => by
    obtain rfl : u = Value.none := r
    exact .none
  | _, _, .int i, u, r => by
    obtain ⟨t, rfl⟩ := r
    exact .int i t
  | _, _, .str z, u, r => by
    obtain ⟨t, rfl⟩ := r
    exact .text z t
  | _, _, .tup (a := a) e hs, u, r => by
    obtain rfl : u = Value.ref a := r
    obtain ⟨_, its, rv, o, g, hc, n, hd⟩ := (show ObjOk P w H h a (.tup _) from ok a _ e)
    exact .tup g hc hd (by simpa using hs.is ok rv)
theorem KeysV.is {P : Program} {w : World} {H : Hp} {h : Heap} (ok : HOk P w H h) : ∀ {ks : List NK} {vs : List V}, KeysV H ks vs → ∀ {us : List Value}, Vals vs us → NestedAll h ks us
  | _, _, .nil, _, .nil => .nil
  | _, _, .cons h1 t1, _, .cons r1 r2 => .cons (h1.is ok r1) (t1.is ok r2)
end
mutual
theorem KeyV.inj {H : Hp} : ∀ {k j : NK} {v : V}, KeyV H k v → KeyV H j v → k = j
  | _, _, _, .non, .non => rfl
  | _, _, _, .int _, .int _ => rfl
  | _, _, _, .str _, .str _ => rfl
  | _, _, _, .tup e h, .tup e2 h2 => by
    rw [e] at e2
    cases e2
    rw [h.inj h2]
theorem KeysV.inj {H : Hp} : ∀ {ks js : List NK} {vs : List V}, KeysV H ks vs → KeysV H js vs → ks = js
  | _, _, _, .nil, .nil => rfl
  | _, _, _, .cons a b, .cons c d => by rw [a.inj c, b.inj d]
end
/-! ### the dict -/
abbrev Ent := NK × Addr × V
/-- its entries, told by values: the keys' own addresses are kept -/
def dn (P : Program) (w : World) (d : Addr) (xs : List Ent) : HO := .ext fun h => ∃ us : List Value, Vals (xs.map (·.2.2)) us ∧ xs.length ≤ sizeLine ∧ (d == sysModules) = false ∧ (xs.map (·.1)).Nodup ∧
  ∃ o es ep, h.get? d = some o ∧ o.ExactDict ∧ o.data = .dict es ep ∧ es.toList = ((xs.zip us).map fun p => (p.1.1, p.1.2.1, p.2)).map (entryOfKey (nestedKind P w))
/-- at d: a dict of these keys and values, in their order -/
def Dct (P : Program) (w : World) (H : Hp) (d : Addr) (xs : List Ent) : Prop := H d = some (dn P w d xs) ∧ ∀ x ∈ xs, KeyV H x.1 (.ref x.2.1) ∧ x.1.depth ≤ 8
theorem Dct.mono {P : Program} {w : World} {H H' : Hp} {d : Addr} {xs : List Ent} (h : Dct P w H d xs) (e : H' d = some (dn P w d xs)) (s : ∀ a ys, H a = some (.tup ys) → H' a = some (.tup ys)) : Dct P w H' d xs := ⟨e, fun x hx => ⟨(h.2 x hx).1.same s, (h.2 x hx).2⟩⟩
theorem Dct.same {P : Program} {w : World} {H H' : Hp} {d : Addr} {xs : List Ent} (h : Dct P w H d xs) (s : Same H H') : Dct P w H' d xs := h.mono (s _ _ h.1) fun a ys e => s a _ e
theorem dn_ne {P : Program} {w : World} {d : Addr} {xs : List Ent} {ys : List V} : dn P w d xs ≠ .tup ys := fun z => by
  unfold dn at z
  cases z
/-- what the library wants of it -/
theorem Dct.keyed {P : Program} {w : World} {H : Hp} {h : Heap} {d : Addr} {xs : List Ent} (ok : HOk P w H h) (D : Dct P w H d xs) : ∃ zs : List (NK × Addr × Value), h.DictOfH (nestedKind P w) d zs ∧ Paired (fun x z => x.1 = z.1 ∧ x.2.1 = z.2.1 ∧ RelV x.2.2 z.2.2) xs zs ∧ xs.length ≤ sizeLine ∧ (d == sysModules) = false := by
  obtain ⟨⟨us, r, hl, hs, nd, o, es, ep, g, ex, hd, he⟩, _⟩ := (show ObjOk P w H h d (dn P w d xs) from ok d _ D.1)
  have pr : ∀ {xs : List Ent} {us : List Value}, Vals (xs.map (·.2.2)) us → Paired (fun x z => x.1 = z.1 ∧ x.2.1 = z.2.1 ∧ RelV x.2.2 z.2.2) xs ((xs.zip us).map fun p => (p.1.1, p.1.2.1, p.2)) := by
    intro xs
    induction xs with
    | nil =>
      intro us r
      exact .nil
    | cons x xs ih =>
      intro us r
      cases r with
      | cons a b => exact .cons ⟨rfl, rfl, a⟩ (ih b)
  have keys : ∀ {xs : List Ent} {us : List Value}, Vals (xs.map (·.2.2)) us → ((xs.zip us).map fun p => (p.1.1, p.1.2.1, p.2)).map (·.1) = xs.map (·.1) := by
    intro xs
    induction xs with
    | nil =>
      intro us r
      rfl
    | cons x xs ih =>
      intro us r
      cases r with
      | cons a b =>
        rw [List.zip_cons_cons, List.map_cons, List.map_cons, List.map_cons, ih b]
  refine ⟨_, ⟨o, es, ep, g, ex, hd, he, fun z hz => ?_, by rw [keys r]; exact nd⟩, pr r, hl, hs⟩
  obtain ⟨p, hp, rfl⟩ := List.mem_map.mp hz
  have hx := (List.of_mem_zip (a := p.1) (b := p.2) hp).1
  exact ⟨(D.2 p.1 hx).1.is ok rfl, (D.2 p.1 hx).2⟩
/-- the value at a key -/
def at_ (xs : List Ent) (k : NK) : Option V := (xs.find? fun x => decide (x.1 = k)).map (·.2.2)
theorem at_rel : ∀ {xs : List Ent} {zs : List (NK × Addr × Value)} (k : NK), Paired (fun x z => x.1 = z.1 ∧ x.2.1 = z.2.1 ∧ RelV x.2.2 z.2.2) xs zs → RelO (at_ xs k) ((atKey zs k).map (·.2))
  | _, _, k, .nil => trivial
  | x :: xs, z :: zs, k, .cons h t => by
    have ih := at_rel k t
    unfold at_ atKey at ih ⊢
    rw [List.find?_cons, List.find?_cons, ← h.1]
    by_cases e : x.1 = k
    · rw [decide_eq_true e]
      exact h.2.2
    · rw [decide_eq_false e]
      exact ih
/-! ### made, changed -/
def putE (xs : List Ent) (k : NK) (a : Addr) (v : V) : List Ent := if (at_ xs k).isSome then xs.map fun x => if x.1 = k then (x.1, x.2.1, v) else x else xs ++ [(k, a, v)]
def dropE (xs : List Ent) (k : NK) : List Ent := xs.filter fun x => decide (x.1 ≠ k)
abbrev Alike : List Ent → List (NK × Addr × Value) → Prop := Paired fun x z => x.1 = z.1 ∧ x.2.1 = z.2.1 ∧ RelV x.2.2 z.2.2
theorem Alike.len {xs : List Ent} {zs : List (NK × Addr × Value)} (p : Alike xs zs) : xs.length = zs.length := Paired.length p
theorem Alike.vals : ∀ {xs : List Ent} {zs : List (NK × Addr × Value)}, Alike xs zs → Vals (xs.map (·.2.2)) (zs.map (·.2.2))
  | _, _, .nil => .nil
  | _, _, .cons h t => .cons h.2.2 (Alike.vals t)
theorem Alike.zip : ∀ {xs : List Ent} {zs : List (NK × Addr × Value)}, Alike xs zs → ((xs.zip (zs.map (·.2.2))).map fun p => (p.1.1, p.1.2.1, p.2)) = zs
  | _, _, .nil => rfl
  | x :: xs, (k, a, v) :: zs, .cons h t => by
    rw [List.map_cons, List.zip_cons_cons, List.map_cons, Alike.zip t]
    obtain ⟨h1, h2, _⟩ := h
    dsimp only at h1 h2 ⊢
    rw [h1, h2]
theorem Alike.keys : ∀ {xs : List Ent} {zs : List (NK × Addr × Value)}, Alike xs zs → xs.map (·.1) = zs.map (·.1)
  | _, _, .nil => rfl
  | _, _, .cons h t => by rw [List.map_cons, List.map_cons, Alike.keys t, h.1]
theorem dn_ok {P : Program} {w : World} {H : Hp} {h : Heap} {d : Addr} {xs : List Ent} {zs : List (NK × Addr × Value)} (m : h.DictOfH (nestedKind P w) d zs) (p : Alike xs zs) (hl : xs.length ≤ sizeLine) (hs : (d == sysModules) = false) : ObjOk P w H h d (dn P w d xs) := by
  obtain ⟨o, es, ep, g, ex, hd, he, _, nd⟩ := m
  refine ⟨⟨zs.map (·.2.2), p.vals, hl, hs, by rw [p.keys]; exact nd, o, es, ep, g, ex, hd, by rw [p.zip]; exact he⟩, ⟨o, g⟩, fun h1 h2 φ k => ?_⟩
  obtain ⟨us, r, hl, hs, nd, o, es, ep, g, rest⟩ := φ
  exact ⟨us, r, hl, hs, nd, o, es, ep, k _ g, rest⟩
theorem Alike.puts {k : NK} {v : V} {u : Value} (r : RelV v u) : ∀ {xs : List Ent} {zs : List (NK × Addr × Value)}, Alike xs zs → Alike (xs.map fun x => if x.1 = k then (x.1, x.2.1, v) else x) (zs.map (putAt k u))
  | _, _, .nil => .nil
  | x :: xs, z :: zs, .cons h t => by
    rw [List.map_cons, List.map_cons]
    refine .cons ?_ (Alike.puts r t)
    unfold putAt
    obtain ⟨h1, h2, h3⟩ := h
    by_cases e : x.1 = k
    · rw [if_pos e, if_pos (h1 ▸ e)]
      exact ⟨h1, h2, r⟩
    · rw [if_neg e, if_neg (h1 ▸ e)]
      exact ⟨h1, h2, h3⟩
theorem Alike.more {k : NK} {a : Addr} {v : V} {u : Value} (r : RelV v u) : ∀ {xs : List Ent} {zs : List (NK × Addr × Value)}, Alike xs zs → Alike (xs ++ [(k, a, v)]) (zs ++ [(k, a, u)])
  | _, _, .nil => .cons ⟨rfl, rfl, r⟩ .nil
  | _, _, .cons h t => .cons h (Alike.more r t)
theorem Alike.put {xs : List Ent} {zs : List (NK × Addr × Value)} (p : Alike xs zs) (k : NK) (a : Addr) {v : V} {u : Value} (r : RelV v u) : Alike (putE xs k a v) (storedH zs k a u) := by
  have e : (at_ xs k).isSome = (atKey zs k).isSome := by
    have z := at_rel k p
    cases h1 : at_ xs k <;> cases h2 : atKey zs k <;> rw [h1, h2] at z <;> first | rfl | exact z.elim
  unfold putE storedH
  rw [e]
  split
  · exact Alike.puts r p
  · exact Alike.more r p
theorem Alike.drop {xs : List Ent} {zs : List (NK × Addr × Value)} (p : Alike xs zs) (k : NK) : Alike (dropE xs k) (withoutH zs k) := by
  unfold dropE withoutH
  induction p with
  | nil => exact .nil
  | @cons x z xs zs h t ih =>
    rw [List.filter_cons, List.filter_cons, ← h.1]
    split
    · exact .cons h ih
    · exact ih
theorem len_put (xs : List Ent) (k : NK) (a : Addr) (v : V) : (putE xs k a v).length ≤ xs.length + 1 := by
  unfold putE
  split
  · rw [List.length_map]
    omega
  · rw [List.length_append]
    exact Nat.le_refl _
theorem len_drop (xs : List Ent) (k : NK) : (dropE xs k).length ≤ xs.length := List.length_filter_le _ _
section
variable {X : Cx} {pins : List (Addr × Obj)} {σ : L2.St} {H : Hp} {s : Shared} {d a : Addr} {xs : List Ent} {k : NK}
theorem key_is (I : Inv X pins σ H s) (hk : KeyV H k (.ref a)) (hd : k.depth ≤ 8) : (nestedKind X.prog X.w).is s.heap k a := ⟨hk.is I.hok rfl, hd⟩
theorem room_in (hu : X.A.units + 40 < cLine) : (nestedKind X.prog X.w).room X.A.in1 := by
  show X.A.units + 1 + 8 < cLine
  omega
def rInN (P : Program) (w : World) (neg : Bool) : R2 := fun x y H Q => ∃ (a d : Addr) (xs : List Ent) (k : NK), x = .ref a ∧ y = .ref d ∧ Dct P w H d xs ∧ KeyV H k (.ref a) ∧ k.depth ≤ 8 ∧ Q (.bl (if neg then !(at_ xs k).isSome else (at_ xs k).isSome)) H
theorem some_rel {xs : List Ent} {zs : List (NK × Addr × Value)} (k : NK) (p : Alike xs zs) : (atKey zs k).isSome = (at_ xs k).isSome := by
  have z := at_rel k p
  cases h1 : at_ xs k <;> cases h2 : atKey zs k <;> rw [h1, h2] at z <;> first | rfl | exact z.elim
theorem op_inN {P : Program} {w : World} (hu : X.A.units + 40 < cLine) (hP : X.prog = P := by rfl) (hw : X.w = w := by rfl) : OpR X (compareOp .In) (rInN P w false) := by
  subst hP hw
  intro pns s σ H x y v u Q I rx ry h
  obtain ⟨a, d, xs, k, rfl, rfl, D, hk, hd, q⟩ := h
  cases (show v = Value.ref a from rx)
  cases (show u = Value.ref d from ry)
  obtain ⟨zs, m, p, hl, hs⟩ := D.keyed I.hok
  refine wpAny_in_heap (room_in hu) (key_is I hk hd) hs m ⟨.bl _, H, I.tok _, rfl, ?_⟩
  rw [some_rel k p]
  exact q
theorem op_notInN {P : Program} {w : World} (hu : X.A.units + 40 < cLine) (hP : X.prog = P := by rfl) (hw : X.w = w := by rfl) : OpR X (compareOp .NotIn) (rInN P w true) := by
  subst hP hw
  intro pns s σ H x y v u Q I rx ry h
  obtain ⟨a, d, xs, k, rfl, rfl, D, hk, hd, q⟩ := h
  cases (show v = Value.ref a from rx)
  cases (show u = Value.ref d from ry)
  obtain ⟨zs, m, p, hl, hs⟩ := D.keyed I.hok
  refine PyProof.Rows.wpAny_notIn_heap (room_in hu) (key_is I hk hd) hs m ⟨.bl _, H, I.tok _, rfl, ?_⟩
  rw [some_rel k p]
  exact q
/-- d[k] = v -/
def rSetN (P : Program) (w : World) : TSet := fun o i v H Q => ∃ (d a : Addr) (xs : List Ent) (k : NK), o = .ref d ∧ i = .ref a ∧ Dct P w H d xs ∧ KeyV H k (.ref a) ∧ k.depth ≤ 8 ∧ xs.length < 1000 ∧ Q (upd H d (dn P w d (putE xs k a v)))
theorem set_dictN (hu : X.A.units + 40 < cLine) : PSet X (rSetN X.prog X.w) := by
  intro pins s σ H o i v ov iv u Q I ro ri rv h
  obtain ⟨d, a, xs, k, rfl, rfl, D, hk, hd, hz, q⟩ := h
  cases (show ov = Value.ref d from ro)
  cases (show iv = Value.ref a from ri)
  obtain ⟨zs, m, p, hl, hs⟩ := D.keyed I.hok
  refine wpAny_setItem_heap (room_in hu) (key_is I hk hd) m (fun h' m' sb => ?_) (by rw [← Alike.len p]; exact hl)
  have hz2 := len_put xs k a v
  refine ⟨_, I.write (x := d) (e := d) (o := dn X.prog X.w d (putE xs k a v)) (by rw [D.1]; exact True.intro) (.inl rfl) (fun b o hb e => (sb.2 b hb).trans e) ?_ (dn_ok m' (Alike.put p k a rv) (Nat.le_trans hz2 (by rw [sizeLine_eq]; omega)) hs), q⟩
  obtain ⟨o, _, _, g, _⟩ := m'
  exact ⟨o, g⟩
/-- del d[k], there -/
def sDelN (P : Program) (w : World) (td ty : TE) : TS := fun D σ H => td σ H fun x H1 => ty σ H1 fun y H2 => ∃ (d a : Addr) (xs : List Ent) (k : NK), x = .ref d ∧ y = .ref a ∧ Dct P w H2 d xs ∧ KeyV H2 k (.ref a) ∧ k.depth ≤ 8 ∧ (at_ xs k).isSome = true ∧ D.nx σ (upd H2 d (dn P w d (dropE xs k)))
theorem ps_delN {o i : Expr} {td ty : TE} {tpos pos : Pos} (hu : X.A.units + 40 < cLine) (ho : PE X o td) (hi : PE X i ty) : PS X (.Delete [.Subscript o i tpos] pos) (sDelN X.prog X.w td ty) := by
  refine ⟨fun pins s σ H D I h => ?_⟩
  refine wpAny_Delete (wpAny_deleteEach_cons (wpAny_delete_Subscript (thn (ho.run pins s σ H _ I h) fun u s1 hh => ?_)))
  obtain ⟨x, H1, I1, rx, q1⟩ := hh
  refine thn (hi.run pins s1 σ H1 _ I1 q1) fun iv s2 hh => ?_
  obtain ⟨y, H2, I2, ry, d, a, xs, k, rfl, rfl, Dc, hk, hd, l, q2⟩ := hh
  cases (show u = Value.ref d from rx)
  cases (show iv = Value.ref a from ry)
  obtain ⟨zs, m, p, hl, hs⟩ := Dc.keyed I2.hok
  obtain ⟨pp, hp⟩ := Option.isSome_iff_exists.mp ((some_rel k p).trans l)
  refine wpAny_delItem_heap (room_in hu) (key_is I2 hk hd) hs m hp (fun h' m' sb => wpAny_deleteEach_nil ⟨σ, _, ?_, q2⟩) (by rw [← Alike.len p]; exact hl)
  refine I2.write (x := d) (e := d) (o := dn X.prog X.w d (dropE xs k)) (by rw [Dc.1]; exact True.intro) (.inl rfl) (fun b o hb e => (sb.2 b hb).trans e) ?_ (dn_ok m' (Alike.drop p k) (Nat.le_trans (len_drop xs k) hl) hs)
  obtain ⟨o, _, _, g, _⟩ := m'
  exact ⟨o, g⟩
end
end DN
set_option Elab.async false
set_option linter.all false
set_option maxRecDepth 100000
set_option maxHeartbeats 4000000
namespace DN
open PySem PySem.Spec PyProof.Rows L2 CM
section
variable {X : Cx} {pins : List (Addr × Obj)} {σ : L2.St} {H : Hp} {s : Shared}
theorem at_none {xs : List Ent} {zs : List (NK × Addr × Value)} {k : NK} (p : Alike xs zs) (h : at_ xs k = none) : atKey zs k = none := by
  have z := at_rel k p
  rw [h] at z
  cases e : atKey zs k with
  | none => rfl
  | some q =>
    rw [e] at z
    exact z.elim
theorem at_some {xs : List Ent} {zs : List (NK × Addr × Value)} {k : NK} {v : V} (p : Alike xs zs) (h : at_ xs k = some v) : ∃ q, atKey zs k = some q ∧ RelV v q.2 := by
  have z := at_rel k p
  rw [h] at z
  cases e : atKey zs k with
  | none =>
    rw [e] at z
    exact z.elim
  | some q =>
    rw [e] at z
    exact ⟨q, rfl, z⟩
/-- {} -/
def tDNewN (P : Program) (w : World) : TE := fun _ H Q => ∀ p, H p = none → Q (.ref p) (upd H p (dn P w p []))
theorem pe_dnewN {pos : Pos} : PE X (.Dict [] [] pos) (tDNewN X.prog X.w) := ⟨fun pins s σ H Q I h => by
  refine wpAny_Dict_empty ?_
  have big := I.big
  have m : (s.heap.push { cls := .type "dict", data := .dict #[] }).DictOfH (nestedKind X.prog X.w) s.heap.objs.size [] := Heap.DictOfH.new s.heap
  have ok : ObjOk X.prog X.w (upd H s.heap.objs.size (dn X.prog X.w s.heap.objs.size [])) (s.heap.push { cls := .type "dict", data := .dict #[] }) s.heap.objs.size (dn X.prog X.w s.heap.objs.size []) :=
    dn_ok (xs := []) m .nil (Nat.zero_le _) (beq_eq_false_iff_ne.mpr (Nat.ne_of_gt I.big))
  exact ⟨.ref s.heap.objs.size, _, I.laid (a := s.heap.objs.size) (o := dn X.prog X.w s.heap.objs.size []) (t' := s.toks) (fun _ _ q => Heap.get?_push_of_some _ q) (Nat.le_refl _) ok, rfl, h _ (I.hok.fresh (Nat.le_refl _))⟩⟩
/-- d.get(k, x) -/
def rGetN (P : Program) (w : World) : V → List V → Hp → VK → Prop := fun o xs H Q => ∃ (d a : Addr) (es : List Ent) (k : NK) (x : V), o = .ref d ∧ xs = [.ref a, x] ∧ Dct P w H d es ∧ KeyV H k (.ref a) ∧ k.depth ≤ 8 ∧ Q ((at_ es k).getD x) H
theorem mt_getN {P : Program} {w : World} (hu : X.A.units + 40 < cLine) (hP : X.prog = P := by rfl) (hw : X.w = w := by rfl) : MtR X "dict.get" (rGetN P w) := by
  subst hP hw
  intro pins s σ H o xs v us Q I ro rx h
  obtain ⟨d, a, es, k, x, rfl, rfl, D, hk, hd, q⟩ := h
  cases (show v = Value.ref d from ro)
  obtain ⟨u1, u2, rfl, r1, r2⟩ := vals2 rx
  cases (show u1 = Value.ref a from r1)
  obtain ⟨zs, m, p, hl, hs⟩ := D.keyed I.hok
  refine getOr_keyed (room_in hu) (key_is I hk hd) hs ⟨zs, m, rfl⟩ ?_
  rw [valueAt_pairsH]
  cases e : at_ es k with
  | none =>
    rw [at_none p e]
    rw [e] at q
    exact ⟨x, H, I.tok _, r2, q⟩
  | some v =>
    obtain ⟨q', e2, rr⟩ := at_some p e
    rw [e2]
    rw [e] at q
    exact ⟨v, H, I.tok _, rr, q⟩
/-- len(d) -/
def rLenN (P : Program) (w : World) : List V → Hp → VK → Prop := fun xs H Q => ∃ (d : Addr) (es : List Ent), xs = [.ref d] ∧ Dct P w H d es ∧ Q (.int (es.length : Nat)) H
theorem cr_lenN {P : Program} {w : World} (hP : X.prog = P := by rfl) (hw : X.w = w := by rfl) : CallR X (.builtin "len") (rLenN P w) := by
  subst hP hw
  intro pins s σ H vs us Q I r h
  obtain ⟨d, es, rfl, D, q⟩ := h
  rw [Vals.ref1 r]
  obtain ⟨zs, m, p, hl, hs⟩ := D.keyed I.hok
  have e : es.length = zs.length := Alike.len p
  refine call_len_dictH hs m (by rw [← e]; rw [sizeLine_eq] at hl; omega) ?_
  exact ⟨.int (es.length : Nat), H, I.tok _, ⟨_, by rw [e]⟩, q⟩
/-- d.pop(k, x) -/
def rPopN (P : Program) (w : World) : V → List V → Hp → VK → Prop := fun o xs H Q => ∃ (d a : Addr) (es : List Ent) (k : NK) (x : V), o = .ref d ∧ xs = [.ref a, x] ∧ Dct P w H d es ∧ KeyV H k (.ref a) ∧ k.depth ≤ 8 ∧
  (at_ es k = none → Q x H) ∧ (∀ v, at_ es k = some v → Q v (upd H d (dn P w d (dropE es k))))
theorem mt_popN {P : Program} {w : World} (hu : X.A.units + 40 < cLine) (hP : X.prog = P := by rfl) (hw : X.w = w := by rfl) : MtR X "dict.pop" (rPopN P w) := by
  subst hP hw
  intro pins s σ H o xs v us Q I ro rx h
  obtain ⟨d, a, es, k, x, rfl, rfl, D, hk, hd, q1, q2⟩ := h
  cases (show v = Value.ref d from ro)
  obtain ⟨u1, u2, rfl, r1, r2⟩ := vals2 rx
  cases (show u1 = Value.ref a from r1)
  obtain ⟨zs, m, p, hl, hs⟩ := D.keyed I.hok
  cases e : at_ es k with
  | none => exact call_pop_default_heap (room_in hu) (key_is I hk hd) hs m (at_none p e) (fun tk => ⟨x, H, I.tok _, r2, q1 e⟩) (by rw [← Alike.len p]; exact hl)
  | some v =>
    obtain ⟨q', e2, rr⟩ := at_some p e
    refine call_pop_heap (.inr ⟨u2, rfl⟩) (F.args_dict_pop_3 _ _ _) (room_in hu) (key_is I hk hd) hs m e2 (fun h' m' sb => ?_) (by rw [← Alike.len p]; exact hl)
    refine ⟨v, _, I.write (x := d) (e := d) (o := dn X.prog X.w d (dropE es k)) (by rw [D.1]; exact True.intro) (.inl rfl) (fun b o hb e => (sb.2 b hb).trans e) ?_ (dn_ok m' (Alike.drop p k) (Nat.le_trans (len_drop es k) hl) hs), rr, q2 v e⟩
    obtain ⟨o, _, _, g, _⟩ := m'
    exact ⟨o, g⟩
end
end DN
set_option Elab.async false
set_option linter.all false
set_option maxRecDepth 100000
set_option maxHeartbeats 4000000
namespace OP
open PySem PySem.Spec PyProof.Rows L2 CM
/-! ### what a class says of an operator: its def nm at g -/
structure Own (K : PySem.W.Frag) (C : Addr) (nm : Str) (g : Addr) : Prop where
  at_ : PySem.W.findIn K (.ref C) nm = some (some (.ref g))
  fn : PySem.W.isFn K (.ref g) = true
  fi : PySem.W.fnIn K g = true
section
variable {X : Cx} {CX : CXT} {pins : List (Addr × Obj)} {σ : L2.St} {H : Hp} {s : Shared} {a C dx g : Addr} {fs : List (Str × V)} {nm : Str} {k : Nat} {sp : Sp} {E : XK}
theorem inst_of (I : Inv X pins σ H s) (h : H a = some (.ins C dx fs)) : ∃ ox od, PySem.W.InstAt s.heap a ox C od ∧ ox.data = .plain := StX.insC_at I (.inr ⟨dx, fs, h⟩)
/-- the def is called -/
theorem run_own {Q : VK} {us : List Value} {vs : List V} (F : FnR X.prog X.w X.K X.mg X.base CX k g sp) (hr : Room k X.A) (hx : Passes CX X E) (I : Inv X pins σ H s) (r : Vals vs us) (h : sp (.ref a :: vs) H Q E) :
    wpAny (model X.prog X.w) X.A (call (.ref g) (.ref a :: us)) (EP X pins σ Q) X.xe s :=
  wpAny_mono (wpAny_call (run_fnR (us := .ref a :: us) (vs := .ref a :: vs) F hr hx I (.cons rfl r) h)) (fun _ _ z => z) fun _ _ z => z
theorem run_own1 {Q : VK} {us : List Value} {vs : List V} (F : FnR X.prog X.w X.K X.mg X.base CX k g sp) (hr : Room (k + 1) X.A) (hx : Passes CX X E) (I : Inv X pins σ H s) (r : Vals vs us) (h : sp (.ref a :: vs) H Q E) :
    wpAny (model X.prog X.w) X.A.in1 (call (.ref g) (.ref a :: us)) (EP X pins σ Q) X.xe s :=
  wpAny_mono (wpAny_call (SlX.run_at (us := .ref a :: us) (ws := .ref a :: vs) F hr.in1 I.env0.in1 hx I (.cons rfl r) h)) (fun _ _ z => z) fun _ _ z => z
/-- o[i], o an instance of C -/
def tIxO (C : Addr) (sp : Sp) (E : XK) (ta ti : TE) : TE := fun σ H Q => ta σ H fun x H1 => ti σ H1 fun y H2 => ∃ a dx fs, x = .ref a ∧ H2 a = some (.ins C dx fs) ∧ sp [x, y] H2 Q E
theorem pe_ixO {value slice : Expr} {pos : Pos} {ta ti : TE} (o : Own X.K C "__getitem__" g) (F : FnR X.prog X.w X.K X.mg X.base CX k g sp) (hr : Room (k + 1) X.A) (hx : Passes CX X E) (ha : PE X value ta) (hi : PE X slice ti)
    (hsl : ∀ x i : Value, subscripted slice true x i = runValue (.builtin "lifetime.subscript" ⟨[x, i], []⟩) := by intro _ _; rfl) : PE X (.Subscript value slice pos) (tIxO C sp E ta ti) := by
  refine ⟨fun pins s σ H Q I h => ?_⟩
  refine Subscript_ (thn (ha.run pins s σ H _ I h) fun u s1 ⟨x, H1, I1, rx, q⟩ => thn (hi.run pins s1 σ H1 _ I1 q) fun iv s2 ⟨y, H2, I2, ry, a, dx, fs, ex, hins, q2⟩ => ?_)
  subst ex
  obtain rfl : u = Value.ref a := rx
  obtain ⟨ox, od, J, hd⟩ := inst_of I2 hins
  obtain ⟨m, hF⟩ := I2.fr
  exact PySem.W.sub_K hF I2.ok.mod.kin J o.at_ o.fi o.fn (run_own1 F hr hx I2 (.cons ry .nil) q2) (hsl _ _)
/-- o[i] = v -/
def rSetO (C : Addr) (sp : Sp) (E : XK) : TSet := fun o i v H Q => ∃ a dx fs, o = .ref a ∧ H a = some (.ins C dx fs) ∧ sp [o, i, v] H (fun _ H' => Q H') E
theorem set_own (o : Own X.K C "__setitem__" g) (hq : PySem.W.noSeq X.K C = true) (F : FnR X.prog X.w X.K X.mg X.base CX k g sp) (hr : Room k X.A) (hx : Passes CX X E) : PSet X (rSetO C sp E) := by
  intro pins s σ H x i v ov iv u Q I ro ri rv h
  obtain ⟨a, dx, fs, rfl, hins, q⟩ := h
  cases (show ov = Value.ref a from ro)
  obtain ⟨ox, od, J, hd⟩ := inst_of I hins
  obtain ⟨m, hF⟩ := I.fr
  refine PySem.W.ksp_setItem hF I.ok.mod.kin J hq o.at_ o.fn (wpAny_mono (run_own F hr hx I (.cons ri (.cons rv .nil)) q) (fun w s' z => ?_) fun _ _ z => z)
  obtain ⟨_, H', I', _, q'⟩ := z
  exact ⟨H', I', q'⟩
/-- v in o -/
def rInO (C : Addr) (neg : Bool) (sp : Sp) (E : XK) : R2 := fun x y H Q => ∃ a dx fs, y = .ref a ∧ H a = some (.ins C dx fs) ∧ sp [y, x] H (fun r H' => ∃ b, r = .bl b ∧ Q (.bl (if neg then !b else b)) H') E
theorem contains_own {Q : Bool → Shared → Prop} {c x : Value} {v : V} (o : Own X.K C "__contains__" g) (F : FnR X.prog X.w X.K X.mg X.base CX k g sp) (hr : Room k X.A) (hx : Passes CX X E) (I : Inv X pins σ H s) (hins : H a = some (.ins C dx fs)) (r : RelV v x)
    {q : Bool → Hp → Prop} (h : sp [.ref a, v] H (fun r H' => ∃ b, r = .bl b ∧ q b H') E) (fin : ∀ b H' s', Inv X pins σ H' s' → q b H' → Q b s') : wpAny (model X.prog X.w) X.A (contains (.ref a) x) Q X.xe s := by
  obtain ⟨ox, od, J, hd⟩ := inst_of I hins
  have sp1 : PySem.W.Looks (model X.prog X.w) s.heap (specialOf (.ref a) "__contains__") (some (.ref g)) := J.type.andThen (PySem.W.looks_findIn I.kIn o.at_)
  unfold contains
  refine wpAny_holding ?_
  have e0 : stdlibNamesSay? (.ref a) x = Option.none := by
    unfold stdlibNamesSay?
    rfl
  rw [e0]
  refine wpAny_bind (sp1.here ?_)
  have n1 : ¬ ((some (Value.ref g) == some Value.none) = true) := fun z => by cases (Option.some.inj (beq_iff_eq.mp z))
  have n2 : ¬ ((Value.ref g == Value.none) = true) := fun z => by cases (beq_iff_eq.mp z)
  rw [if_neg n1]
  refine wpAny_bind (m := callSpecialUnlessNone? _ _ _ _) ?_
  unfold callSpecialUnlessNone?
  refine wpAny_bind (sp1.here ?_)
  dsimp only
  refine wpAny_holding (wpAny_bind ((PySem.W.bind_fn I.kIn _ (beq_iff_eq.mp o.fn)).here ?_))
  dsimp only
  rw [if_neg n2]
  refine wpAny_bind (wpAny_mono (run_own F hr hx I (.cons r .nil) h) (fun w s' z => ?_) fun _ _ z => z)
  obtain ⟨_, H', I', rw, b, rfl, q'⟩ := z
  cases (show w = Value.bool b from rw)
  refine wpAny_pure ?_
  dsimp only
  unfold truthy
  exact wpAny_pure (fin b H' s' I' q')
theorem op_inO (o : Own X.K C "__contains__" g) (F : FnR X.prog X.w X.K X.mg X.base CX k g sp) (hr : Room k X.A) (hx : Passes CX X E) : OpR X (compareOp .In) (rInO C false sp E) := by
  intro pns s σ H x y v u Q I rx ry h
  obtain ⟨a, dx, fs, rfl, hins, q⟩ := h
  cases (show u = Value.ref a from ry)
  show wpAny _ _ (contains (.ref a) v >>= fun b => pure (Value.bool b)) _ _ _
  refine wpAny_bind (contains_own (c := .ref a) (q := fun b H' => Q (.bl b) H') o F hr hx I hins rx q fun b H' s' I' q' => wpAny_pure ?_)
  exact ⟨.bl b, H', I', rfl, q'⟩
theorem op_notInO (o : Own X.K C "__contains__" g) (F : FnR X.prog X.w X.K X.mg X.base CX k g sp) (hr : Room k X.A) (hx : Passes CX X E) : OpR X (compareOp .NotIn) (rInO C true sp E) := by
  intro pns s σ H x y v u Q I rx ry h
  obtain ⟨a, dx, fs, rfl, hins, q⟩ := h
  cases (show u = Value.ref a from ry)
  show wpAny _ _ (contains (.ref a) v >>= fun b => pure (Value.bool !b)) _ _ _
  refine wpAny_bind (contains_own (c := .ref a) (q := fun b H' => Q (.bl !b) H') o F hr hx I hins rx q fun b H' s' I' q' => wpAny_pure ?_)
  exact ⟨.bl !b, H', I', rfl, q'⟩
/-- len(o) -/
def rLenO (C : Addr) (sp : Sp) (E : XK) : List V → Hp → VK → Prop := fun xs H Q => ∃ a dx fs, xs = [V.ref a] ∧ H a = some (.ins C dx fs) ∧ sp [.ref a] H (fun r H' => ∃ n : Nat, r = .int n ∧ n < 2 ^ 60 ∧ Q (.int n) H') E
theorem cr_lenO (o : Own X.K C "__len__" g) (F : FnR X.prog X.w X.K X.mg X.base CX k g sp) (hr : Room (k + 1) X.A) (hx : Passes CX X E) : CallR X (.builtin "len") (rLenO C sp E) := by
  intro pins s σ H vs us Q I r h
  obtain ⟨a, dx, fs, rfl, hins, q⟩ := h
  rw [Vals.ref1 r]
  obtain ⟨ox, od, J, hd⟩ := inst_of I hins
  refine Calls.call_function_entry kind_len plain_len entry_len (args_len1 _) ?_
  unfold Builtin.«len»
  refine wpAny_bind (m := oneArg "len" _) (wpAny_pure ?_)
  refine wpAny_bind (m := callSpecial? (.ref a) (Str.ofString "__len__")) (PySem.W.special_fn I.kIn J o.at_ (beq_iff_eq.mp o.fn) (wpAny_mono (run_own1 F hr hx I .nil q) (fun w s' z => ?_) fun _ _ z => z))
  obtain ⟨_, H', I', rw, n, rfl, hn, q'⟩ := z
  obtain ⟨t, rfl⟩ := (show ∃ t, w = Value.int n t from rw)
  have hn2 : (n : Int) < 2 ^ 63 := by omega
  refine wpAny_bind (wpAny_holding (wpAny_pure ?_))
  refine wpAny_bind (wpAny_letGo ?_)
  show wpAny _ _ (if (n : Int) < 0 then _ else _) _ _ _
  rw [if_neg (by omega)]
  show wpAny _ _ (if (n : Int) ≥ 2 ^ 63 then _ else _) _ _ _
  rw [if_neg (by omega)]
  exact wpAny_bind (wpAny_mkInt (wpAny_pure ⟨_, rfl, ⟨.int n, H', I'.tok _, ⟨_, rfl⟩, q'⟩⟩))
end
end OP
set_option Elab.async false
set_option linter.all false
set_option maxRecDepth 100000
set_option maxHeartbeats 4000000
namespace DN
open PySem PySem.Spec PyProof.Rows L2 CM RZ
/-! ### values by their data: == and != -/
mutual
theorem shw_plain {H : Hp} : ∀ {v : V} {d : PyData}, Shw H v d → d.plain = true
  | _, _, .non => by simp only [PyData.plain]
  | _, _, .bl _ => by simp only [PyData.plain]
  | _, _, .int _ => by simp only [PyData.plain]
  | _, _, .str _ => by simp only [PyData.plain]
  | _, _, .lst _ h => by
    simp only [PyData.plain]
    exact shws_plain h
  | _, _, .tup _ h => by
    simp only [PyData.plain]
    exact shws_plain h
theorem shws_plain {H : Hp} : ∀ {vs : List V} {ds : List PyData}, ShwAll H vs ds → PyData.plainAll ds = true
  | _, _, .nil => by simp only [PyData.plainAll]
  | _, _, .cons h t => by simp only [PyData.plainAll, shw_plain h, shws_plain t, Bool.and_self]
end
mutual
theorem Shw_same {H H' : Hp} (s : Same H H') : ∀ {v : V} {d : PyData}, Shw H v d → Shw H' v d
  | _, _, .non => .non
  | _, _, .bl b => .bl b
  | _, _, .int i => .int i
  | _, _, .str z => .str z
  | _, _, .lst e h => .lst (s _ _ e) (Shws_same s h)
  | _, _, .tup e h => .tup (s _ _ e) (Shws_same s h)
theorem Shws_same {H H' : Hp} (s : Same H H') : ∀ {vs : List V} {ds : List PyData}, ShwAll H vs ds → ShwAll H' vs ds
  | _, _, .nil => .nil
  | _, _, .cons h t => .cons (Shw_same s h) (Shws_same s t)
end
section
variable {X : Cx} {pins : List (Addr × Obj)} {σ : L2.St} {H : Hp} {s : Shared}
def rEqD (ne : Bool) : R2 := fun x y H Q => ∃ dx dy, Shw H x dx ∧ Shw H y dy ∧ dx.depth ≤ 40 ∧ Q (.bl (if ne then !(PyData.eqv dx dy) else PyData.eqv dx dy)) H
theorem op_eqD (hu : X.A.units + 64 < cLine) : OpR X (compareOp .Eq) (rEqD false) := by
  intro pns s σ H x y v u Q I rx ry h
  obtain ⟨dx, dy, sx, sy, hd, q⟩ := h
  obtain ⟨as, ra⟩ := sx.reads I.hok rx
  obtain ⟨bs, rb⟩ := sy.reads I.hok ry
  exact SeqAt.eq_plain ra rb (shw_plain sx) (shw_plain sy) (by omega) ⟨.bl _, H, I, rfl, q⟩
theorem op_neD (hu : X.A.units + 64 < cLine) : OpR X (compareOp .NotEq) (rEqD true) := by
  intro pns s σ H x y v u Q I rx ry h
  obtain ⟨dx, dy, sx, sy, hd, q⟩ := h
  obtain ⟨as, ra⟩ := sx.reads I.hok rx
  obtain ⟨bs, rb⟩ := sy.reads I.hok ry
  exact SeqAt.ne_plain ra rb (shw_plain sx) (shw_plain sy) (by omega) ⟨.bl _, H, I, rfl, q⟩
end
/-! ### list(d), bool(d) -/
section
variable {X : Cx} {pins : List (Addr × Obj)} {σ : L2.St} {H : Hp} {s : Shared}
def keyRefs (es : List Ent) : List V := es.map fun x => V.ref x.2.1
theorem keys_raw {P : Program} {w : World} {h : Heap} {d : Addr} {zs : List (NK × Addr × Value)} (m : h.DictOfH (nestedKind P w) d zs) : ∃ es ep, h.DictRaw d es ep ∧ es.size = zs.length ∧ ∀ i (hi : i < es.size), ∃ z, zs[i]? = some z ∧ es[i].key = .ref z.2.1 := by
  obtain ⟨es, ep, r, hs, hk⟩ := m.raw
  exact ⟨es, ep, r, hs, fun i hi => by
    obtain ⟨y, h1, h2, _⟩ := hk i hi
    exact ⟨y, h1, h2⟩⟩
theorem keyRefs_vals {zs : List (NK × Addr × Value)} : ∀ {es : List Ent} {its : List Value}, Alike es zs → its.length = zs.length → (∀ (i : Nat) (v : Value), its[i]? = some v → ∃ z, zs[i]? = some z ∧ v = .ref z.2.1) → Vals (keyRefs es) its := by
  intro es its p
  unfold keyRefs
  induction p generalizing its with
  | nil =>
    intro hl _
    cases its with
    | nil => exact .nil
    | cons => cases hl
  | @cons x z xs zs h t ih =>
    intro hl hv
    cases its with
    | nil => cases hl
    | cons u us =>
      refine .cons ?_ (ih (Nat.succ.inj hl) fun i v e => hv (i + 1) v e)
      obtain ⟨z', e, e2⟩ := hv 0 u rfl
      cases e
      subst e2
      show Value.ref _ = Value.ref _
      rw [h.2.1]
def rListN (P : Program) (w : World) : List V → Hp → VK → Prop := fun xs H Q => ∃ (d : Addr) (es : List Ent), xs = [.ref d] ∧ Dct P w H d es ∧ ∀ p, H p = none → Q (.ref p) (upd H p (.lst (keyRefs es)))
theorem cr_listN {P : Program} {w : World} (hc : X.calm = true) (hP : X.prog = P := by rfl) (hw : X.w = w := by rfl) : CallR X (.type "list") (rListN P w) := by
  subst hP hw
  intro pins s σ H vs us Q I r h
  obtain ⟨d, es, rfl, D, q⟩ := h
  rw [Vals.ref1 r]
  obtain ⟨zs, m, p, hl, hs⟩ := D.keyed I.hok
  obtain ⟨ees, ep, hr, hsz, hk⟩ := keys_raw m
  have hlen : es.length = zs.length := Alike.len p
  refine PySem.W.kdl_call (KdlSrc.rawDict hs) ?_ hr (by omega) (fun h' tk acc' c' hk' hD hacc => ?_)
  · exact I.ok.hd hc
  · have v1 : Vals (keyRefs es) acc'.toList := keyRefs_vals p (by rw [Array.length_toList, hacc.1, hsz]) fun i v e => by
      obtain ⟨hi, e2⟩ := hacc.2 i v (by rw [← Array.getElem?_toList]; exact e)
      obtain ⟨z, h1, h2⟩ := hk i hi
      exact ⟨z, h1, by rw [e2, h2]⟩
    have ok : ObjOk X.prog X.w (upd H s.heap.objs.size (.lst (keyRefs es))) h' s.heap.objs.size (.lst (keyRefs es)) := ⟨by unfold keyRefs; rw [List.length_map]; exact hl, acc'.toList, c', v1, by rw [Array.toArray_toList]; exact hD⟩
    exact ⟨.ref s.heap.objs.size, _, I.laid (t' := tk) hk' (Nat.le_refl _) ok, rfl, q _ (I.hok.fresh (Nat.le_refl _))⟩
theorem truthyN {prog : Program} {w : World} {A : Around} {E : Value → Shared → Prop} {d : Addr} {zs : List (NK × Addr × Value)} {Q : Bool → Shared → Prop} (hd : (d == sysModules) = false) (hm : s.heap.DictOfH (nestedKind prog w) d zs) (hfit : (zs.length : Int) < 2 ^ 63)
    (h : Q (!zs.isEmpty) { s with toks := s.toks + 1 + 1 }) : wpAny (model prog w) A (truthy (.ref d)) Q E s := by
  have hne : ((zs.length : Int) != 0) = !zs.isEmpty := by cases zs <;> simp <;> omega
  have key : wpAny (model prog w) A (runValue (.builtin "len" ⟨[.ref d], []⟩)) (fun r s' => r = .int zs.length (s.toks + 1) ∧ Q (!zs.isEmpty) s') E s := by
    refine wpAny_runValue (codeAny_builtin entry_len ?_)
    rw [Around.under_plainId plain_len _]
    exact wpAny_mono (wpAny_len_body_dictH (Q := fun r s' => r = .int zs.length (s.toks + 1) ∧ Q (!zs.isEmpty) s') hd hm hfit ⟨rfl, h⟩)
      (fun fin s' h' => by obtain ⟨r, rfl, hq⟩ := h'; exact hq) fun _ _ e => e
  unfold truthy
  first
    | refine wpAny_bind (wpAny_callSpecial?_none (name := Str.ofString "__bool__") hm.typeIs noBool_dict ?_)
    | refine wpAny_bind (wpAny_pure (wpAny_bind (wpAny_callSpecial?_none (name := Str.ofString "__bool__") hm.typeIs noBool_dict ?_)))
  first
    | refine wpAny_bind (wpAny_specialOf (name := Str.ofString "__len__") hm.typeIs F.slot_dict_len.lookup ?_)
    | refine wpAny_bind (wpAny_pure (wpAny_bind (wpAny_specialOf (name := Str.ofString "__len__") hm.typeIs F.slot_dict_len.lookup ?_)))
  first
    | exact wpAny_bind (wpAny_mono key (fun r s' h' => by obtain ⟨rfl, hq⟩ := h'; exact wpAny_pure (hne ▸ hq)) fun _ _ e => e)
    | exact wpAny_bind (wpAny_pure (wpAny_bind (wpAny_mono key (fun r s' h' => by obtain ⟨rfl, hq⟩ := h'; exact wpAny_pure (hne ▸ hq)) fun _ _ e => e)))
/-- bool(v) by the truth of v -/
theorem meets_bool_in {prog : Program} {w : World} (v : Value) : MeetsIn prog w (Builtin.«bool.__new__» ⟨[.type "bool", v], []⟩) (fun A R s => wpAny (model prog w) A.in1 (truthy v) (fun b s' => R (.ok (.ret (.bool b))) s') (fun e s' => R (.error e) s') s) :=
  .of_wp fun A R s hs => by
    obtain ⟨hp, g, d, tk, os⟩ := s
    have f1 := F.conv_sub_bool
    have f2 : wpAny (model prog w) A.in1 (truthy v) (fun b s' => wpAny (model prog w) A.in1 (ret (.bool b)) (fun fin s' => ∃ v, fin = .done (.ret v) ∧ R (.ok (.ret v)) s') (fun e s' => R (.error e) s') s') (fun e s' => R (.error e) s') ⟨hp, g, d, tk, os⟩ :=
      wpAny_mono hs (fun b s' z => wpAny_pure ⟨_, rfl, z⟩) fun _ _ z => z
    unfold Builtin.«bool.__new__»
    repeat (any_goals (first | exact f2 | exact wpAny_bind f2 | assumption | wp_step))
theorem call_bool_of {prog : Program} {w : World} {A : Around} {E : Value → Shared → Prop} {v : Value} {Q : Value → Shared → Prop} (h : wpAny (model prog w) A.in1.in1 (truthy v) (fun b s' => Q (.bool b) s') E s) : wpAny (model prog w) A (call (.type "bool") [v]) Q E s := by
  refine callType_newIn F.called_bool F.newNe_bool (F.typeCall_bool_1 v) (F.newCall_bool_1 v) (fun obj => F.args_object_init_2 obj v) F.entry_bool_new (meets_bool_in v) ?_
  refine wpAny_mono h (fun b s' z => ?_) fun _ _ z => z
  exact ⟨rfl, z⟩
def rBoolN (P : Program) (w : World) : List V → Hp → VK → Prop := fun xs H Q => ∃ (d : Addr) (es : List Ent), xs = [.ref d] ∧ Dct P w H d es ∧ Q (.bl (!es.isEmpty)) H
theorem cr_boolN {P : Program} {w : World} (hP : X.prog = P := by rfl) (hw : X.w = w := by rfl) : CallR X (.type "bool") (rBoolN P w) := by
  subst hP hw
  intro pins s σ H vs us Q I r h
  obtain ⟨d, es, rfl, D, q⟩ := h
  rw [Vals.ref1 r]
  obtain ⟨zs, m, p, hl, hs⟩ := D.keyed I.hok
  have e : es.length = zs.length := Alike.len p
  refine call_bool_of (truthyN hs m (by rw [← e]; rw [sizeLine_eq] at hl; omega) ?_)
  refine ⟨.bl (!es.isEmpty), H, I.tok _, ?_, q⟩
  show Value.bool _ = Value.bool _
  congr 1
  cases es <;> cases zs <;> first | rfl | cases e
/-- d.m(..) -/
def tBMN (P : Program) (w : World) (r : V → List V → Hp → VK → Prop) (to : TE) (t : TA) : TE := fun σ H Q => to σ H fun x H1 => (∃ (d : Addr) (es : List Ent), x = .ref d ∧ Dct P w H1 d es) ∧ t σ H1 fun xs H2 => r x xs H2 Q
theorem pe_bmN {P : Program} {w : World} {o e : Expr} {es : List Expr} {to : TE} {t : TA} {name : Str} {apos cpos : Pos} {id : String} {r : V → List V → Hp → VK → Prop} (pa : PlainAttrs "dict") (slot : Slot "dict" name id) (hty : typeOf (.builtin id) = pure (.type "method_descriptor")) (hm : MtR X id r) (ho : PE X o to) (ha : PA X (e :: es) t)
    (hP : X.prog = P := by rfl) (hw : X.w = w := by rfl)
    (hbase : attributeBase o name X.env (eval o X.env) = eval o X.env := by rfl)
    (hfew : ((backTo cpos (starEach (e :: es) X.env)).all (fun x => !x.1) && (backToKw cpos (keywordEach [] X.env)).all (fun x => x.1.isSome)
      && decide ((e :: es).length + ([] : List Keyword).length + (if ([] : List Keyword).isEmpty then 0 else 1) < 30)) = true := by rfl)
    (hline : (apos.endLine == cpos.line) = true := by rfl) (hs : starEach (e :: es) X.env = (false, eval e X.env) :: starEach es X.env := by rfl) (hplain : (backTo cpos (starEach es X.env)).any (·.1) = false := by rfl) :
    PE X (.Call (.Attribute o name apos) (e :: es) [] cpos) (tBMN P w r to t) := by
  subst hP hw
  refine ⟨fun pins s σ H Q I h => ?_⟩
  refine wpAny_Call_method_late hbase hfew hline rfl (thn (ho.run pins s σ H _ I h) fun v s1 ⟨x, H1, I1, r1, ⟨d, ent, ex, D⟩, q1⟩ => ?_)
  subst ex
  obtain rfl : v = Value.ref d := r1
  obtain ⟨zs, m, p, hl, hsy⟩ := D.keyed I1.hok
  obtain ⟨oo, _, _, g, xx, _⟩ := m
  refine ⟨"dict", id, pa, slot, hty, ⟨oo, g, xx.1⟩, fun a e2 => ?_, ?_⟩
  · cases e2
    exact ⟨oo, g, xx.2.1⟩
  have hA := ha.run cpos pins s1 σ H1 _ I1 q1
  rw [hs] at hA ⊢
  refine Calls.callWith_builtin (by show (false || (backTo cpos (starEach es X.env)).any (·.1)) = false; rw [hplain] <;> rfl) (Calls.evalArgs_plain ?_)
  exact thn hA fun us s2 ⟨vs, H2, I2, r2, q2⟩ => hm pins s2 σ H2 (.ref d) vs (.ref d) us Q I2 rfl r2 q2
end
end DN
set_option Elab.async false
set_option linter.all false
set_option maxRecDepth 100000
set_option maxHeartbeats 4000000
namespace OP
open PySem PySem.Spec PyProof.Rows L2 CM
section
variable {X : Cx} {CX : CXT} {pins : List (Addr × Obj)} {σ : L2.St} {H : Hp} {s : Shared} {a C dx g : Addr} {fs : List (Str × V)} {nm : Str} {k : Nat} {sp : Sp} {E : XK}
theorem Room.in2 (hr : Room (k + 2) X.A) : Room k X.A.in1.in1 := (show Room (k + 1) X.A.in1 from Room.in1 hr).in1
/-- bool(o) -/
theorem truthy_own2 {Q : Bool → Shared → Prop} {q : Bool → Hp → Prop} (o : Own X.K C "__bool__" g) (F : FnR X.prog X.w X.K X.mg X.base CX k g sp) (hr : Room (k + 2) X.A) (hx : Passes CX X E) (I : Inv X pins σ H s) (hins : H a = some (.ins C dx fs))
    (h : sp [.ref a] H (fun r H' => ∃ b, r = .bl b ∧ q b H') E) (fin : ∀ b H' s', Inv X pins σ H' s' → q b H' → Q b s') : wpAny (model X.prog X.w) X.A.in1.in1 (truthy (.ref a)) Q X.xe s := by
  obtain ⟨ox, od, J, hd⟩ := inst_of I hins
  have run : wpAny (model X.prog X.w) X.A.in1.in1 (call (.ref g) [.ref a]) (EP X pins σ fun r H' => ∃ b, r = .bl b ∧ q b H') X.xe s :=
    wpAny_mono (wpAny_call (SlX.run_at (us := [.ref a]) (ws := [.ref a]) F (Room.in2 hr) I.env0.in1.in1 hx I (.cons rfl .nil) h)) (fun _ _ z => z) fun _ _ z => z
  have sp1 : wpAny (model X.prog X.w) X.A.in1.in1 (callSpecial? (.ref a) (Str.ofString "__bool__")) (fun r s' => ∃ b, r = some (.bool b) ∧ Q b s') X.xe s :=
    PySem.W.special_fn I.kIn J o.at_ (beq_iff_eq.mp o.fn) (wpAny_mono run (fun w s' z => by
      obtain ⟨_, H', I', rw, b, rfl, q'⟩ := z
      cases (show w = Value.bool b from rw)
      exact ⟨b, rfl, fin b H' s' I' q'⟩) fun _ _ z => z)
  unfold truthy
  first
    | (refine wpAny_bind (m := callSpecial? (.ref a) (Str.ofString "__bool__")) (wpAny_mono sp1 (fun r s' hr => ?_) fun _ _ y => y))
    | (refine wpAny_bind (wpAny_pure ?_); refine wpAny_bind (m := callSpecial? (.ref a) (Str.ofString "__bool__")) (wpAny_mono sp1 (fun r s' hr => ?_) fun _ _ y => y))
  obtain ⟨b, rfl, hq⟩ := hr
  exact wpAny_pure hq
def rBoolO (C : Addr) (sp : Sp) (E : XK) : List V → Hp → VK → Prop := fun xs H Q => ∃ a dx fs, xs = [V.ref a] ∧ H a = some (.ins C dx fs) ∧ sp [.ref a] H (fun r H' => ∃ b, r = .bl b ∧ Q (.bl b) H') E
theorem cr_boolO (o : Own X.K C "__bool__" g) (F : FnR X.prog X.w X.K X.mg X.base CX k g sp) (hr : Room (k + 2) X.A) (hx : Passes CX X E) : CallR X (.type "bool") (rBoolO C sp E) := by
  intro pins s σ H vs us Q I r h
  obtain ⟨a, dx, fs, rfl, hins, q⟩ := h
  rw [Vals.ref1 r]
  exact DN.call_bool_of (truthy_own2 (q := fun b H' => Q (.bl b) H') o F hr hx I hins q fun b H' s' I' q' => ⟨.bl b, H', I', rfl, q'⟩)
/-- o(k = v, ..) -/
theorem callOK_of {M : Model} {A : Around} {E : Value → Shared → Prop} {s : Shared} {a : Addr} {pos : Pos} {Q : Value → Shared → Prop} {args : List (Bool × Sem Value)} {kws : List (Option Str × Sem Value)} (hplain : (args.any (·.1) || kws.any (·.1.isNone)) = false)
    (h : wpAny M A (evalArgs (.ref a) true args kws) (fun z s₁ => (∃ C ox od, PySem.W.InstAt s₁.heap a ox C od ∧ ox.data = .plain) ∧ wpAny M A (call (.ref a) ([] ++ z.pos) z.kw) Q E s₁) E s) : wpAny M A (callWith pos (.ref a) [] args kws) Q E s := by
  unfold callWith
  refine wpAny_bind (wpAny_holding (wpAny_mono h (fun z s₁ h₁ => wpAny_bind (wpAny_standAt ?_)) fun _ _ y => y))
  obtain ⟨⟨C, ox, od, J, hd⟩, h₁⟩ := h₁
  have L := PySem.W.kco_keeper (M := M) J hd
  simp only [hplain]
  refine wpAny_bind (L.here ?_)
  have tail : ∀ {t : Sem Value}, wpAny M A t Q E s₁ → wpAny M A (t >>= fun r => holding [r] point >>= fun _ => pure r) Q E s₁ :=
    fun ht => wpAny_bind (wpAny_mono ht (fun r s₂ hr => wpAny_bind (wpAny_holding (wpAny_point (wpAny_pure hr)))) fun _ _ y => y)
  exact tail (wpAny_operateT h₁)
def tCallOK (X : Cx) (C : Addr) (m : Nat) (sp : Sp) (gV : List V → List V → List V) (E : XK) (tf : TE) (tk : TA) : TE := fun σ H Q => tf σ H fun y H1 => ∃ a, y = V.ref a ∧ tk σ H1 fun zs H2 => zs.length = m ∧ (∃ dx fs, H2 a = some (.ins C dx fs)) ∧ sp (gV [.ref a] zs) H2 Q E
theorem pe_callOK {fe : Expr} {kws : List Keyword} {pos : Pos} {tf : TE} {tk : TA} {fd : FuncData} {ps ks : List Str} {gg : List Value → List Value → List Value} {gV : List V → List V → List V} (hf : PE X fe tf) (c : StX.CallO X.K C g)
    (F : FnOk X.prog X.w X.K X.mg X.base CX k g fd ps sp) (hb : KBn X.K fd ps 1 ks gg gV) (hr : Room k X.A) (hx : Passes CX X E) (hkw : PK X kws tk) (hall : (backToKw pos (keywordEach kws X.env)).all (·.1.isSome) = true := by rfl)
    (hks : (backToKw pos (keywordEach kws X.env)).filterMap (·.1) = ks := by rfl)
    (ht : eval (.Call fe [] kws pos) X.env = (do callWith pos (← eval fe X.env) [] (backTo pos (starEach [] X.env)) (backToKw pos (keywordEach kws X.env))) := by rfl)
    (hpl : ((backTo pos (starEach [] X.env)).any (·.1) || (backToKw pos (keywordEach kws X.env)).any (·.1.isNone)) = false := by rfl) : PE X (.Call fe [] kws pos) (tCallOK X C ks.length sp gV E tf tk) := by
  refine ⟨fun pins s σ H Q I h => ?_⟩
  rw [ht]
  refine wpAny_bind (thn (hf.run pins s σ H _ I h) fun u s1 ⟨y, H1, I1, ry, a, ey, q⟩ => ?_)
  subst ey
  obtain rfl : u = Value.ref a := ry
  refine callOK_of hpl (evalArgs_kw2_nil hall ?_)
  refine thn (hkw.run pos pins s1 σ H1 _ I1 q) fun ws s2 ⟨zs, H2, I2, rz, l2, ⟨dx, fs, hins⟩, q2⟩ => ?_
  obtain ⟨ox, od, J, hd⟩ := inst_of I2 hins
  refine ⟨⟨C, ox, od, J, hd⟩, ?_⟩
  rw [hks]
  have e2 : ws.length = ks.length := rz.length.symm.trans l2
  refine wpAny_call (PySem.W.kco_code (a := ⟨[], ks.zip ws⟩) I2.kIn J hd c.at_ c.fn c.fi (codeAny_mono (F.run X.A X.stack s2 H2 ⟨[.ref a], ks.zip ws⟩ (gg [.ref a] ws) (gV [.ref a] zs) Q E hr I2.env0 (hb.to s2 [.ref a] ws I2.kIn rfl e2) (hb.rel (vs := [V.ref a]) (us := [Value.ref a]) (.cons rfl .nil) rz) q2) fun r s' hq => ?_))
  cases r with
  | error e => exact hx pins σ H2 s2 e s' I2 hq
  | ok fl =>
    cases fl with
    | ret u => exact I2.after hq
    | next => exact False.elim hq
    | brk => exact False.elim hq
    | cont => exact False.elim hq
/-- keywords that stand for all parameters but the first -/
theorem kbn_all {x qual : Str} {params : Arguments} {body : List Stmt} {scope : Scope} {K : PySem.W.Frag} {f : Addr} {fd : FuncData} {ps ks : List Str} (F : FunD K x qual params body scope [] [] f fd) (n : Nat) (gg : {α : Type} → List α → List α → List α)
    (hrel : ∀ {vs zs : List V} {us ws : List Value}, Vals vs us → Vals zs ws → Vals (gg vs zs) (gg us ws))
    (h : ∀ (kV doc pm : Value) (an : Option Addr) (cdv ct : Value) (us ws : List Value), us.length = n → ws.length = ks.length → bindArgs (PySem.W.fnOf x qual params body scope .none kV doc pm an cdv ct) ⟨us, ks.zip ws⟩ = pure (ps.zip (gg us ws))) : KBn K fd ps n ks (fun us ws => gg us ws) (fun vs zs => gg vs zs) := by
  obtain ⟨oc, od, dV, kV, doc, pm, an, cdv, ct, osl, rfl, lk, hcd, hD, hK⟩ := F.ex
  rcases hD with ⟨_, rfl⟩ | ⟨e, _⟩
  · exact ⟨fun s us ws _ l1 l2 => .of_eq (h kV doc pm an cdv ct us ws l1 l2), fun r1 r2 => hrel r1 r2⟩
  · exact absurd rfl e
/-- o == v, o an instance of C, v of any type that is not below C -/
def rEqO (K : PySem.W.Frag) (C : Addr) (sp : Sp) (E : XK) : R2 := fun x y H Q => ∃ a dx fs t, x = .ref a ∧ H a = some (.ins C dx fs) ∧ TyX K H y t ∧ PySem.W.notFirst K C t = true ∧ sp [x, y] H (fun r H' => ∃ b, r = .bl b ∧ Q (.bl b) H') E
end
end OP
set_option Elab.async false
set_option linter.all false
set_option maxRecDepth 100000
set_option maxHeartbeats 4000000
namespace DN
open PySem PySem.Spec PyProof.Rows L2 CM RZ
/-! ### == and != of two dicts -/
section
variable {prog : Program} {w : World} {K : Type} [DecidableEq K] {knd : HeapKind prog w K} {A : Around} {E : Value → Shared → Prop} {s : Shared}
def hitN (ev : Value → Value → Bool) (kb : List (K × Addr × Value)) (z : K × Addr × Value) : Bool := match atKey kb z.1 with
  | none => false
  | some p => ev z.2.2 p.2
theorem same_pairsN {nm : String} {a b : Addr} {ka kb : List (K × Addr × Value)} {ev : Value → Value → Bool} {Q : Bool → Shared → Prop} (hr : knd.room A) (ha : (a == sysModules) = false) (hb : (b == sysModules) = false)
    (da : s.heap.DictOfH knd a ka) (db : s.heap.DictOfH knd b kb) (hits : ∀ z ∈ ka, ∀ p, atKey kb z.1 = some p → SeqAt.EqAt A s z.2.2 p.2 (ev z.2.2 p.2)) (h : Q (ka.length == kb.length && ka.all (hitN ev kb)) s) :
    wpAny (model prog w) A (Builtin.Dict.samePairs nm a b) Q E s := by
  have da' := da
  have db' := db
  obtain ⟨oa, es, ep, hoa, _, hda, hea, hka, hna⟩ := da
  obtain ⟨ob, es', ep', hob, _, hdb, heb, hkb, hnb⟩ := db
  have hla : es.size = ka.length := size_of_entries hea
  have hlb : es'.size = kb.length := size_of_entries heb
  unfold Builtin.Dict.samePairs Builtin.Dict.showsAll
  rw [if_neg (show ¬ (a == sysModules) = true by rw [ha]; exact Bool.false_ne_true), if_neg (show ¬ (b == sysModules) = true by rw [hb]; exact Bool.false_ne_true)]
  refine wpAny_bind (wpAny_pure (wpAny_bind (wpAny_pure ?_)))
  refine wpAny_bind (wpAny_dictEntries hoa hda ?_)
  dsimp only
  refine wpAny_bind (wpAny_dictEntries hob hdb ?_)
  by_cases hsz : es.size = es'.size
  case neg =>
    rw [if_pos (by simpa using hsz)]
    have hbf : (ka.length == kb.length) = false := by rw [← hla, ← hlb]; simpa using hsz
    rw [hbf, Bool.false_and] at h
    exact wpAny_bind (wpAny_rule (wpAny_pure h))
  case pos =>
    have hbt : (ka.length == kb.length) = true := by rw [← hla, ← hlb]; simpa using hsz
    rw [hbt, Bool.true_and] at h
    rw [if_neg (by rw [hsz]; simp)]
    refine wpAny_bind (wpAny_dictEpoch hoa hda ?_)
    refine wpAny_bind ?_
    rw [Std.Legacy.Range.forIn_eq_forIn_range']
    simp only [Std.Legacy.Range.size, Nat.sub_zero, Nat.add_sub_cancel, Nat.div_one]
    refine wpAny_forIn_list _
      (fun rest q s' => s' = s ∧ q = (none, ()) ∧ ∃ i, rest = List.range' i (es.size - i) ∧ i ≤ es.size ∧ ka.all (hitN ev kb) = (ka.drop i).all (hitN ev kb))
      _ ?_ ?_ _ _ ⟨rfl, rfl, 0, by simp, Nat.zero_le _, rfl⟩
    · rintro x rest q s' ⟨rfl, rfl, i, hr', hi, hpre⟩
      have hlt : i < es.size := by
        rcases Nat.lt_or_ge i es.size with h | h
        · exact h
        · rw [Nat.sub_eq_zero_of_le h] at hr'; simp at hr'
      obtain ⟨rfl, hrest⟩ : x = i ∧ rest = List.range' (i + 1) (es.size - (i + 1)) := by
        have e : es.size - i = (es.size - (i + 1)) + 1 := by omega
        rw [e, List.range'_succ] at hr'
        injection hr' with h1 h2
        exact ⟨h1, h2⟩
      refine wpAny_bind (wpAny_dictEntries hoa hda ?_)
      have hlt' : x < ka.length := by rw [← hla]; exact hlt
      have hx : es[x]? = some (entryOfKey knd ka[x]) := by rw [entry_at hea, List.getElem?_eq_getElem hlt']; rfl
      rw [hx]
      have hdrop : ka.drop x = ka[x] :: ka.drop (x + 1) := List.drop_eq_getElem_cons hlt'
      have hmem : ka[x] ∈ ka := List.getElem_mem hlt'
      show wpAny _ _ (holding [.ref ka[x].2.1, ka[x].2.2] _ >>= _) _ _ _
      refine wpAny_bind (wpAny_holding (wpAny_bind (wpAny_dictFind_heap hr (hka _ hmem) hob hdb heb hkb hnb (fun hn => ?_) fun j p hj => ?_)))
      · have hat : atKey kb ka[x].1 = none := by
          cases e : atKey kb ka[x].1 with
          | none => rfl
          | some p =>
            unfold atKey at e
            cases e2 : kb.find? (fun z => decide (z.1 = ka[x].1)) with
            | none => rw [e2] at e; cases e
            | some z =>
              have hz := List.find?_some e2
              obtain ⟨j, hj, ej⟩ := List.mem_iff_getElem.mp (List.mem_of_find?_eq_some e2)
              exact absurd (show kb[j]? = some (ka[x].1, z.2) by rw [List.getElem?_eq_getElem hj, ej]; rw [← of_decide_eq_true hz]) (hn j z.2)
        have hf : ka.all (hitN ev kb) = false := by
          rw [hpre, hdrop, List.all_cons]
          have : hitN ev kb ka[x] = false := by unfold hitN; rw [hat]
          rw [this, Bool.false_and]
        rw [hf] at h
        refine wpAny_pure ?_
        show wpAny _ _ (if (!false) = true then _ else _) _ _ _
        rw [if_pos (by decide)]
        exact wpAny_pure (wpAny_pure h)
      · have hat : atKey kb ka[x].1 = some p := atKey_of_get hnb hj
        have hjl : es'[j]? = some (entryOfKey knd (ka[x].1, p)) := by rw [entry_at heb, hj]; rfl
        refine wpAny_bind (wpAny_dictEntries hob hdb ?_)
        rw [hjl]
        have he := hits _ hmem p hat
        have hh : hitN ev kb ka[x] = ev ka[x].2.2 p.2 := by unfold hitN; rw [hat]
        refine wpAny_holding (he prog w _ _ ?_)
        cases ee : ev ka[x].2.2 p.2 with
        | false =>
          have hf : ka.all (hitN ev kb) = false := by rw [hpre, hdrop, List.all_cons, hh, ee, Bool.false_and]
          rw [hf] at h
          show wpAny _ _ (if (!false) = true then _ else _) _ _ _
          rw [if_pos (by decide)]
          exact wpAny_pure (wpAny_pure h)
        | true =>
          have hf : ka.all (hitN ev kb) = (ka.drop (x + 1)).all (hitN ev kb) := by rw [hpre, hdrop, List.all_cons, hh, ee, Bool.true_and]
          show wpAny _ _ (if (!true) = true then _ else _) _ _ _
          rw [if_neg (by decide)]
          refine wpAny_bind (wpAny_dictEpoch hoa hda ?_)
          rw [if_neg (by simp)]
          exact wpAny_pure ⟨rfl, rfl, x + 1, hrest, hlt, hf⟩
    · rintro q s' ⟨rfl, rfl, i, hr', hi, hpre⟩
      have hin : i = es.size := by
        rcases Nat.lt_or_ge i es.size with h | h
        · have e : es.size - i = (es.size - (i + 1)) + 1 := by omega
          rw [e, List.range'_succ] at hr'; exact nomatch hr'
        · exact Nat.le_antisymm hi h
      refine wpAny_pure ?_
      rw [hin, hla, List.drop_length, List.all_nil] at hpre
      rw [hpre] at h
      exact h
theorem eq_dictN {a b : Addr} {ka kb : List (K × Addr × Value)} {ev : Value → Value → Bool} {Q : Value → Shared → Prop} (hr : knd.room A.in1) (ha : (a == sysModules) = false) (hb : (b == sysModules) = false)
    (da : s.heap.DictOfH knd a ka) (db : s.heap.DictOfH knd b kb) (hu : A.units < cLine) (hits : ∀ z ∈ ka, ∀ p, atKey kb z.1 = some p → SeqAt.EqAt A.in1 s z.2.2 p.2 (ev z.2.2 p.2)) (h : Q (.bool (ka.length == kb.length && ka.all (hitN ev kb))) s) :
    wpAny (model prog w) A (compareOp .Eq (.ref a) (.ref b)) Q E s := by
  refine wpAny_richCompare_same_room (op := .Eq) da.typeIs db.typeIs PySem.F.slot_dict_eq (wpAny_call_entry PySem.F.slot_dict_eq da.typeIs PySem.F.entry_dict_eq ?_ (PySem.F.args_dict_eq_2 _ _)) hu
  show wpAny _ _ (Builtin.Dict.dictSlotArgs "__eq__" ⟨[.ref a, .ref b], []⟩ >>= _) _ _ s
  refine wpAny_bind ?_
  unfold Builtin.Dict.dictSlotArgs
  refine wpAny_bind (wpAny_notOrdered_dict da.typeIs ?_)
  show wpAny _ _ (pure (Value.ref a, Value.ref b)) _ _ s
  refine wpAny_pure ?_
  refine wpAny_bind (wpAny_isInstance (T := "dict") db.typeIs PySem.F.sub_dict_dict ?_)
  simp only [Bool.not_true, Bool.false_eq_true, if_false]
  refine wpAny_bind (wpAny_pure (wpAny_bind (wpAny_pure ?_)))
  refine wpAny_bind (same_pairsN hr ha hb da db hits ?_)
  refine wpAny_pure ⟨_, rfl, ?_, ?_⟩
  · exact fun x => nomatch x
  · generalize (ka.length == kb.length && ka.all (hitN ev kb)) = r at h
    cases r <;> exact h
theorem ne_dictN {a b : Addr} {ka kb : List (K × Addr × Value)} {ev : Value → Value → Bool} {Q : Value → Shared → Prop} (hr : knd.room A.in1) (ha : (a == sysModules) = false) (hb : (b == sysModules) = false)
    (da : s.heap.DictOfH knd a ka) (db : s.heap.DictOfH knd b kb) (hu : A.units < cLine) (hits : ∀ z ∈ ka, ∀ p, atKey kb z.1 = some p → SeqAt.EqAt A.in1 s z.2.2 p.2 (ev z.2.2 p.2)) (h : Q (.bool (!(ka.length == kb.length && ka.all (hitN ev kb)))) s) :
    wpAny (model prog w) A (compareOp .NotEq (.ref a) (.ref b)) Q E s := by
  refine wpAny_richCompare_same_room (op := .NotEq) da.typeIs db.typeIs PySem.F.slot_dict_ne (wpAny_call_entry PySem.F.slot_dict_ne da.typeIs PySem.F.entry_dict_ne ?_ (PySem.F.args_dict_ne_2 _ _)) hu
  show wpAny _ _ (Builtin.Dict.dictSlotArgs "__ne__" ⟨[.ref a, .ref b], []⟩ >>= _) _ _ s
  refine wpAny_bind ?_
  unfold Builtin.Dict.dictSlotArgs
  refine wpAny_bind (wpAny_notOrdered_dict da.typeIs ?_)
  show wpAny _ _ (pure (Value.ref a, Value.ref b)) _ _ s
  refine wpAny_pure ?_
  refine wpAny_bind (wpAny_isInstance (T := "dict") db.typeIs PySem.F.sub_dict_dict ?_)
  simp only [Bool.not_true, Bool.false_eq_true, if_false]
  refine wpAny_bind (wpAny_pure (wpAny_bind (wpAny_pure ?_)))
  refine wpAny_bind (same_pairsN hr ha hb da db hits ?_)
  refine wpAny_pure ⟨_, rfl, ?_, ?_⟩
  · exact fun x => nomatch x
  · generalize (ka.length == kb.length && ka.all (hitN ev kb)) = r at h
    cases r <;> exact h
end
/-! ### the same by values: flags, ints, texts, None -/
def fl4 : V → Bool
  | .bl _ | .int _ | .str _ | .non => true
  | _ => false
def flD : V → PyData
  | .bl b => .bool b
  | .int i => .int i
  | .str z => .str z
  | _ => .none
def vlD : Value → PyData
  | .bool b => .bool b
  | .int i _ => .int i
  | .str z _ => .str z
  | _ => .none
theorem fl_rel {v : V} {u : Value} {h : Heap} (f : fl4 v = true) (r : RelV v u) : vlD u = flD v ∧ Reads h u (flD v) [] ∧ (flD v).plain = true ∧ (flD v).depth ≤ 1 := by
  cases v with
  | bl b =>
    obtain rfl : u = .bool b := r
    exact ⟨rfl, .bool b, by simp only [flD, PyData.plain], by simp [flD, PyData.depth]⟩
  | int i =>
    obtain ⟨t, rfl⟩ := (show ∃ t, u = Value.int i t from r)
    exact ⟨rfl, .int i t, by simp only [flD, PyData.plain], by simp [flD, PyData.depth]⟩
  | str z =>
    obtain ⟨t, rfl⟩ := (show ∃ t, u = Value.str z t from r)
    exact ⟨rfl, .str z t, by simp only [flD, PyData.plain], by simp [flD, PyData.depth]⟩
  | non =>
    obtain rfl : u = .none := r
    exact ⟨rfl, .none, by simp only [flD, PyData.plain], by simp [flD, PyData.depth]⟩
  | _ => cases f
theorem fl_val {v : V} {u : Value} (f : fl4 v = true) (r : RelV v u) : vlD u = flD v := by
  cases v with
  | bl b =>
    obtain rfl : u = .bool b := r
    rfl
  | int i =>
    obtain ⟨t, rfl⟩ := (show ∃ t, u = Value.int i t from r)
    rfl
  | str z =>
    obtain ⟨t, rfl⟩ := (show ∃ t, u = Value.str z t from r)
    rfl
  | non =>
    obtain rfl : u = .none := r
    rfl
  | _ => cases f
def hitE (ys : List Ent) (x : Ent) : Bool := match at_ ys x.1 with
  | none => false
  | some v => PyData.eqv (flD x.2.2) (flD v)
def eqE (xs ys : List Ent) : Bool := xs.length == ys.length && xs.all (hitE ys)
def FlE (xs ys : List Ent) : Prop := ∀ x ∈ xs, ∀ v, at_ ys x.1 = some v → fl4 x.2.2 = true ∧ fl4 v = true
abbrev evV : Value → Value → Bool := fun u v => PyData.eqv (vlD u) (vlD v)
theorem alike_mem {xs : List Ent} {zs : List (NK × Addr × Value)} (p : Alike xs zs) : ∀ z ∈ zs, ∃ x ∈ xs, x.1 = z.1 ∧ RelV x.2.2 z.2.2 := by
  induction p with
  | nil =>
    intro z hz
    cases hz
  | @cons x z xs zs h t ih =>
    intro y hy
    rcases List.mem_cons.mp hy with rfl | hy
    · exact ⟨x, List.mem_cons_self .., h.1, h.2.2⟩
    · obtain ⟨x', m, r⟩ := ih y hy
      exact ⟨x', List.mem_cons_of_mem _ m, r⟩
theorem all_hits {xs ys : List Ent} {zs zt : List (NK × Addr × Value)} (p : Alike xs zs) (q : Alike ys zt) (f : FlE xs ys) : zs.all (hitN evV zt) = xs.all (hitE ys) := by
  induction p with
  | nil => rfl
  | @cons x z xs zs h t ih =>
    have f2 : FlE xs ys := fun x hx => f x (List.mem_cons_of_mem _ hx)
    rw [List.all_cons, List.all_cons, ih f2]
    congr 1
    unfold hitN hitE
    rw [← h.1]
    cases e : at_ ys x.1 with
    | none => rw [at_none q e]
    | some v =>
      obtain ⟨qq, e2, rr⟩ := at_some q e
      obtain ⟨f3, f4⟩ := f x (List.mem_cons_self ..) v e
      rw [e2]
      show PyData.eqv (vlD z.2.2) (vlD qq.2) = _
      rw [fl_val f3 h.2.2, fl_val f4 rr]
section
variable {X : Cx} {pins : List (Addr × Obj)} {σ : L2.St} {H : Hp} {s : Shared}
theorem hits_of {A : Around} {h : Heap} {xs ys : List Ent} {zs zt : List (NK × Addr × Value)} (p : Alike xs zs) (q : Alike ys zt) (f : FlE xs ys) (hu : A.units + 4 < cLine) : ∀ z ∈ zs, ∀ pp, atKey zt z.1 = some pp → SeqAt.EqAt A s z.2.2 pp.2 (evV z.2.2 pp.2) := by
  intro z hz pp hp
  obtain ⟨x, hx, e1, rx⟩ := alike_mem p z hz
  cases e : at_ ys x.1 with
  | none =>
    rw [← e1, at_none q e] at hp
    cases hp
  | some v =>
    obtain ⟨qq, e2, rr⟩ := at_some q e
    rw [← e1, e2] at hp
    cases hp
    obtain ⟨f3, f4⟩ := f x hx v e
    obtain ⟨a1, a2, a3, a4⟩ := fl_rel (h := s.heap) f3 rx
    obtain ⟨b1, b2, b3, b4⟩ := fl_rel (h := s.heap) f4 rr
    show SeqAt.EqAt A s z.2.2 pp.2 (PyData.eqv (vlD z.2.2) (vlD pp.2))
    rw [a1, b1]
    exact SeqAt.eqAt_plain _ _ A s _ _ _ _ a2 b2 a3 b3 (by omega)
def rEqN (P : Program) (w : World) (ne : Bool) : R2 := fun x y H Q => ∃ (a b : Addr) (xs ys : List Ent), x = .ref a ∧ y = .ref b ∧ Dct P w H a xs ∧ Dct P w H b ys ∧ FlE xs ys ∧ Q (.bl (if ne then !(eqE xs ys) else eqE xs ys)) H
theorem op_eqN {P : Program} {w : World} (hu : X.A.units + 64 < cLine) (hP : X.prog = P := by rfl) (hw : X.w = w := by rfl) : OpR X (compareOp .Eq) (rEqN P w false) := by
  subst hP hw
  intro pns s σ H x y v u Q I rx ry h
  obtain ⟨a, b, xs, ys, rfl, rfl, Da, Db, f, q⟩ := h
  cases (show v = Value.ref a from rx)
  cases (show u = Value.ref b from ry)
  obtain ⟨za, ma, pa, hla, hsa⟩ := Da.keyed I.hok
  obtain ⟨zb, mb, pb, hlb, hsb⟩ := Db.keyed I.hok
  refine eq_dictN (ev := evV) (room_in (by omega)) hsa hsb ma mb (by omega) (hits_of (h := s.heap) pa pb f (by show X.A.units + 1 + 4 < cLine; omega)) ⟨.bl _, H, I, rfl, ?_⟩
  rw [all_hits pa pb f, ← Alike.len pa, ← Alike.len pb]
  exact q
theorem op_neN {P : Program} {w : World} (hu : X.A.units + 64 < cLine) (hP : X.prog = P := by rfl) (hw : X.w = w := by rfl) : OpR X (compareOp .NotEq) (rEqN P w true) := by
  subst hP hw
  intro pns s σ H x y v u Q I rx ry h
  obtain ⟨a, b, xs, ys, rfl, rfl, Da, Db, f, q⟩ := h
  cases (show v = Value.ref a from rx)
  cases (show u = Value.ref b from ry)
  obtain ⟨za, ma, pa, hla, hsa⟩ := Da.keyed I.hok
  obtain ⟨zb, mb, pb, hlb, hsb⟩ := Db.keyed I.hok
  refine ne_dictN (ev := evV) (room_in (by omega)) hsa hsb ma mb (by omega) (hits_of (h := s.heap) pa pb f (by show X.A.units + 1 + 4 < cLine; omega)) ⟨.bl _, H, I, rfl, ?_⟩
  rw [all_hits pa pb f, ← Alike.len pa, ← Alike.len pb]
  exact q
end
end DN
set_option Elab.async false
set_option linter.all false
set_option maxRecDepth 100000
set_option maxHeartbeats 4000000
namespace GR
open PySem PySem.Spec PyProof.Rows L2 CM RZ DN
theorem u40 {n m : Nat} (h : n + 64 < m) : n + 40 < m := by omega
/-! ### plain values -/
def leafB : V → Bool
  | .int _ => true
  | .str _ => true
  | .non => true
  | _ => false
/-- instances of this class are no data -/
structure InsK (K : PySem.W.Frag) (C : Addr) : Prop where
  cl : Cls K C
  ca : PySem.W.findIn K (.ref C) "__class__" = some (some (.builtin "object.__class__"))
  gs : PySem.W.specialIn K (.builtin "object.__class__") "__get__" = some (some (.builtin "getset_descriptor.__get__"))
  tk : PySem.W.takesIn K (.builtin "object.__class__") = some true
  mr : PySem.W.mroIn K C (.type "object") = some true
  ki : PySem.W.kitOne K (.ref C) (.type "int") = some false
  ks : PySem.W.kitOne K (.ref C) (.type "str") = some false
  kt : PySem.W.kitOne K (.ref C) (.type "tuple") = some false
/-- a flag, a list, a dict, an instance -/
def Odd (K : PySem.W.Frag) (H : Hp) (v : V) : Prop := (∃ b, v = .bl b) ∨ (∃ a xs, v = .ref a ∧ H a = some (.lst xs)) ∨ (∃ a kvs, v = .ref a ∧ H a = some (.dK kvs)) ∨ ∃ a C dx fs, v = .ref a ∧ H a = some (.ins C dx fs) ∧ InsK K C
/-- what is_plain_within says of a thing within n levels -/
def PN (K : PySem.W.Frag) (H : Hp) : Nat → V → Bool → Prop
  | 0, v, b => (leafB v = true ∧ b = true) ∨ (Odd K H v ∧ b = false) ∨ ∃ a xs, v = .ref a ∧ H a = some (.tup xs) ∧ b = xs.isEmpty
  | n + 1, v, b => (leafB v = true ∧ b = true) ∨ (Odd K H v ∧ b = false) ∨ ∃ a xs, v = .ref a ∧ H a = some (.tup xs) ∧
    ((b = true ∧ ∀ x ∈ xs, PN K H n x true) ∨ (b = false ∧ ∃ (i : Nat) (x : V), xs[i]? = some x ∧ PN K H n x false ∧ ∀ (j : Nat) (y : V), j < i → xs[j]? = some y → PN K H n y true))
theorem PN.leaf {K : PySem.W.Frag} {H : Hp} {v : V} (h : leafB v = true) : ∀ n : Nat, PN K H n v true
  | 0 => .inl ⟨h, rfl⟩
  | _ + 1 => .inl ⟨h, rfl⟩
theorem PN.odd {K : PySem.W.Frag} {H : Hp} {v : V} (h : Odd K H v) : ∀ n : Nat, PN K H n v false
  | 0 => .inr (.inl ⟨h, rfl⟩)
  | _ + 1 => .inr (.inl ⟨h, rfl⟩)
mutual
def dat : NK → PyData
  | .none => .none
  | .num i => .int i
  | .text z => .str z
  | .tup ks => .tuple (dats ks)
def dats : List NK → List PyData
  | [] => []
  | k :: ks => dat k :: dats ks
end
mutual
def plN : Nat → NK → Bool
  | _, .none => true
  | _, .num _ => true
  | _, .text _ => true
  | 0, .tup ks => ks.isEmpty
  | n + 1, .tup ks => plNs n ks
def plNs : Nat → List NK → Bool
  | _, [] => true
  | n, k :: ks => plN n k && plNs n ks
end
mutual
theorem key_shw {H : Hp} : ∀ {k : NK} {v : V}, KeyV H k v → Shw H v (dat k)
  | _, _, .non => by
    rw [dat]
    exact .non
  | _, _, .int i => by
    rw [dat]
    exact .int i
  | _, _, .str z => by
    rw [dat]
    exact .str z
  | _, _, .tup e h => by
    rw [dat]
    exact .tup e (keys_shw h)
theorem keys_shw {H : Hp} : ∀ {ks : List NK} {vs : List V}, KeysV H ks vs → ShwAll H vs (dats ks)
  | _, _, .nil => by
    rw [dats]
    exact .nil
  | _, _, .cons h t => by
    rw [dats]
    exact .cons (key_shw h) (keys_shw t)
end
mutual
theorem dat_depth : ∀ k : NK, (dat k).depth = k.depth
  | .none => by simp only [dat, PyData.depth, NestedKey.depth]
  | .num _ => by simp only [dat, PyData.depth, NestedKey.depth]
  | .text _ => by simp only [dat, PyData.depth, NestedKey.depth]
  | .tup ks => by simp only [dat, PyData.depth, NestedKey.depth, dats_depth ks]
theorem dats_depth : ∀ ks : List NK, PyData.depthAll (dats ks) = NestedKey.depthAll ks
  | [] => by simp only [dats, PyData.depthAll, NestedKey.depthAll]
  | k :: ks => by simp only [dats, PyData.depthAll, NestedKey.depthAll, dat_depth k, dats_depth ks]
end
section
variable {K : PySem.W.Frag}
mutual
theorem pn_key {H : Hp} : ∀ {n : Nat} {k : NK} {v : V}, KeyV H k v → plN n k = true → PN K H n v true
  | n, _, _, .non, _ => .leaf rfl n
  | n, _, _, .int i, _ => .leaf rfl n
  | n, _, _, .str z, _ => .leaf rfl n
  | 0, _, _, .tup (ks := ks) (vs := vs) e h, q => by
    refine .inr (.inr ⟨_, vs, rfl, e, ?_⟩)
    rw [plN] at q
    cases h with
    | nil => rfl
    | cons => cases q
  | n + 1, _, _, .tup (ks := ks) (vs := vs) e h, q => by
    rw [plN] at q
    exact .inr (.inr ⟨_, vs, rfl, e, .inl ⟨rfl, pns_key h q⟩⟩)
theorem pns_key {H : Hp} : ∀ {n : Nat} {ks : List NK} {vs : List V}, KeysV H ks vs → plNs n ks = true → ∀ x ∈ vs, PN K H n x true
  | _, _, _, .nil, _, x, hx => by cases hx
  | n, _, _, .cons h t, q, x, hx => by
    rw [plNs, Bool.and_eq_true] at q
    rcases List.mem_cons.mp hx with e | hx
    · rw [e]
      exact pn_key h q.1
    · exact pns_key t q.2 x hx
end
/-- a plain value -/
structure Pl (H : Hp) (v : V) (k : NK) : Prop where
  key : KeyV H k v
  pl : plN 4 k = true
  dep : k.depth ≤ 6
theorem Pl.same {H H' : Hp} {v : V} {k : NK} (h : Pl H v k) (s : ∀ a xs, H a = some (.tup xs) → H' a = some (.tup xs)) : Pl H' v k := ⟨h.key.same s, h.pl, h.dep⟩
theorem Pl.pn {H : Hp} {v : V} {k : NK} (h : Pl H v k) : PN K H 4 v true := pn_key h.key h.pl
theorem Pl.shw {H : Hp} {v : V} {k : NK} (h : Pl H v k) : Shw H v (dat k) := key_shw h.key
/-- a place: a tuple of two plain values -/
structure Plc (H : Hp) (p : Addr) (k : NK) : Prop where
  ex : ∃ v1 v2 k1 k2, H p = some (.tup [v1, v2]) ∧ Pl H v1 k1 ∧ Pl H v2 k2 ∧ k = .tup [k1, k2]
theorem Plc.key {H : Hp} {p : Addr} {k : NK} (h : Plc H p k) : KeyV H k (.ref p) ∧ k.depth ≤ 8 := by
  obtain ⟨v1, v2, k1, k2, e, h1, h2, rfl⟩ := h.ex
  refine ⟨.tup e (.cons h1.key (.cons h2.key .nil)), ?_⟩
  have a := h1.dep
  have b := h2.dep
  simp only [NestedKey.depth, NestedKey.depthAll]
  omega
theorem Plc.same {H H' : Hp} {p : Addr} {k : NK} (h : Plc H p k) (s : ∀ a xs, H a = some (.tup xs) → H' a = some (.tup xs)) : Plc H' p k := by
  obtain ⟨v1, v2, k1, k2, e, h1, h2, e2⟩ := h.ex
  exact ⟨v1, v2, k1, k2, s _ _ e, h1.same s, h2.same s, e2⟩
/-- a value of a grid: a flag, or a plain value -/
def Wr (H : Hp) : Bool → V → PyData → Prop
  | true, v, d => ∃ b, v = .bl b ∧ d = .bool b
  | false, v, d => ∃ k, Pl H v k ∧ d = dat k
theorem Wr.same {H H' : Hp} {fl : Bool} {v : V} {d : PyData} (h : Wr H fl v d) (s : ∀ a xs, H a = some (.tup xs) → H' a = some (.tup xs)) : Wr H' fl v d := by
  cases fl with
  | true => exact h
  | false =>
    obtain ⟨k, h1, h2⟩ := h
    exact ⟨k, h1.same s, h2⟩
theorem Wr.shw {H : Hp} {fl : Bool} {v : V} {d : PyData} (h : Wr H fl v d) : Shw H v d ∧ d.depth ≤ 6 := by
  cases fl with
  | true =>
    obtain ⟨b, rfl, rfl⟩ := h
    exact ⟨.bl b, by simp only [PyData.depth]; omega⟩
  | false =>
    obtain ⟨k, h1, rfl⟩ := h
    exact ⟨h1.shw, by rw [dat_depth]; exact h1.dep⟩
/-! ### types -/
def tyN : PyData → String
  | .none => "NoneType"
  | .bool _ => "bool"
  | .int _ => "int"
  | .str _ => "str"
  | .list _ => "list"
  | .tuple _ => "tuple"
  | .dict _ => "dict"
theorem shw_ty {H : Hp} {v : V} {d : PyData} (h : Shw H v d) : TyX K H v (.type (tyN d)) := by
  cases h with
  | non => exact .base .non
  | bl b => exact .base (.bl b)
  | int i => exact .base (.int i)
  | str z => exact .base (.str z)
  | lst e _ => exact .base (.lst e)
  | tup e _ => exact .base (.tup e)
theorem kit_bb {a b : String} {r : Bool} (h : L2.kitB a b = some r) : PySem.W.kitOne K (.type a) (.type b) = some r := kit_ty h
theorem Wr.bool {H : Hp} {fl : Bool} {v : V} {d : PyData} (h : Wr H fl v d) : PySem.W.kitOne K (.type (tyN d)) (.type "bool") = some fl := by
  cases fl with
  | true =>
    obtain ⟨b, rfl, rfl⟩ := h
    show PySem.W.kitOne K (.type "bool") (.type "bool") = some true
    exact kit_bb (by decide +kernel)
  | false =>
    obtain ⟨k, h1, rfl⟩ := h
    cases k <;> (simp only [dat, tyN]; exact kit_bb (by decide +kernel))
theorem Wr.tyIn {H : Hp} {fl : Bool} {v : V} {d : PyData} (h : Wr H fl v d) : tyN d ∈ ["bool", "NoneType", "int", "str", "tuple"] := by
  cases fl with
  | true =>
    obtain ⟨b, rfl, rfl⟩ := h
    show "bool" ∈ ["bool", "NoneType", "int", "str", "tuple"]
    decide
  | false =>
    obtain ⟨k, h1, rfl⟩ := h
    cases k <;> (simp only [dat, tyN]; decide)
/-! ### what a dict says, but for the addresses of its keys -/
def kv (x : Ent) : NK × V := (x.1, x.2.2)
theorem at_kv (xs : List Ent) (k : NK) : at_ xs k = ((xs.map kv).find? fun y => decide (y.1 = k)).map (·.2) := by
  unfold at_
  induction xs with
  | nil => rfl
  | cons x r ih =>
    rw [List.map_cons, List.find?_cons, List.find?_cons]
    show (match decide (x.1 = k) with | true => some x | false => r.find? fun x => decide (x.1 = k)).map (fun z : Ent => z.2.2) = (match decide (x.1 = k) with | true => some (kv x) | false => (r.map kv).find? fun y => decide (y.1 = k)).map (fun z : NK × V => z.2)
    cases decide (x.1 = k) with
    | true => rfl
    | false => exact ih
theorem at_congr {xs ys : List Ent} (h : xs.map kv = ys.map kv) (k : NK) : at_ xs k = at_ ys k := by rw [at_kv, at_kv, h]
theorem put_kv {xs ys : List Ent} (h : xs.map kv = ys.map kv) (k : NK) (a b : Addr) (v : V) : (putE xs k a v).map kv = (putE ys k b v).map kv := by
  have g : ∀ zs : List Ent, (zs.map fun x => if x.1 = k then (x.1, x.2.1, v) else x).map kv = (zs.map kv).map fun y => if y.1 = k then (y.1, v) else y := by
    intro zs
    rw [List.map_map, List.map_map]
    refine List.map_congr_left fun x _ => ?_
    show kv (if x.1 = k then (x.1, x.2.1, v) else x) = if x.1 = k then (x.1, v) else kv x
    split <;> rfl
  unfold putE
  rw [at_congr h k]
  split
  · rw [g, g, h]
  · rw [List.map_append, List.map_append, h]
    rfl
theorem drop_kv {xs ys : List Ent} (h : xs.map kv = ys.map kv) (k : NK) : (dropE xs k).map kv = (dropE ys k).map kv := by
  have g : ∀ zs : List Ent, (dropE zs k).map kv = (zs.map kv).filter fun y => decide (y.1 ≠ k) := by
    intro zs
    unfold dropE
    rw [List.filter_map]
    rfl
  rw [g, g, h]
theorem drop_none {xs : List Ent} {k : NK} (h : at_ xs k = none) : dropE xs k = xs := by
  unfold dropE
  rw [List.filter_eq_self]
  intro x hx
  refine decide_eq_true fun e => ?_
  unfold at_ at h
  rw [Option.map_eq_none_iff, List.find?_eq_none] at h
  exact h x hx (decide_eq_true e)
theorem len_kv {xs ys : List Ent} (h : xs.map kv = ys.map kv) : xs.length = ys.length := by
  have e := congrArg List.length h
  rw [List.length_map, List.length_map] at e
  exact e
theorem mem_put {xs : List Ent} {k : NK} {a : Addr} {v : V} {x : Ent} (h : x ∈ putE xs k a v) : (∃ y ∈ xs, y.1 = x.1 ∧ y.2.1 = x.2.1 ∧ (y.2.2 = x.2.2 ∨ x.2.2 = v)) ∨ x = (k, a, v) := by
  unfold putE at h
  split at h
  · obtain ⟨y, hy, e⟩ := List.mem_map.mp h
    refine .inl ⟨y, hy, ?_⟩
    subst e
    split
    · exact ⟨rfl, rfl, .inr rfl⟩
    · exact ⟨rfl, rfl, .inl rfl⟩
  · rcases List.mem_append.mp h with h | h
    · exact .inl ⟨x, h, rfl, rfl, .inl rfl⟩
    · exact .inr (List.mem_singleton.mp h)
theorem mem_drop {xs : List Ent} {k : NK} {x : Ent} (h : x ∈ dropE xs k) : x ∈ xs := (List.mem_filter.mp h).1
/-- a dict behind a store -/
theorem dct_put {P : Program} {w : World} {H : Hp} {d p : Addr} {xs : List Ent} {k : NK} {v : V} (D : Dct P w H d xs) (hk : KeyV H k (.ref p)) (hd : k.depth ≤ 8) : Dct P w (upd H d (dn P w d (putE xs k p v))) d (putE xs k p v) := by
  have s : ∀ a ys, H a = some (.tup ys) → (upd H d (dn P w d (putE xs k p v))) a = some (.tup ys) := fun a ys e => by
    have n : a ≠ d := fun z => by
      rw [z, D.1] at e
      exact dn_ne (Option.some.inj e)
    rw [upd_ne n]
    exact e
  refine ⟨upd_same, fun x hx => ?_⟩
  rcases mem_put hx with ⟨y, hy, e1, e2, _⟩ | rfl
  · obtain ⟨h1, h2⟩ := D.2 y hy
    rw [← e1, ← e2]
    exact ⟨h1.same s, h2⟩
  · exact ⟨hk.same s, hd⟩
theorem dct_drop {P : Program} {w : World} {H : Hp} {d : Addr} {xs : List Ent} {k : NK} (D : Dct P w H d xs) : Dct P w (upd H d (dn P w d (dropE xs k))) d (dropE xs k) := by
  have s : ∀ a ys, H a = some (.tup ys) → (upd H d (dn P w d (dropE xs k))) a = some (.tup ys) := fun a ys e => by
    have n : a ≠ d := fun z => by
      rw [z, D.1] at e
      exact dn_ne (Option.some.inj e)
    rw [upd_ne n]
    exact e
  refine ⟨upd_same, fun x hx => ?_⟩
  obtain ⟨h1, h2⟩ := D.2 x (mem_drop hx)
  exact ⟨h1.same s, h2⟩
/-- the keys as a list: what it shows -/
theorem keys_shown {P : Program} {w : World} {H : Hp} {d : Addr} {xs : List Ent} (D : Dct P w H d xs) : ShwAll H (keyRefs xs) (xs.map fun x => dat x.1) := by
  have h := D.2
  unfold keyRefs
  clear D
  induction xs with
  | nil => exact .nil
  | cons x r ih => exact .cons (key_shw (h x (List.mem_cons_self ..)).1) (ih fun y hy => h y (List.mem_cons_of_mem _ hy))
theorem keys_deep {xs : List Ent} (h : ∀ x ∈ xs, x.1.depth ≤ 8) : PyData.depthAll (xs.map fun x => dat x.1) ≤ 8 := by
  induction xs with
  | nil => simp [PyData.depthAll]
  | cons x r ih =>
    have a := h x (List.mem_cons_self ..)
    have b := ih fun y hy => h y (List.mem_cons_of_mem _ hy)
    rw [List.map_cons, PyData.depthAll, dat_depth]
    omega
theorem keys_same {xs ys : List Ent} (h : xs.map kv = ys.map kv) : (xs.map fun x => dat x.1) = ys.map fun x => dat x.1 := by
  have e : ∀ zs : List Ent, (zs.map fun x => dat x.1) = (zs.map kv).map fun y => dat y.1 := by
    intro zs
    rw [List.map_map]
    rfl
  rw [e, e, h]
theorem eqv_self {H : Hp} {v : V} {d : PyData} (h : Shw H v d) : PyData.eqv d d = true := SeqAt.eqv_refl_plain d (shw_plain h)
/-- a grid at g: its default, its dict -/
def Gd (P : Program) (w : World) (C : Addr) (H : Hp) (g : Addr) (dv : V) (e : Addr) (xs : List Ent) : Prop := (∃ dx, H g = some (.ins C dx [("default", dv), ("entries", .ref e)])) ∧ Dct P w H e xs
theorem Gd.same {P : Program} {w : World} {C g e : Addr} {H H' : Hp} {dv : V} {xs : List Ent} (h : Gd P w C H g dv e xs) (s : Same H H') : Gd P w C H' g dv e xs := let ⟨⟨dx, h1⟩, h2⟩ := h; ⟨⟨dx, s _ _ h1⟩, h2.same s⟩
theorem same_tup {H H' : Hp} (s : Same H H') : ∀ a xs, H a = some (.tup xs) → H' a = some (.tup xs) := fun a xs e => s a _ e
theorem Pl.int {H : Hp} (i : Int) : Pl H (.int i) (.num i) := ⟨.int i, by simp only [plN], by simp only [NestedKey.depth]; omega⟩
theorem Pl.str {H : Hp} (z : Str) : Pl H (.str z) (.text z) := ⟨.str z, by simp only [plN], by simp only [NestedKey.depth]; omega⟩
theorem Pl.non {H : Hp} : Pl H .non .none := ⟨.non, by simp only [plN], by simp only [NestedKey.depth]; omega⟩
theorem kp_tup {a : Addr} {H H' : Hp} {ys : List V} (h : H a = some (.lst ys)) (s : Kp a H H') : ∀ b xs, H b = some (.tup xs) → H' b = some (.tup xs) := fun b xs e => s b _ (fun z => by
  rw [z, h] at e
  cases e) e
/-- all but these objects stay -/
def Kps (S : List Addr) (H H' : Hp) : Prop := ∀ b o, b ∉ S → H b = some o → H' b = some o
theorem Kps.trans {S : List Addr} {H H1 H2 : Hp} (x : Kps S H H1) (y : Kps S H1 H2) : Kps S H H2 := fun b o n e => y b o n (x b o n e)
theorem Kps.mono {S S' : List Addr} {H H' : Hp} (h : Kps S H H') (m : ∀ b ∈ S, b ∈ S') : Kps S' H H' := fun b o n e => h b o (fun z => n (m b z)) e
theorem Kps.same {S : List Addr} {H H' : Hp} (s : Same H H') : Kps S H H' := fun b o _ e => s b o e
theorem Kps.kp {S : List Addr} {a : Addr} {H H' : Hp} (s : Kp a H H') (m : a ∈ S) : Kps S H H' := fun b o n e => s b o (fun z => n (z ▸ m)) e
theorem Kps.upd {S : List Addr} {a : Addr} {H : Hp} {o : HO} (m : a ∈ S) : Kps S H (upd H a o) := fun b u n e => by
  rw [upd_ne (fun z => n (by rw [z]; exact m))]
  exact e
/-- tuples stay -/
def TP (H H' : Hp) : Prop := ∀ a xs, H a = some (.tup xs) → H' a = some (.tup xs)
theorem TP.trans {H H1 H2 : Hp} (x : TP H H1) (y : TP H1 H2) : TP H H2 := fun a xs e => y a xs (x a xs e)
theorem TP.same {H H' : Hp} (s : Same H H') : TP H H' := same_tup s
theorem TP.kp {a : Addr} {H H' : Hp} {ys : List V} (h : H a = some (.lst ys)) (s : Kp a H H') : TP H H' := kp_tup h s
theorem tp_dct {P : Program} {w : World} {H : Hp} {d : Addr} {xs : List Ent} {o : HO} (D : Dct P w H d xs) : TP H (upd H d o) := fun a ys e => by
  have n : a ≠ d := fun z => by
    rw [z, D.1] at e
    exact dn_ne (Option.some.inj e)
  rw [upd_ne n]
  exact e
/-- a grid and the law's own dict of it -/
structure Two (P : Program) (w : World) (C : Addr) (H : Hp) (fl : Bool) (g e c : Addr) (dv : V) (xs ys : List Ent) : Prop where
  gd : Gd P w C H g dv e xs
  dc : Dct P w H c ys
  ne : e ≠ c
  wd : ∃ d, Wr H fl dv d
  vals : ∀ x ∈ xs, ∃ d, Wr H fl x.2.2 d
variable {P : Program} {w : World} {C g e c : Addr} {H H' : Hp} {fl : Bool} {dv : V} {xs ys : List Ent}
theorem dn_ins {d : Addr} {dx : Addr} {fs : List (Str × V)} : dn P w d xs ≠ .ins C dx fs := fun z => by
  unfold dn at z
  cases z
theorem dn_lst {d : Addr} {zs : List V} : dn P w d xs ≠ .lst zs := fun z => by
  unfold dn at z
  cases z
theorem Two.g_e (h : Two P w C H fl g e c dv xs ys) : g ≠ e := fun z => by
  obtain ⟨⟨dx, h1⟩, h2⟩ := h.gd
  rw [z, h2.1] at h1
  exact dn_ins (Option.some.inj h1)
theorem Two.g_c (h : Two P w C H fl g e c dv xs ys) : g ≠ c := fun z => by
  obtain ⟨⟨dx, h1⟩, h2⟩ := h.gd
  rw [z, h.dc.1] at h1
  exact dn_ins (Option.some.inj h1)
theorem Two.keep {S : List Addr} (h : Two P w C H fl g e c dv xs ys) (s : Kps S H H') (t : TP H H') (n1 : g ∉ S) (n2 : e ∉ S) (n3 : c ∉ S) : Two P w C H' fl g e c dv xs ys := by
  obtain ⟨⟨⟨dx, h1⟩, h2⟩, h3, h4, ⟨d, h5⟩, h6⟩ := h
  exact ⟨⟨⟨dx, s _ _ n1 h1⟩, h2.mono (s _ _ n2 h2.1) t⟩, h3.mono (s _ _ n3 h3.1) t, h4, ⟨d, h5.same t⟩, fun x hx => let ⟨d, hd⟩ := h6 x hx; ⟨d, hd.same t⟩⟩
theorem Two.same (h : Two P w C H fl g e c dv xs ys) (s : Same H H') : Two P w C H' fl g e c dv xs ys := h.keep (S := []) (Kps.same s) (same_tup s) (List.not_mem_nil) (List.not_mem_nil) (List.not_mem_nil)
theorem Two.at_lst {a : Addr} {zs : List V} (h : Two P w C H fl g e c dv xs ys) (ha : H a = some (.lst zs)) : g ≠ a ∧ e ≠ a ∧ c ≠ a := by
  obtain ⟨⟨⟨dx, h1⟩, h2⟩, h3, _⟩ := h
  refine ⟨fun z => ?_, fun z => ?_, fun z => ?_⟩
  · rw [z, ha] at h1
    cases h1
  · have := h2.1
    rw [z, ha] at this
    exact dn_lst (Option.some.inj this).symm
  · have := h3.1
    rw [z, ha] at this
    exact dn_lst (Option.some.inj this).symm
theorem Two.kp {a : Addr} {zs : List V} (h : Two P w C H fl g e c dv xs ys) (ha : H a = some (.lst zs)) (s : Kp a H H') : Two P w C H' fl g e c dv xs ys := by
  obtain ⟨n1, n2, n3⟩ := h.at_lst ha
  exact h.keep (S := [a]) (Kps.kp s (List.mem_singleton.mpr rfl)) (kp_tup ha s) (fun z => n1 (List.mem_singleton.mp z)) (fun z => n2 (List.mem_singleton.mp z)) (fun z => n3 (List.mem_singleton.mp z))
theorem Two.put_e {p : Addr} {k : NK} {v : V} {d : PyData} (h : Two P w C H fl g e c dv xs ys) (hk : KeyV H k (.ref p)) (hd : k.depth ≤ 8) (wv : Wr H fl v d) : Two P w C (upd H e (dn P w e (putE xs k p v))) fl g e c dv (putE xs k p v) ys := by
  have t : TP H (upd H e (dn P w e (putE xs k p v))) := tp_dct h.gd.2
  have ge := h.g_e
  obtain ⟨⟨⟨dx, h1⟩, h2⟩, h3, h4, ⟨dd, h5⟩, h6⟩ := h
  refine ⟨⟨⟨dx, by rw [upd_ne ge]; exact h1⟩, dct_put h2 hk hd⟩, h3.mono (by rw [upd_ne (Ne.symm h4)]; exact h3.1) t, h4, ⟨dd, h5.same t⟩, fun x hx => ?_⟩
  rcases mem_put hx with ⟨y, hy, _, _, ev⟩ | rfl
  · rcases ev with ev | ev
    · obtain ⟨d, hd⟩ := h6 y hy
      rw [← ev]
      exact ⟨d, hd.same t⟩
    · rw [ev]
      exact ⟨d, wv.same t⟩
  · exact ⟨d, wv.same t⟩
theorem Two.drop_e {k : NK} (h : Two P w C H fl g e c dv xs ys) : Two P w C (upd H e (dn P w e (dropE xs k))) fl g e c dv (dropE xs k) ys := by
  have t : TP H (upd H e (dn P w e (dropE xs k))) := tp_dct h.gd.2
  have ge := h.g_e
  obtain ⟨⟨⟨dx, h1⟩, h2⟩, h3, h4, ⟨dd, h5⟩, h6⟩ := h
  refine ⟨⟨⟨dx, by rw [upd_ne ge]; exact h1⟩, dct_drop h2⟩, h3.mono (by rw [upd_ne (Ne.symm h4)]; exact h3.1) t, h4, ⟨dd, h5.same t⟩, fun x hx => ?_⟩
  obtain ⟨d, hd⟩ := h6 x (mem_drop hx)
  exact ⟨d, hd.same t⟩
theorem Two.put_c {p : Addr} {k : NK} {v : V} (h : Two P w C H fl g e c dv xs ys) (hk : KeyV H k (.ref p)) (hd : k.depth ≤ 8) : Two P w C (upd H c (dn P w c (putE ys k p v))) fl g e c dv xs (putE ys k p v) := by
  have t : TP H (upd H c (dn P w c (putE ys k p v))) := tp_dct h.dc
  have gc := h.g_c
  obtain ⟨⟨⟨dx, h1⟩, h2⟩, h3, h4, ⟨dd, h5⟩, h6⟩ := h
  exact ⟨⟨⟨dx, by rw [upd_ne gc]; exact h1⟩, h2.mono (by rw [upd_ne h4]; exact h2.1) t⟩, dct_put h3 hk hd, h4, ⟨dd, h5.same t⟩, fun x hx => let ⟨d, hd⟩ := h6 x hx; ⟨d, hd.same t⟩⟩
theorem Two.drop_c {k : NK} (h : Two P w C H fl g e c dv xs ys) : Two P w C (upd H c (dn P w c (dropE ys k))) fl g e c dv xs (dropE ys k) := by
  have t : TP H (upd H c (dn P w c (dropE ys k))) := tp_dct h.dc
  have gc := h.g_c
  obtain ⟨⟨⟨dx, h1⟩, h2⟩, h3, h4, ⟨dd, h5⟩, h6⟩ := h
  exact ⟨⟨⟨dx, by rw [upd_ne gc]; exact h1⟩, h2.mono (by rw [upd_ne h4]; exact h2.1) t⟩, dct_drop h3, h4, ⟨dd, h5.same t⟩, fun x hx => let ⟨d, hd⟩ := h6 x hx; ⟨d, hd.same t⟩⟩
theorem at_mem {k : NK} {u : V} (h : at_ xs k = some u) : ∃ x ∈ xs, x.2.2 = u := by
  unfold at_ at h
  obtain ⟨x, hx, e⟩ := Option.map_eq_some_iff.mp h
  exact ⟨x, List.mem_of_find?_eq_some hx, e⟩
theorem Two.worth (h : Two P w C H fl g e c dv xs ys) (k : NK) : ∃ d, Wr H fl ((at_ xs k).getD dv) d := by
  cases ha : at_ xs k with
  | none => exact h.wd
  | some u =>
    obtain ⟨x, hx, ex⟩ := at_mem ha
    obtain ⟨d, hd⟩ := h.vals x hx
    rw [ex] at hd
    exact ⟨d, hd⟩
/-- a grid that is as its dict, of no more than n -/
def Slt (P : Program) (w : World) (C : Addr) (H : Hp) (n : Nat) (fl : Bool) (g e c : Addr) (dv : V) : Prop := ∃ xs ys, Two P w C H fl g e c dv xs ys ∧ xs.map kv = ys.map kv ∧ xs.length ≤ n
theorem Slt.keep {n : Nat} {S : List Addr} (h : Slt P w C H n fl g e c dv) (s : Kps S H H') (t : TP H H') (n1 : g ∉ S) (n2 : e ∉ S) (n3 : c ∉ S) : Slt P w C H' n fl g e c dv := let ⟨xs, ys, T, h1, h2⟩ := h; ⟨xs, ys, T.keep s t n1 n2 n3, h1, h2⟩
theorem Slt.same {n : Nat} (h : Slt P w C H n fl g e c dv) (s : Same H H') : Slt P w C H' n fl g e c dv := let ⟨xs, ys, T, h1, h2⟩ := h; ⟨xs, ys, T.same s, h1, h2⟩
theorem Slt.kp {n : Nat} {a : Addr} {zs : List V} (h : Slt P w C H n fl g e c dv) (ha : H a = some (.lst zs)) (s : Kp a H H') : Slt P w C H' n fl g e c dv := let ⟨xs, ys, T, h1, h2⟩ := h; ⟨xs, ys, T.kp ha s, h1, h2⟩
theorem Slt.le {n m : Nat} (h : Slt P w C H n fl g e c dv) (l : n ≤ m) : Slt P w C H m fl g e c dv := let ⟨xs, ys, T, h1, h2⟩ := h; ⟨xs, ys, T, h1, Nat.le_trans h2 l⟩
section
variable {X : Cx}
/-- {}, told by P and w -/
theorem pe_dnewP {pos : Pos} (hP : X.prog = P := by rfl) (hw : X.w = w := by rfl) : PE X (.Dict [] [] pos) (tDNewN P w) := by
  subst hP hw
  exact pe_dnewN
end
/-! ### what a class says of its operators, as a Boolean -/
def ownB (K : PySem.W.Frag) (C : Addr) (nm : Str) : Bool := He.eqO (PySem.W.findIn K (.ref C) nm) (some (some (.ref (He.ma K C nm)))) && (PySem.W.isFn K (.ref (He.ma K C nm)) && PySem.W.fnIn K (He.ma K C nm))
theorem ownB_ok {C : Addr} {nm : Str} (h : ownB K C nm = true) : OP.Own K C nm (He.ma K C nm) := by
  obtain ⟨h1, h⟩ := He.ba h
  obtain ⟨h2, h3⟩ := He.ba h
  exact ⟨He.eqO_ok h1, h2, h3⟩
theorem ownB_call {C : Addr} (h : ownB K C "__call__" = true) : StX.CallO K C (He.ma K C "__call__") := by
  obtain ⟨h1, h⟩ := He.ba h
  obtain ⟨h2, h3⟩ := He.ba h
  exact ⟨He.eqO_ok h1, h2, h3⟩
def notB (K : PySem.W.Frag) (C : Addr) : Bool := ["bool", "NoneType", "int", "str", "tuple"].all fun T => decide (PySem.W.kitOne K (.type T) (.ref C) = some false)
theorem notB_ok {C : Addr} (h : notB K C = true) : ∀ T ∈ ["bool", "NoneType", "int", "str", "tuple"], PySem.W.kitOne K (.type T) (.ref C) = some false := fun T hT => of_decide_eq_true (List.all_eq_true.mp h T hT)
/-- every parameter is given -/
theorem raw0 {mg : Str → Option Value} {base : Heap} {k : Nat} {f : Addr} {fd : FuncData} {ps : List Str} {sp : Sp} (G : FnOk P w K mg base CX0 k f fd ps sp) (b : Binds K fd ps []) : FnR P w K mg base CX0 k f sp :=
  (FnOk.raw G b .nil).imp fun vs H Q E h => by
    rw [List.append_nil]
    exact h
end
end GR
set_option Elab.async false
set_option linter.all false
set_option maxRecDepth 100000
set_option maxHeartbeats 4000000
/-! own == and != of instances, against any value; isinstance of dicts by nested keys -/
namespace OP
open PySem PySem.Spec PyProof.Rows L2 CM DN
inductive TyN (P : Program) (w : World) (K : PySem.W.Frag) (H : Hp) : V → Value → Prop where
  | x {v : V} {t : Value} (h : TyX K H v t) : TyN P w K H v t
  | dct {d : Addr} {xs : List Ent} (h : Dct P w H d xs) : TyN P w K H (.ref d) (.type "dict")
theorem TyN.same {P : Program} {w : World} {K : PySem.W.Frag} {H H' : Hp} {v : V} {t : Value} (h : TyX K H' v t) : TyN P w K H' v t := .x h
section
variable {X : Cx} {CX : CXT} {pins : List (Addr × Obj)} {σ : L2.St} {H : Hp} {s : Shared} {C g : Addr} {k : Nat} {sp : Sp} {E : XK}
theorem kit_ofN {P : Program} {w : World} {x : V} {u t : Value} (I : Inv X pins σ H s) (rx : RelV x u) (ty : TyN P w X.K H x t) (hP : X.prog = P := by rfl) (hw : X.w = w := by rfl) : ∃ Pp : Heap → Prop, PySem.W.KitX X.K u t Pp ∧ Pp s.heap ∧ u ≠ .builtin "__main__.__loader__#opaque" := by
  subst hP hw
  cases ty with
  | x h => exact kit_of I rx h
  | @dct d xs D =>
    cases (show u = Value.ref d from rx)
    obtain ⟨⟨us, _, _, _, _, o, es, ep, h1, h2, _⟩, _⟩ := (show ObjOk X.prog X.w H s.heap d (dn X.prog X.w d xs) from I.hok d _ D.1)
    exact ⟨_, PySem.W.kitx_dict, ⟨o, h1, h2.1⟩, fun z => nomatch z⟩
def rIsiN (P : Program) (w : World) (K : PySem.W.Frag) : List V → Hp → VK → Prop := fun xs H Q => ∃ (x c : V) (t u : Value) (b : Bool), xs = [x, c] ∧ ClsV c u ∧ TyN P w K H x t ∧ PySem.W.kitOne K t u = some b ∧ Q (.bl b) H
theorem call_isiN {P : Program} {w : World} (hP : X.prog = P := by rfl) (hw : X.w = w := by rfl) : CallR X (.builtin "isinstance") (rIsiN P w X.K) := by
  subst hP hw
  intro pins s σ H xs us Q I r h
  obtain ⟨x, c, t, u, b, rfl, k, ty, e, q⟩ := h
  obtain ⟨u1, u2, rfl, r1, r2⟩ := vals2 r
  have e2 := k.eq r2
  subst e2
  obtain ⟨Pp, Z, p, hx⟩ := kit_ofN I r1 ty
  exact PySem.W.kia_one Z I.kIn p e hx fun tk => ⟨.bl b, H, I.tok tk, rfl, q⟩
/-- o == v, o an instance of C, v of any type that is not below C -/
def rEqP (P : Program) (w : World) (K : PySem.W.Frag) (C : Addr) (sp : Sp) (E : XK) : R2 := fun x y H Q => ∃ a dx fs t, x = .ref a ∧ H a = some (.ins C dx fs) ∧ TyN P w K H y t ∧ PySem.W.notFirst K C t = true ∧ sp [x, y] H (fun r H' => ∃ b, r = .bl b ∧ Q (.bl b) H') E
theorem op_eqO {P : Program} {w : World} (o : Own X.K C "__eq__" g) (F : FnR X.prog X.w X.K X.mg X.base CX k g sp) (hr : Room k X.A) (hx : Passes CX X E) (hP : X.prog = P := by rfl) (hw : X.w = w := by rfl) : OpR X (compareOp .Eq) (rEqP P w X.K C sp E) := by
  subst hP hw
  intro pins s σ H x y v u Q I rx ry h
  obtain ⟨a, dx, fs, t, rfl, ha, ty, hn, q⟩ := h
  cases (show v = Value.ref a from rx)
  obtain ⟨ox, od, J, _⟩ := inst_of I ha
  obtain ⟨m, hF⟩ := I.fr
  obtain ⟨Pp, Z, p, _⟩ := kit_ofN I ry ty
  show wpAny _ X.A (richCompare .Eq (.ref a) u) _ _ s
  refine PySem.W.cmp_K (op := .Eq) (tb := t) hr.units0 hF I.ok.mod.kin J (Z.ty _ _ I.kIn p) hn o.at_ o.fn ?_
  refine wpAny_mono (wpAny_call (run_fnR (us := [.ref a, u]) (vs := [.ref a, y]) F hr hx I (.cons rfl (.cons ry .nil)) q)) (fun w s' z => ?_) fun _ _ x => x
  obtain ⟨z', H', I', rz, b, ez, qz⟩ := z
  subst ez
  cases rz
  exact ⟨.bl b, H', I', rfl, qz⟩
/-- the same, K told: for comprehensions -/
theorem op_eqOK {P : Program} {w : World} {K : PySem.W.Frag} (o : Own K C "__eq__" g) (F : FnR P w K X.mg X.base CX k g sp) (hr : Room k X.A) (hx : Passes CX X E) (hK : X.K = K := by rfl) (hP : X.prog = P := by rfl) (hw : X.w = w := by rfl) : OpR X (compareOp .Eq) (rEqP P w K C sp E) := by
  subst hP hw hK
  exact op_eqO o F hr hx
end
/-! ### != by the own == -/
section
variable {prog : Program} {w : World} {A : Around} {E : Value → Shared → Prop} {s : Shared} {K : PySem.W.Frag} {x C L f : Addr} {h₀ : Heap} {m : Str → Option Value} {ox : Obj} {od : Option Obj} {b tb : Value}
theorem ne_slot : Slot "object" "__ne__" "object.__ne__" := .of (owner := "object") (n := "__ne__") (by rw [typeLookup_type, builtinLookup_eq_fast]; kernel_rfl) (by decide +kernel) (by decide +kernel) (by decide +kernel) (.inl (by decide +kernel)) (by rw [isSubtype_type]; kernel_rfl)
theorem ifBound_ne {M : Model} {args : List Value} {Q : Option Value → Shared → Prop} (X : K.In s.heap) (I : PySem.W.InstAt s.heap x ox C od) (hs : PySem.W.findIn K (.ref C) "__ne__" = some (some (.builtin "object.__ne__")))
    (h : wpAny M A (call (.builtin "object.__ne__") (.ref x :: args)) (fun v => Q (some v)) E s) : wpAny M A (callSpecialIfBound? (.ref x) "__ne__" args) Q E s := by
  simp only [callSpecialIfBound?, bindSpecialIfBound?]
  refine wpAny_holding (wpAny_bind (wpAny_bind (wpAny_bind (I.type.here ((PySem.W.looks_findIn X hs).here ?_)))))
  simp only [ne_slot.bind]
  refine wpAny_bind (wpAny_askSetting (wpAny_ite ?_))
  have fin : wpAny M A (call (.builtin "object.__ne__") ([.ref x] ++ args) >>= fun v => pure (some v)) Q E s := wpAny_bind (wpAny_mono h (fun v s' h' => wpAny_pure h') fun _ _ h' => h')
  split
  · exact wpAny_bind (wpAny_pure (wpAny_pure fin))
  · exact wpAny_tryCatch (wpAny_bind (wpAny_pure (wpAny_pure fin)))
theorem entry_ne {Q : Fin → Shared → Prop} (X : K.In s.heap) (I : PySem.W.InstAt s.heap x ox C od) (hs : PySem.W.findIn K (.ref C) "__eq__" = some (some (.ref f))) (hf : PySem.W.isFn K (.ref f) = true) (hu : A.units < cLine)
    (hcall : wpAny (model prog w) A (call (.ref f) [.ref x, b]) (fun v s' => ∃ c, v = .bool c ∧ Q (.done (.ret (.bool (!c)))) s') E s) : wpAny (model prog w) A (Builtin.«object.__ne__» ⟨[.ref x, b], []⟩) Q E s := by
  unfold Builtin.«object.__ne__»
  repeat (first
    | with_reducible refine wpAny_cRoomFor hu ?_
    | (refine wpAny_bind (m := callSpecialIfBound? (.ref x) (Str.ofString "__eq__") [b])
        (PySem.W.ifBound_K X I hs hf (wpAny_mono hcall (fun r s' hr => by
          obtain ⟨c, rfl, hq⟩ := hr
          repeat (first | exact hq | exact wpAny_pure hq | exact wpAny_truthy_bool hq | (refine wpAny_bind (m := truthy (.bool _)) (wpAny_truthy_bool ?_)) | wp_step)) fun _ _ e => e)))
    | wp_step)
theorem cmp_ne {Q : Value → Shared → Prop} (hu : A.units + 1 < cLine) (F : PyProof.Rows.Fr h₀ L s.heap m) (X₀ : K.In h₀) (I : PySem.W.InstAt s.heap x ox C od) (hb : PySem.W.Looks (model prog w) s.heap (typeOf b) tb) (hn : PySem.W.notFirst K C tb = true)
    (hs : PySem.W.findIn K (.ref C) "__eq__" = some (some (.ref f))) (hf : PySem.W.isFn K (.ref f) = true) (hne : PySem.W.findIn K (.ref C) "__ne__" = some (some (.builtin "object.__ne__"))) (hm : PySem.W.mroIn K C (.type "object") = some true)
    (h : wpAny (model prog w) A.in1 (call (.ref f) [.ref x, b]) (fun v s' => ∃ c, v = .bool c ∧ Q (.bool (!c)) s') E s) : wpAny (model prog w) A (richCompare .NotEq (.ref x) b) Q E s := by
  have X := X₀.keeps F.keep
  have hu1 : A.in1.units < cLine := by
    have : A.in1.units = A.units + 1 := rfl
    omega
  have one : wpAny (model prog w) A (tryCompare (.ref x) "__ne__" b) (fun r s' => ∃ v, r = some v ∧ Q v s') E s := by
    unfold tryCompare
    refine wpAny_bind (ifBound_ne X I hne (wpAny_call (codeAny_call_builtin ne_slot.plain PySem.F.cmpEntry_ne (PySem.W.check_slot PySem.F.cmpKind_ne PySem.F.cmpSplit_ne (I.type.andThen (PySem.W.looks_mroIn X hm)) (PySem.F.cmpArgs_ne _ _)
      (entry_ne X I hs hf hu1 (wpAny_mono h (fun v s' hv => ?_) fun _ _ e => e))))))
    obtain ⟨c, rfl, hq⟩ := hv
    first | exact ⟨c, rfl, wpAny_pure ⟨_, rfl, hq⟩⟩ | exact ⟨c, rfl, wpAny_pure (wpAny_pure ⟨_, rfl, hq⟩)⟩
  unfold richCompare
  simp only [oneThing_ref]
  refine wpAny_holding (wpAny_bind (wpAny_cRoomFor (Nat.lt_of_succ_lt hu) ?_))
  refine wpAny_bind (I.type.here (wpAny_bind (hb.here ?_)))
  split
  · rename_i q
    have e : PySem.W.subIn K tb (.ref C) = some false := by
      rcases Bool.or_eq_true_iff.mp hn with e | e
      · rw [beq_iff_eq.mp e] at q; simp at q
      · exact beq_iff_eq.mp e
    refine wpAny_bind ((PySem.W.looks_subIn X e).here ?_)
    simp only [Bool.false_eq_true, if_false]
    refine wpAny_bind (wpAny_mono one (fun r s' z => ?_) fun _ _ e => e)
    obtain ⟨v, rfl, hq⟩ := z
    exact wpAny_pure hq
  · refine wpAny_bind (wpAny_pure ?_)
    simp only [Bool.false_eq_true, if_false]
    refine wpAny_bind (wpAny_mono one (fun r s' z => ?_) fun _ _ e => e)
    obtain ⟨v, rfl, hq⟩ := z
    exact wpAny_pure hq
end
section
variable {X : Cx} {CX : CXT} {pins : List (Addr × Obj)} {σ : L2.St} {H : Hp} {s : Shared} {C g : Addr} {k : Nat} {sp : Sp} {E : XK}
structure OwnNe (K : PySem.W.Frag) (C : Addr) : Prop where
  ne : PySem.W.findIn K (.ref C) "__ne__" = some (some (.builtin "object.__ne__"))
  mr : PySem.W.mroIn K C (.type "object") = some true
def rNeP (P : Program) (w : World) (K : PySem.W.Frag) (C : Addr) (sp : Sp) (E : XK) : R2 := fun x y H Q => ∃ a dx fs t, x = .ref a ∧ H a = some (.ins C dx fs) ∧ TyN P w K H y t ∧ PySem.W.notFirst K C t = true ∧ sp [x, y] H (fun r H' => ∃ b, r = .bl b ∧ Q (.bl (!b)) H') E
theorem op_neO {P : Program} {w : World} (o : Own X.K C "__eq__" g) (n : OwnNe X.K C) (F : FnR X.prog X.w X.K X.mg X.base CX k g sp) (hr : Room (k + 1) X.A) (hx : Passes CX X E) (hP : X.prog = P := by rfl) (hw : X.w = w := by rfl) : OpR X (compareOp .NotEq) (rNeP P w X.K C sp E) := by
  subst hP hw
  intro pins s σ H x y v u Q I rx ry h
  obtain ⟨a, dx, fs, t, rfl, ha, ty, hn, q⟩ := h
  cases (show v = Value.ref a from rx)
  obtain ⟨ox, od, J, _⟩ := inst_of I ha
  obtain ⟨m, hF⟩ := I.fr
  obtain ⟨Pp, Z, p, _⟩ := kit_ofN I ry ty
  show wpAny _ X.A (richCompare .NotEq (.ref a) u) _ _ s
  refine cmp_ne (tb := t) (by have := hr.units; omega) hF I.ok.mod.kin J (Z.ty _ _ I.kIn p) hn o.at_ o.fn n.ne n.mr ?_
  refine wpAny_mono (run_own1 (us := [u]) (vs := [y]) F hr hx I (.cons ry .nil) q) (fun w s' z => ?_) fun _ _ x => x
  obtain ⟨z', H', I', rz, b, ez, qz⟩ := z
  subst ez
  cases rz
  exact ⟨b, rfl, .bl (!b), H', I', rfl, qz⟩
end
end OP
namespace DN
open PySem PySem.Spec PyProof.Rows L2 CM
section
variable {X : Cx}
/-- d[k] -/
def rIxN (P : Program) (w : World) : R2 := fun x y H Q => ∃ (d a : Addr) (es : List Ent) (k : NK) (v : V), x = .ref d ∧ y = .ref a ∧ Dct P w H d es ∧ KeyV H k (.ref a) ∧ k.depth ≤ 8 ∧ at_ es k = some v ∧ Q v H
theorem ix_dctN {P : Program} {w : World} (hu : X.A.units + 40 < cLine) (hP : X.prog = P := by rfl) (hw : X.w = w := by rfl) : IxR X (rIxN P w) := by
  subst hP hw
  intro value slice pins s σ H x y v u Q I rx ry h hs
  obtain ⟨d, a, es, k, r, rfl, rfl, D, hk, hd, e, q⟩ := h
  cases (show v = Value.ref d from rx)
  cases (show u = Value.ref a from ry)
  obtain ⟨zs, m, p, hl, hsm⟩ := D.keyed I.hok
  obtain ⟨q', e2, rr⟩ := at_some p e
  exact tail_any m.typeIs slot_dict_getitem.lookup (wpAny_getItem_heap (room_in hu) (key_is I hk hd) m e2 ⟨r, H, I.tok _, rr, q⟩) hs
end
end DN
set_option Elab.async false
set_option linter.all false
set_option maxRecDepth 100000
set_option maxHeartbeats 4000000
/-! dicts by nested keys as maps: what is read behind a store, which are equal -/
namespace GR
open PySem PySem.Spec PyProof.Rows L2 CM RZ DN
def ks (xs : List Ent) : List NK := xs.map (·.1)
theorem at_cons {x : Ent} {xs : List Ent} {k : NK} : at_ (x :: xs) k = if x.1 = k then some x.2.2 else at_ xs k := by
  unfold at_
  rw [List.find?_cons]
  by_cases h : x.1 = k
  · rw [decide_eq_true h, if_pos h]
    rfl
  · rw [decide_eq_false h, if_neg h]
theorem at_nil {k : NK} : at_ [] k = none := rfl
theorem at_isSome {xs : List Ent} {k : NK} : (at_ xs k).isSome = true ↔ k ∈ ks xs := by
  induction xs with
  | nil => simp [at_nil, ks]
  | cons x r ih =>
    rw [at_cons]
    show _ ↔ k ∈ x.1 :: ks r
    rw [List.mem_cons]
    by_cases h : x.1 = k
    · rw [if_pos h]
      exact ⟨fun _ => .inl h.symm, fun _ => rfl⟩
    · rw [if_neg h, ih]
      exact ⟨.inr, fun z => z.elim (fun e => absurd e.symm h) id⟩
theorem at_none_iff {xs : List Ent} {k : NK} : at_ xs k = none ↔ k ∉ ks xs := by
  rw [← at_isSome]
  cases at_ xs k <;> simp
theorem at_mem_nd {xs : List Ent} (nd : (ks xs).Nodup) {x : Ent} (h : x ∈ xs) : at_ xs x.1 = some x.2.2 := by
  induction xs with
  | nil => cases h
  | cons y r ih =>
    have nd2 : (y.1 :: ks r).Nodup := nd
    rw [List.nodup_cons] at nd2
    rw [at_cons]
    rcases List.mem_cons.mp h with rfl | h
    · rw [if_pos rfl]
    · by_cases e : y.1 = x.1
      · exact absurd (List.mem_map.mpr ⟨x, h, e.symm⟩) nd2.1
      · rw [if_neg e]
        exact ih nd2.2 h
theorem at_append {xs ys : List Ent} {k : NK} : at_ (xs ++ ys) k = (at_ xs k).or (at_ ys k) := by
  induction xs with
  | nil => rfl
  | cons x r ih =>
    rw [List.cons_append, at_cons, at_cons, ih]
    split <;> rfl
theorem at_put {xs : List Ent} {k j : NK} {a : Addr} {v : V} : at_ (putE xs k a v) j = if j = k then some v else at_ xs j := by
  unfold putE
  by_cases h : (at_ xs k).isSome = true
  · rw [if_pos h]
    have g : ∀ zs : List Ent, at_ (zs.map fun x => if x.1 = k then (x.1, x.2.1, v) else x) j = if j = k then (if k ∈ ks zs then some v else none) else at_ zs j := by
      intro zs
      induction zs with
      | nil => simp [at_nil, ks]
      | cons z r ih =>
        rw [List.map_cons, at_cons, ih, at_cons]
        show _ = if j = k then (if k ∈ z.1 :: ks r then some v else none) else _
        by_cases e : z.1 = k
        · rw [if_pos e]
          by_cases e2 : j = k
          · subst e2
            simp [e]
          · have e3 : ¬ z.1 = j := fun q => e2 (q.symm.trans e)
            simp [e2, e3]
        · rw [if_neg e]
          by_cases e2 : j = k
          · subst e2
            simp [e, Ne.symm e]
          · simp [e2]
    rw [g]
    split
    · rw [if_pos (at_isSome.mp h)]
    · rfl
  · rw [if_neg h, at_append, at_cons, at_nil]
    by_cases e : j = k
    · subst e
      have n : at_ xs j = none := by
        cases q : at_ xs j with
        | none => rfl
        | some u => rw [q] at h; exact absurd rfl h
      rw [n]
      simp
    · have e3 : ¬ k = j := fun q => e q.symm
      simp [e, e3]
theorem at_drop {xs : List Ent} {k j : NK} : at_ (dropE xs k) j = if j = k then none else at_ xs j := by
  unfold dropE
  induction xs with
  | nil => simp [at_nil]
  | cons x r ih =>
    rw [List.filter_cons]
    by_cases e : x.1 = k
    · rw [decide_eq_false (fun n => n e), if_neg Bool.false_ne_true, ih, at_cons]
      by_cases e2 : j = k
      · simp [e2]
      · have e3 : ¬ x.1 = j := fun q => e2 (q.symm.trans e)
        simp [e2, e3]
    · rw [decide_eq_true e, if_pos rfl, at_cons, ih, at_cons]
      by_cases e2 : j = k
      · subst e2
        simp [e]
      · simp [e2]
theorem nd_put {xs : List Ent} (nd : (ks xs).Nodup) (k : NK) (a : Addr) (v : V) : (ks (putE xs k a v)).Nodup := by
  unfold putE
  by_cases h : (at_ xs k).isSome = true
  · rw [if_pos h]
    have e : ks (xs.map fun x => if x.1 = k then (x.1, x.2.1, v) else x) = ks xs := by
      unfold ks
      rw [List.map_map]
      refine List.map_congr_left fun x _ => ?_
      show (if x.1 = k then (x.1, x.2.1, v) else x).1 = x.1
      split <;> rfl
    rw [e]
    exact nd
  · rw [if_neg h]
    unfold ks
    rw [List.map_append]
    refine List.nodup_append.mpr ⟨nd, by simp, fun x hx y hy e => ?_⟩
    have ey : y = k := by simpa using hy
    rw [e, ey] at hx
    exact h (at_isSome.mpr hx)
theorem nd_drop {xs : List Ent} (nd : (ks xs).Nodup) (k : NK) : (ks (dropE xs k)).Nodup := by
  unfold ks dropE
  exact List.Nodup.sublist (List.Sublist.map _ (List.filter_sublist ..)) nd
theorem len_sub {α : Type} [DecidableEq α] : ∀ {l m : List α}, l.Nodup → (∀ x ∈ l, x ∈ m) → l.length ≤ m.length
  | [], m, _, _ => Nat.zero_le _
  | a :: l, m, nd, h => by
    rw [List.nodup_cons] at nd
    have ha := h a (List.mem_cons_self ..)
    have := len_sub (l := l) (m := m.erase a) nd.2 fun x hx => (List.mem_erase_of_ne (fun e => nd.1 (by rw [← e]; exact hx))).mpr (h x (List.mem_cons_of_mem _ hx))
    rw [List.length_erase_of_mem ha] at this
    have hp : 0 < m.length := List.length_pos_of_mem ha
    rw [List.length_cons]
    omega
theorem ks_len {xs : List Ent} : (ks xs).length = xs.length := List.length_map ..
/-- no more entries than the other, if all keys stand there -/
theorem len_le {xs ys : List Ent} (nx : (ks xs).Nodup) (h : ∀ k, at_ ys k = none → at_ xs k = none) : xs.length ≤ ys.length := by
  rw [← ks_len, ← ks_len]
  refine len_sub nx fun k hk => ?_
  cases e : at_ ys k with
  | none =>
    have := h k e
    rw [at_none_iff] at this
    exact absurd hk this
  | some v => exact at_isSome.mp (by rw [e]; rfl)
theorem len_eq {xs ys : List Ent} (nx : (ks xs).Nodup) (ny : (ks ys).Nodup) (h : ∀ k, at_ xs k = at_ ys k) : xs.length = ys.length :=
  Nat.le_antisymm (len_le nx fun k e => by rw [h]; exact e) (len_le ny fun k e => by rw [← h]; exact e)
theorem eqv_fl {v : V} (h : fl4 v = true) : PyData.eqv (flD v) (flD v) = true := by
  cases v <;> first | (simp [flD, PyData.eqv]; done) | (cases h; done) | simp [fl4] at h
theorem eqE_true {xs ys : List Ent} (nx : (ks xs).Nodup) (ny : (ks ys).Nodup) (h : ∀ k, at_ xs k = at_ ys k) (f : ∀ x ∈ xs, fl4 x.2.2 = true) : eqE xs ys = true := by
  unfold eqE
  rw [Bool.and_eq_true, beq_iff_eq, List.all_eq_true]
  refine ⟨len_eq nx ny h, fun x hx => ?_⟩
  unfold hitE
  rw [← h, at_mem_nd nx hx]
  exact eqv_fl (f x hx)
theorem eqE_len {xs ys : List Ent} (h : xs.length ≠ ys.length) : eqE xs ys = false := by
  unfold eqE
  rw [show (xs.length == ys.length) = false from by simpa using h]
  rfl
theorem ks_kv {xs ys : List Ent} (h : xs.map kv = ys.map kv) : ks xs = ks ys := by
  have e : ∀ zs : List Ent, ks zs = (zs.map kv).map (·.1) := fun zs => by
    unfold ks
    rw [List.map_map]
    rfl
  rw [e, e, h]
theorem len_drop_lt {xs : List Ent} {k : NK} {u : V} (h : at_ xs k = some u) : (dropE xs k).length < xs.length := by
  obtain ⟨x, hx, e⟩ := List.mem_map.mp (at_isSome.mp (by rw [h]; rfl) : k ∈ ks xs)
  unfold dropE
  refine Nat.lt_of_le_of_ne (List.length_filter_le _ _) fun q => ?_
  have := (List.filter_eq_self.mp (List.Sublist.eq_of_length (List.filter_sublist ..) q)) x hx
  exact absurd e (of_decide_eq_true this)
theorem len_put_new {xs : List Ent} {k : NK} {a : Addr} {v : V} (h : at_ xs k = none) : (putE xs k a v).length = xs.length + 1 := by
  unfold putE
  rw [h, if_neg (by simp), List.length_append, List.length_singleton]
end GR
set_option Elab.async false
set_option linter.all false
set_option maxRecDepth 100000
set_option maxHeartbeats 4000000
/-! repr of data with dicts in it -/
namespace SY
open PySem PySem.Spec PyProof.Rows L2 CM
def keyD : L2.Key → PyData
  | .inl i => .int i
  | .inr z => .str z
mutual
inductive SayD (H : Hp) : V → PyData → Prop
  | non : SayD H .non .none
  | bl (b : Bool) : SayD H (.bl b) (.bool b)
  | int (i : Int) : SayD H (.int i) (.int i)
  | str (z : Str) : SayD H (.str z) (.str z)
  | lst {a : Addr} {xs : List V} {ds : List PyData} : H a = some (.lst xs) → SayAll H xs ds → SayD H (.ref a) (.list ds)
  | tup {a : Addr} {xs : List V} {ds : List PyData} : H a = some (.tup xs) → SayAll H xs ds → SayD H (.ref a) (.tuple ds)
  | dct {a : Addr} {kvs : List (L2.Key × V)} {ds : List (PyData × PyData)} : H a = some (.dK kvs) → SayKv H kvs ds → SayD H (.ref a) (.dict ds)
inductive SayAll (H : Hp) : List V → List PyData → Prop
  | nil : SayAll H [] []
  | cons {v : V} {vs : List V} {d : PyData} {ds : List PyData} : SayD H v d → SayAll H vs ds → SayAll H (v :: vs) (d :: ds)
inductive SayKv (H : Hp) : List (L2.Key × V) → List (PyData × PyData) → Prop
  | nil : SayKv H [] []
  | cons {k : L2.Key} {v : V} {r : List (L2.Key × V)} {d : PyData} {ds : List (PyData × PyData)} : SayD H v d → SayKv H r ds → SayKv H ((k, v) :: r) ((keyD k, d) :: ds)
end
/-- all that is told but the tables stays -/
def Stay (H H' : Hp) : Prop := ∀ b o, H b = some o → (∀ ps, o ≠ .tbl ps) → H' b = some o
mutual
theorem SayD.stay {H H' : Hp} (s : Stay H H') : ∀ {v : V} {d : PyData}, SayD H v d → SayD H' v d
  | _, _, .non => .non
  | _, _, .bl b => .bl b
  | _, _, .int i => .int i
  | _, _, .str z => .str z
  | _, _, .lst e h => .lst (s _ _ e fun _ z => by cases z) (h.stay s)
  | _, _, .tup e h => .tup (s _ _ e fun _ z => by cases z) (h.stay s)
  | _, _, .dct e h => .dct (s _ _ e fun _ z => by cases z) (h.stay s)
theorem SayAll.stay {H H' : Hp} (s : Stay H H') : ∀ {vs : List V} {ds : List PyData}, SayAll H vs ds → SayAll H' vs ds
  | _, _, .nil => .nil
  | _, _, .cons h t => .cons (h.stay s) (t.stay s)
theorem SayKv.stay {H H' : Hp} (s : Stay H H') : ∀ {vs : List (L2.Key × V)} {ds : List (PyData × PyData)}, SayKv H vs ds → SayKv H' vs ds
  | _, _, .nil => .nil
  | _, _, .cons h t => .cons (h.stay s) (t.stay s)
end
mutual
theorem SayD.reads {P : Program} {w : World} {H : Hp} {h : Heap} (ok : HOk P w H h) : ∀ {v : V} {d : PyData}, SayD H v d → ∀ {u : Value}, RelV v u → ∃ as, Reads h u d as ∧ ∀ x ∈ as, ∃ o, H x = some o
  | _, _, .non, u, r => by
    obtain rfl : u = Value.none := r
    exact ⟨_, .none, fun _ z => by cases z⟩
  | _, _, .bl b, u, r => by
    obtain rfl : u = Value.bool b := r
    exact ⟨_, .bool b, fun _ z => by cases z⟩
  | _, _, .int i, u, r => by
    obtain ⟨t, rfl⟩ := r
    exact ⟨_, .int i t, fun _ z => by cases z⟩
  | _, _, .str z, u, r => by
    obtain ⟨t, rfl⟩ := r
    exact ⟨_, .str z t, fun _ z => by cases z⟩
  | _, _, .lst (a := a) e hs, u, r => by
    obtain rfl : u = Value.ref a := r
    obtain ⟨_, its, n, rv, g⟩ := (show ObjOk P w H h a (.lst _) from ok a _ e)
    obtain ⟨as, ra, al⟩ := hs.reads ok rv
    refine ⟨_, .list g rfl rfl (by simpa using ra), fun x hx => ?_⟩
    rcases List.mem_cons.mp hx with rfl | hx
    · exact ⟨_, e⟩
    · exact al x hx
  | _, _, .tup (a := a) e hs, u, r => by
    obtain rfl : u = Value.ref a := r
    obtain ⟨_, its, rv, o, g, hc, n, hd⟩ := (show ObjOk P w H h a (.tup _) from ok a _ e)
    obtain ⟨as, ra, al⟩ := hs.reads ok rv
    exact ⟨_, .tuple g hc hd (by simpa using ra), al⟩
  | _, _, .dct (a := a) e hs, u, r => by
    obtain rfl : u = Value.ref a := r
    obtain ⟨_, _, vs, kv, o, es, ep, g, hc, hd1, _, he, _⟩ := (show ObjOk P w H h a (.dK _) from ok a _ e)
    obtain ⟨as, bs, ra, rb, eas, al⟩ := hs.reads ok kv he
    refine ⟨_, .dict g hc.1 hd1 ra rb, fun x hx => ?_⟩
    rw [eas] at hx
    rcases List.mem_cons.mp hx with rfl | hx
    · exact ⟨_, e⟩
    · exact al x (by simpa using hx)
theorem SayAll.reads {P : Program} {w : World} {H : Hp} {h : Heap} (ok : HOk P w H h) : ∀ {vs : List V} {ds : List PyData}, SayAll H vs ds → ∀ {us : List Value}, Vals vs us → ∃ as, ReadsAll h us ds as ∧ ∀ x ∈ as, ∃ o, H x = some o
  | _, _, .nil, _, .nil => ⟨_, .nil, fun _ z => by cases z⟩
  | _, _, .cons h1 t1, _, .cons r1 r2 => by
    obtain ⟨a1, e1, l1⟩ := h1.reads ok r1
    obtain ⟨a2, e2, l2⟩ := t1.reads ok r2
    exact ⟨_, .cons e1 e2, fun x hx => (List.mem_append.mp hx).elim (l1 x) (l2 x)⟩
theorem SayKv.reads {P : Program} {w : World} {H : Hp} {h : Heap} (ok : HOk P w H h) : ∀ {kvs : List (L2.Key × V)} {ds : List (PyData × PyData)}, SayKv H kvs ds → ∀ {vs : List (L2.Key × Value)} {es : List DictEntry}, KV kvs vs → Pairs (mixKind P w) es vs →
    ∃ as bs, ReadsAll h (es.map (·.key)) (ds.map (·.1)) as ∧ ReadsAll h (es.map (·.val)) (ds.map (·.2)) bs ∧ as = [] ∧ ∀ x ∈ bs, ∃ o, H x = some o
  | _, _, .nil, _, _, .nil, .nil => ⟨_, _, .nil, .nil, rfl, fun _ z => by cases z⟩
  | _, _, .cons (k := kk) h1 t1, _, _, .cons ⟨e1, r1⟩ r2, .cons (e := e) k1 k2 k3 => by
    obtain ⟨as, bs, ra, rb, ea, al⟩ := t1.reads ok r2 k3
    obtain ⟨b1, q1, l1⟩ := h1.reads ok r1
    subst ea
    refine ⟨[] ++ [], b1 ++ bs, ?_, ?_, rfl, fun x hx => (List.mem_append.mp hx).elim (l1 x) (al x)⟩
    · refine .cons ?_ ra
      rcases keyIs_shape k1 with ⟨i, t, ek, ev⟩ | ⟨x, t, ek, ev⟩
      · show Reads h e.key (keyD _) []
        rw [ev, show kk = Sum.inl i from e1.trans ek]
        exact .int i t
      · show Reads h e.key (keyD _) []
        rw [ev, show kk = Sum.inr x from e1.trans ek]
        exact .str x t
    · refine .cons ?_ rb
      show Reads h e.val _ b1
      rw [k2]
      exact q1
end
section
variable {X : Cx}
theorem sys_none {pins : List (Addr × Obj)} {σ : L2.St} {H : Hp} {s : Shared} (hs : (X.K.lookup sysModules).isSome = true) (I : Inv X pins σ H s) : H sysModules = none := by
  obtain ⟨o, ho⟩ := Option.isSome_iff_exists.mp hs
  exact (I.bs _ _ (I.mod.kin _ _ ho)).2
/-- repr(x) -/
def rReprE : List V → Hp → VK → Prop := fun xs H Q => ∃ v d, xs = [v] ∧ SayD H v d ∧ d.showable = true ∧ d.depth ≤ 80 ∧ d.shown.length ≤ sizeLine ∧ Q (.str d.shown) H
theorem call_reprE (hy : (X.K.lookup sysModules).isSome = true) (gd : X.A.guards = some []) (hu : X.A.units + 90 < cLine) : CallR X (.builtin "repr") rReprE := by
  intro pins s σ H xs us Q I r h
  obtain ⟨v, d, rfl, hs, hz, hd, hl, q⟩ := h
  obtain ⟨u, rfl, ru⟩ := r.one
  obtain ⟨as, ra, al⟩ := hs.reads I.hok ru
  have hsm : d.hasDict = true → sysModules ∉ as := fun _ m => by
    obtain ⟨o, ho⟩ := al _ m
    rw [sys_none hy I] at ho
    cases ho
  have fin : ∀ h' uu tk, (∀ b o, s.heap.get? b = some o → h'.get? b = some o) → EP X pins σ Q (.str d.shown uu) { s with heap := h', toks := tk } := fun h' uu tk k => ⟨.str d.shown, H, I.kept k, ⟨_, rfl⟩, q⟩
  cases ra with
  | none =>
    simp only [PyData.shown] at fin
    exact PySem.P.repr_of_none (fin s.heap _ _ fun _ _ e => e)
  | bool b =>
    simp only [PyData.shown] at fin
    exact PySem.P.repr_of_bool (fin s.heap _ _ fun _ _ e => e)
  | int i t =>
    simp only [PyData.shown] at fin
    exact PySem.P.repr_of_int (by simpa [PyData.showable] using hz) (fin s.heap _ _ fun _ _ e => e)
  | str x t =>
    simp only [PyData.shown] at fin
    exact PySem.P.repr_of_str (fin s.heap _ _ fun _ _ e => e) (by simpa only [PyData.shown] using hl)
  | list h1 h2 h3 h4 => exact repr_of_reads' (.list h1 h2 h3 h4) hz hsm gd (by omega) (fun _ _ e => e) (fun h' uu tk k => fin h' uu tk k) hl
  | tuple h1 h2 h3 h4 => exact repr_of_reads' (.tuple h1 h2 h3 h4) hz hsm gd (by omega) (fun _ _ e => e) (fun h' uu tk k => fin h' uu tk k) hl
  | dict h1 h2 h3 h4 h5 => exact repr_of_reads' (.dict h1 h2 h3 h4 h5) hz hsm gd (by omega) (fun _ _ e => e) (fun h' uu tk k => fin h' uu tk k) hl
end
section
variable {P : Program} {w : World} {K : PySem.W.Frag} {mg : Str → Option Value} {base : Heap} {CX : CXT} {k : Nat} {fd : FuncData} {ps : List Str} {sp : Sp} {x qual : Str} {params : Arguments} {body : List Stmt} {scope : Scope} {dvs : List V} {kws : List (Str × V)}
/-- a def whose code object is told, called where no repr runs -/
theorem okCG {N : List Str} {p : He.Defn} (F : FunD K x qual params body scope dvs kws (He.fAd K p) fd) (S : FnScope N ps scope) (len : ∀ vs H Q E, sp vs H Q E → vs.length = ps.length)
    (hbody : ∀ (A : Around) (outer : List Env) (s : Shared) (H : Hp) (vs : List V) (Q : VK) (E : XK), Room k (A.deeper (envOfC qual scope s.heap.objs.size (He.fAd K p) (.ref (He.codeOf K p)))) → A.guards = some [] → sp vs H Q E →
      ∃ t, PSs (cxOf CX P w K mg base N qual scope (He.fAd K p) (.ref (He.codeOf K p)) A outer s H E) body t ∧ t { nx := fun _ H' => Q .non H', rt := Q } (L2.start N vs) H) : GD.FnG P w K mg base CX (k + 1) (He.fAd K p) fd ps sp := by
  obtain ⟨oc, od, dV, kV, doc, pm, an, cdv, ct, osl, rfl, lk, hcd, _, _⟩ := F.ex
  obtain ⟨c, rfl⟩ := He.codeIn_ref hcd
  have e : He.codeOf K p = c := He.codeOf_eq lk rfl
  rw [e] at hbody
  refine ⟨len, fun A outer s0 H args us vs Q E room gd e0 bt rv asked => ?_⟩
  have old : ∀ b o, base.get? b = some o → s0.heap.get? b = some o := fun b o e => (e0.bs b o e).1
  refine codeAny_call_function room.depth (e0.mod.kin.keeps old _ _ lk) rfl S.co S.gen rfl (PySem.W.codeRec_of (e0.mod.kin.keeps old) hcd) (bt _ _ _ _ (wpAny_newFunctionEnv_cells S.kind (fun y hy => ?_) fun env he t x => ?_))
  · exact (S.par y.1 (List.of_mem_zip (show (y.1, y.2) ∈ ps.zip us from hy)).1).elim .inl fun q => .inr ⟨q, PySem.W.cellsFrom_some _ _ _ (.inl q)⟩
  · subst he
    obtain ⟨tt, ht, rd⟩ := hbody A outer s0 H vs Q E (room.deeper _) gd asked
    have J : Inv (cxOf CX P w K mg base N qual scope (He.fAd K p) (.ref c) A outer s0 H E) [] (L2.start N vs) H t := inv_start S room.hd e0 (len _ _ _ _ asked) rv x
    refine ⟨(e0.mod.nolimit.keeps old).keeps x.toInCall.keep, codeAny_func (wpAny_mono (ht.run [] t (L2.start N vs) H _ J rd) (fun fl t2 got => ?_) fun _ _ got => got)⟩
    cases fl with
    | ret u => obtain ⟨v, σ2, H2, J2, r2, q2⟩ := got; exact ⟨v, H2, J2.os, J2.bare, J2.base, J2.hok, r2, q2⟩
    | next => obtain ⟨σ2, H2, J2, q2⟩ := got; exact ⟨V.non, H2, J2.os, J2.bare, J2.base, J2.hok, rfl, q2⟩
    | brk =>
      obtain ⟨_, _, _, z⟩ := got
      exact False.elim z
    | cont =>
      obtain ⟨_, _, _, z⟩ := got
      exact False.elim z
end
end SY
set_option Elab.async false
set_option linter.all false
set_option maxRecDepth 100000
set_option maxHeartbeats 4000000
/-! readings that do not name the context: for use inside of a lambda -/
namespace CPL
open PySem PySem.Spec PyProof.Rows L2 CM
def tCallP (C : Addr) (sp : Sp) (E : XK) (tf : TE) (t : TA) : TE := fun σ H Q => tf σ H fun y H1 => ∃ a, y = V.ref a ∧ t σ H1 fun vs H2 => ((∃ dx vs, SlX.Slt H2 a C dx vs) ∨ ∃ dx fs, H2 a = some (.ins C dx fs)) ∧ sp (V.ref a :: vs) H2 Q E
section
variable {X : Cx} {CX : CXT} {k : Nat} {C g : Addr} {sp : Sp} {E : XK} {fe e : Expr} {es : List Expr} {pos : Pos} {tf : TE} {t : TA}
/-- o(..), o an instance of a class with __call__ -/
theorem pe_callP (hf : PE X fe tf) (c : StX.CallO X.K C g) (F : FnR X.prog X.w X.K X.mg X.base CX k g sp) (hr : Room k X.A) (hx : Passes CX X E) (ha : PA X (e :: es) t)
    (ht : eval (.Call fe (e :: es) [] pos) X.env = (do callWith pos (← eval fe X.env) [] (backTo pos (starEach (e :: es) X.env)) (backToKw pos (keywordEach [] X.env))) := by rfl)
    (he : starEach (e :: es) X.env = (false, eval e X.env) :: starEach es X.env := by rfl) (hpl : (backTo pos (starEach es X.env)).any (·.1) = false := by rfl) : PE X (.Call fe (e :: es) [] pos) (tCallP C sp E tf t) :=
  StX.pe_callO hf c F hr hx ha ht he hpl
end
end CPL
set_option Elab.async false
set_option linter.all false
set_option maxRecDepth 100000
set_option maxHeartbeats 4000000
/-! values that are called: functions made in a def, held in attributes, called from anywhere -/
namespace CLO
open PySem PySem.Spec PyProof.Rows L2 CM
/-- at f stands a function (true), or an instance that may be called -/
def Callee (h : Heap) (f : Addr) : Bool → Prop
  | true => PySem.W.FnAt f h
  | false => ∃ C ox od, PySem.W.InstAt h f ox C od ∧ ox.data = .plain
/-- what is promised of f(vs) in the heap H -/
def CallsTo (P : Program) (w : World) (K : PySem.W.Frag) (mg : Str → Option Value) (base : Heap) (CX : CXT) (n : Nat) (b : Bool) (f : Addr) (vs : List V) (H : Hp) (Q : VK) (E : XK) : Prop :=
  ∀ (A : Around) (outer : List Env) (s : Shared) (us : List Value), Room n A → Env0 P w K mg base A outer s H → Vals vs us →
    Callee s.heap f b ∧ wpAny (model P w) A (call (.ref f) us) (fun u s' => CE outer P w H s Q u s') (fun e s' => CX outer H s E e s') s
/-- the object at f is known to be a function -/
def Fnk (H : Hp) (f : Addr) : Prop := ∃ φ, H f = some (.ext φ) ∧ ∀ h, φ h → PySem.W.FnAt f h
theorem Fnk.at_ {P : Program} {w : World} {H : Hp} {h : Heap} {f : Addr} (hok : HOk P w H h) (k : Fnk H f) : PySem.W.FnAt f h := by
  obtain ⟨φ, e, q⟩ := k
  exact q h (hok f _ e).1
section
variable {P : Program} {w : World} {K : PySem.W.Frag} {mg : Str → Option Value} {base : Heap} {CX : CXT} {n m : Nat} {b : Bool} {f : Addr} {vs : List V} {H : Hp} {Q : VK} {E : XK}
theorem CallsTo.mono (c : CallsTo P w K mg base CX n b f vs H Q E) (h : n ≤ m) : CallsTo P w K mg base CX m b f vs H Q E := fun A outer s us hr => c A outer s us (hr.mono h)
/-- an instance whose class has __call__ -/
theorem own_calls {C dx g : Addr} {fs : List (Str × V)} {sp : Sp} (c : StX.CallO K C g) (F : FnR P w K mg base CX n g sp) (e : H f = some (.ins C dx fs)) (q : sp (.ref f :: vs) H Q E) : CallsTo P w K mg base CX n false f vs H Q E := by
  intro A outer s us hr e0 r
  obtain ⟨mA, O, _⟩ := ins_get e0.hok e
  obtain ⟨od, J, _⟩ := O.look
  have KX : K.In s.heap := e0.mod.kin.keeps fun b o z => (e0.bs b o z).1
  refine ⟨⟨C, _, _, J, rfl⟩, wpAny_call (PySem.W.kco_code KX J rfl c.at_ c.fn c.fi ?_)⟩
  refine codeAny_mono (F A outer s H (.ref f :: us) (.ref f :: vs) Q E hr e0 (.cons rfl r) q) fun z s' hq => ?_
  cases z with
  | error e => exact hq
  | ok fl => cases fl with
    | ret u => exact hq
    | next => exact hq
    | brk => exact hq
    | cont => exact hq
end
section
variable {X : Cx} {pins : List (Addr × Obj)} {σ : L2.St} {H : Hp} {s : Shared} {A : Around} {Ex : Value → Shared → Prop} {a C dx : Addr} {fs : List (Str × V)} {CX : CXT} {E : XK}
theorem run_calls {n : Nat} {b : Bool} {f : Addr} {us : List Value} {vs : List V} {Q : VK} (c : CallsTo X.prog X.w X.K X.mg X.base CX n b f vs H Q E) (hr : Room n X.A) (hx : Passes CX X E) (I : Inv X pins σ H s) (r : Vals vs us) :
    Callee s.heap f b ∧ wpAny (model X.prog X.w) X.A (call (.ref f) us) (EP X pins σ Q) X.xe s := by
  obtain ⟨h1, h2⟩ := c X.A X.stack s us hr I.env0 r
  exact ⟨h1, wpAny_mono h2 (fun u s' q => I.after q) fun e s' q => hx pins σ H s e s' I q⟩
theorem getfn_ok {m : Str} {f : Addr} {pl : Sem Bool} {Q : Value × List Value → Shared → Prop} (I : Inv X pins σ H s) (e : H a = some (.ins C dx fs)) (c : Cls X.K C) (n : NoAttr X.K C m) (l : fs.lookup m = some (.ref f))
    (h : ∀ s', Inv X pins σ H s' → Q (.ref f, []) s') : wpAny (model X.prog X.w) A (getMethod (.ref a) m pl) Q Ex s := by
  obtain ⟨mA, O, _⟩ := ins_get I.hok e
  obtain ⟨od, J, _⟩ := O.look
  refine PySem.W.method_usual (r := none) I.kIn J (PySem.W.plainGet_of (c.get m)).1 (PySem.W.plainGet_of (c.get m)).2 n rfl ?_
  refine getattr_ok I e c n l fun u s' I' ru => ?_
  obtain rfl : u = Value.ref f := ru
  exact h s' I'
theorem with_callee {b : Bool} {f : Addr} {pos : Pos} {env : Env} {e : Expr} {rest : List Expr} {Q : Value → Shared → Prop} {M : Model} (h0 : b = true → PySem.W.FnAt f s.heap)
    (h : wpAny M A (spliced (backTo pos (starEach (e :: rest) env))) (fun vs s₁ => Callee s₁.heap f b ∧ wpAny M A (call (.ref f) vs) Q Ex s₁) Ex s)
    (he : starEach (e :: rest) env = (false, eval e env) :: starEach rest env) (hpl : (backTo pos (starEach rest env)).any (·.1) = false) : wpAny M A (callWith pos (.ref f) [] (backTo pos (starEach (e :: rest) env)) []) Q Ex s := by
  cases b with
  | true => exact PySem.W.callWith_F (first := []) (h0 rfl) h he hpl
  | false => exact StX.callO_with h he hpl
end
/-- o.f(..), f an attribute of o that holds something to be called -/
def tFCall (P : Program) (w : World) (K : PySem.W.Frag) (mg : Str → Option Value) (base : Heap) (CX : CXT) (n : Nat) (m : Str) (E : XK) (ta : TE) (t : TA) : TE := fun σ H Q => ta σ H fun x H1 => ∃ a C dx fs f b, x = .ref a ∧ H1 a = some (.ins C dx fs) ∧ Cls K C ∧ NoAttr K C m ∧ fs.lookup m = some (.ref f) ∧
  (b = true → Fnk H1 f) ∧ t σ H1 fun vs H2 => CallsTo P w K mg base CX n b f vs H2 Q E
/-- g(..), g an expression that gives something to be called -/
def tVCall (P : Program) (w : World) (K : PySem.W.Frag) (mg : Str → Option Value) (base : Heap) (CX : CXT) (n : Nat) (E : XK) (tf : TE) (t : TA) : TE := fun σ H Q => tf σ H fun x H1 => ∃ f b, x = .ref f ∧ (b = true → Fnk H1 f) ∧ t σ H1 fun vs H2 => CallsTo P w K mg base CX n b f vs H2 Q E
section
variable {X : Cx} {P : Program} {w : World} {K : PySem.W.Frag} {mg : Str → Option Value} {base : Heap} {CX : CXT} {n : Nat} {E : XK} {o e fe : Expr} {es : List Expr} {m : Str} {pos apos : Pos} {ta tf : TE} {t : TA} {pl : Sem Bool}
theorem pe_fcall (he : PE X o ta) (hr : Room n X.A) (hx : Passes CX X E) (ha : PA X (e :: es) t)
    (hst : starEach (e :: es) X.env = (false, eval e X.env) :: starEach es X.env := by rfl) (hpl : (backTo pos (starEach es X.env)).any (·.1) = false := by rfl)
    (ht : eval (.Call (.Attribute o m apos) (e :: es) [] pos) X.env = (do
      let ov ← eval o X.env
      standAt apos.atName
      let (f, first) ← holding [ov] (getMethod ov m pl)
      callWith pos f first (backTo pos (starEach (e :: es) X.env)) (backToKw pos (keywordEach [] X.env))) := by rfl)
    (h1 : X.prog = P := by rfl) (h2 : X.w = w := by rfl) (h3 : X.K = K := by rfl) (h4 : X.mg = mg := by rfl) (h5 : X.base = base := by rfl) :
    PE X (.Call (.Attribute o m apos) (e :: es) [] pos) (tFCall P w K mg base CX n m E ta t) := by
  subst h1 h2 h3 h4 h5
  refine ⟨fun pins s σ H Q I h => ?_⟩
  refine PySem.W.methodCall_KW (pl := pl) (thn (he.run pins s σ H _ I h) fun u s1 ⟨x, H1, I1, rx, a, C, dx, fs, f, b, ex, ea, c, n, l, hb, q⟩ => ?_) ht
  subst ex
  obtain rfl : u = Value.ref a := rx
  refine getfn_ok I1 ea c n l fun s1' I1' => ?_
  refine with_callee (b := b) (fun z => (hb z).at_ I1'.hok) (thn (ha.run pos pins s1' σ H1 _ I1' q) fun us s2 ⟨vs, H2, I2, r, q2⟩ => ?_) hst hpl
  exact run_calls q2 hr hx I2 r
theorem pe_vcall (hf : PE X fe tf) (hr : Room n X.A) (hx : Passes CX X E) (ha : PA X (e :: es) t)
    (ht : eval (.Call fe (e :: es) [] pos) X.env = (do callWith pos (← eval fe X.env) [] (backTo pos (starEach (e :: es) X.env)) (backToKw pos (keywordEach [] X.env))) := by rfl)
    (hst : starEach (e :: es) X.env = (false, eval e X.env) :: starEach es X.env := by rfl) (hpl : (backTo pos (starEach es X.env)).any (·.1) = false := by rfl)
    (h1 : X.prog = P := by rfl) (h2 : X.w = w := by rfl) (h3 : X.K = K := by rfl) (h4 : X.mg = mg := by rfl) (h5 : X.base = base := by rfl) :
    PE X (.Call fe (e :: es) [] pos) (tVCall P w K mg base CX n E tf t) := by
  subst h1 h2 h3 h4 h5
  refine ⟨fun pins s σ H Q I h => ?_⟩
  refine Call_ (thn (hf.run pins s σ H _ I h) fun u s1 ⟨x, H1, I1, rx, f, b, ex, hb, q⟩ => ?_) ht
  subst ex
  obtain rfl : u = Value.ref f := rx
  refine with_callee (b := b) (fun z => (hb z).at_ I1.hok) (thn (ha.run pos pins s1 σ H1 _ I1 q) fun us s2 ⟨vs, H2, I2, r, q2⟩ => ?_) hst hpl
  exact run_calls q2 hr hx I2 r
end
end CLO
set_option Elab.async false
set_option linter.all false
set_option maxRecDepth 100000
set_option maxHeartbeats 4000000
/-! functions made in a def and kept: lambdas as values, what their cells hold behind the def's end -/
namespace CLO
open PySem PySem.Spec PyProof.Rows L2 CM LamX NdefX
/-! ### a method of an instance, whatever its class -/
def RunsTo (P : Program) (w : World) (K : PySem.W.Frag) (mg : Str → Option Value) (base : Heap) (CX : CXT) (n : Nat) (f : Addr) (vs : List V) (H : Hp) (Q : VK) (E : XK) : Prop := ∃ (sp : Sp) (Q0 : VK), FnR P w K mg base CX n f sp ∧ sp vs H Q0 E ∧ ∀ v H', Q0 v H' → Q v H'
section
variable {P : Program} {w : World} {K : PySem.W.Frag} {mg : Str → Option Value} {base : Heap} {CX : CXT} {n m : Nat} {f : Addr} {vs : List V} {H : Hp} {Q Q' : VK} {E : XK} {sp : Sp}
theorem RunsTo.mk (F : FnR P w K mg base CX n f sp) (q : sp vs H Q E) : RunsTo P w K mg base CX n f vs H Q E := ⟨sp, Q, F, q, fun _ _ z => z⟩
theorem RunsTo.imp (c : RunsTo P w K mg base CX n f vs H Q E) (h : ∀ v H', Q v H' → Q' v H') : RunsTo P w K mg base CX n f vs H Q' E := let ⟨sp, Q0, F, q, hQ⟩ := c; ⟨sp, Q0, F, q, fun v H' z => h v H' (hQ v H' z)⟩
theorem RunsTo.mono (c : RunsTo P w K mg base CX n f vs H Q E) (h : n ≤ m) : RunsTo P w K mg base CX m f vs H Q E := let ⟨sp, Q0, F, q, hQ⟩ := c; ⟨sp, Q0, F.mono h, q, hQ⟩
theorem CallsTo.imp {b : Bool} (c : CallsTo P w K mg base CX n b f vs H Q E) (h : ∀ v H', Q v H' → Q' v H') : CallsTo P w K mg base CX n b f vs H Q' E := fun A outer s us hr e0 r =>
  let ⟨h1, h2⟩ := c A outer s us hr e0 r
  ⟨h1, wpAny_mono h2 (fun u s' ⟨v, H', o1, o2, o3, o4, o5, q⟩ => ⟨v, H', o1, o2, o3, o4, o5, h v H' q⟩) fun _ _ z => z⟩
end
def tMethV (P : Program) (w : World) (K : PySem.W.Frag) (mg : Str → Option Value) (base : Heap) (CX : CXT) (n : Nat) (m : Str) (E : XK) (ta : TE) (t : TA) : TE := fun σ H Q => ta σ H fun x H1 => ∃ a C dx fs f, x = .ref a ∧ H1 a = some (.ins C dx fs) ∧ fs.lookup m = none ∧ Cls K C ∧ Meth K C m f ∧
  t σ H1 fun vs H2 => RunsTo P w K mg base CX n f (.ref a :: vs) H2 Q E
section
variable {X : Cx} {P : Program} {w : World} {K : PySem.W.Frag} {mg : Str → Option Value} {base : Heap} {CX : CXT} {n : Nat} {E : XK} {o e fe : Expr} {es : List Expr} {m : Str} {pos apos : Pos} {ta tf : TE} {t : TA} {pl : Sem Bool}
theorem run_runs {pins : List (Addr × Obj)} {σ : L2.St} {H : Hp} {s : Shared} {Q : VK} {f : Addr} {us : List Value} {vs : List V} (c : RunsTo X.prog X.w X.K X.mg X.base CX n f vs H Q E) (hr : Room n X.A) (hx : Passes CX X E) (I : Inv X pins σ H s) (r : Vals vs us) :
    wpAny (model X.prog X.w) X.A (call (.ref f) us) (EP X pins σ Q) X.xe s := by
  obtain ⟨sp, Q0, F, q, hQ⟩ := c
  exact wpAny_mono (wpAny_call (run_fnR F hr hx I r q)) (fun _ _ ⟨v, H', J, rv, z⟩ => ⟨v, H', J, rv, hQ v H' z⟩) fun _ _ z => z
theorem pe_methV (he : PE X o ta) (hr : Room n X.A) (hx : Passes CX X E) (ha : PA X (e :: es) t)
    (hst : starEach (e :: es) X.env = (false, eval e X.env) :: starEach es X.env := by rfl) (hpl : (backTo pos (starEach es X.env)).any (·.1) = false := by rfl)
    (ht : eval (.Call (.Attribute o m apos) (e :: es) [] pos) X.env = (do
      let ov ← eval o X.env
      standAt apos.atName
      let (f, first) ← holding [ov] (getMethod ov m pl)
      callWith pos f first (backTo pos (starEach (e :: es) X.env)) (backToKw pos (keywordEach [] X.env))) := by rfl)
    (h1 : X.prog = P := by rfl) (h2 : X.w = w := by rfl) (h3 : X.K = K := by rfl) (h4 : X.mg = mg := by rfl) (h5 : X.base = base := by rfl) :
    PE X (.Call (.Attribute o m apos) (e :: es) [] pos) (tMethV P w K mg base CX n m E ta t) := by
  subst h1 h2 h3 h4 h5
  refine ⟨fun pins s σ H Q I h => ?_⟩
  refine PySem.W.methodCall_KW (pl := pl) (thn (he.run pins s σ H _ I h) fun u s1 ⟨x, H1, I1, rx, a, C, dx, fs, f, ex, ea, l, c, hm, q⟩ => ?_) ht
  subst ex
  obtain rfl : u = Value.ref a := rx
  refine getmeth_ok I1 ea c hm l ?_
  refine PySem.W.callWith_K (first := [.ref a]) (h₀ := X.base) I.ok.mod.kin hm.kp (thn (ha.run pos pins s1 σ H1 _ I1 q) fun us s2 ⟨vs, H2, I2, r, q2⟩ => ⟨I2.kIn, ?_⟩) hst hpl
  exact run_runs (us := .ref a :: us) (vs := .ref a :: vs) q2 hr hx I2 (.cons rfl r)
end
/-! ### a lambda as a value -/
/-- the object at f is the lambda: F tells all but its body -/
def LamO (f : Addr) (F : NF) (b : Expr) : HO := .ext fun h => ∃ pm ctv : Value, h.get? f = some (PySem.W.kla_obj "<lambda>" F.qual F.params b F.scope F.cl pm F.c ctv)
theorem lamO_ne {f : Addr} {F : NF} {b : Expr} (ps : Array Value) : LamO f F b ≠ .tbl ps := fun z => by
  unfold LamO at z
  cases z
theorem lamO_fnk {H : Hp} {f : Addr} {F : NF} {b : Expr} (e : H f = some (LamO f F b)) : Fnk H f := ⟨_, e, fun h ⟨pm, ctv, z⟩ => ⟨_, _, _, _, z⟩⟩
theorem fnO_fnk {H : Hp} {f : Addr} {F : NF} (e : H f = some (FnO f F)) : Fnk H f := ⟨_, e, fun h ⟨od, sl, d, p, t, z⟩ => ⟨_, od, _, sl, z⟩⟩
abbrev lamF (X : Cx) (params : Arguments) (scope : Scope) (c' : Addr) : NF := ⟨"<lambda>", X.env.qual ++ "<lambda>", params, [], scope, cloFrom X.env.cells scope.names [], c'⟩
section
variable {X : Cx} {pins : List (Addr × Obj)} {σ : L2.St} {H : Hp} {s : Shared}
theorem inv_lam {F : NF} {b : Expr} {t' : Nat} {pm ctv : Value} (I : Inv X pins σ H s) :
    Inv X pins σ (upd H s.heap.objs.size (LamO s.heap.objs.size F b)) { s with heap := s.heap.push (PySem.W.kla_obj "<lambda>" F.qual F.params b F.scope F.cl pm F.c ctv), toks := t' } := by
  refine I.laid (a := s.heap.objs.size) (fun b u e => Heap.get?_push_of_some _ e) (Nat.le_refl _) ?_
  have e : (s.heap.push (PySem.W.kla_obj "<lambda>" F.qual F.params b F.scope F.cl pm F.c ctv)).get? s.heap.objs.size = some (PySem.W.kla_obj "<lambda>" F.qual F.params b F.scope F.cl pm F.c ctv) := Heap.get?_push_size _ rfl
  exact ⟨⟨pm, ctv, e⟩, ⟨_, e⟩, fun h1 h2 ⟨p, t, z⟩ st => ⟨p, t, st _ z⟩⟩
theorem lam_make3 {T : List (Addr × Str)} {c P : Addr} {params : Arguments} {body : Expr} {scope : Scope} {pos : Pos} {E Q : Value → Shared → Prop} (I : Inv X pins σ H s) (TB : TabB X.base X.mg c P) (hcode : X.env.code = .ref c)
    (hm : (P, X.env.qual ++ "<lambda>") ∈ T) (hu : ∀ p ∈ T, p.1 = P → p.2 = X.env.qual ++ "<lambda>") (hT : Tabs T H) (hdef : defaultsOf params X.env = ([], [])) (hfree : ∀ y ∈ scope.names, y.2 = .free → ∃ c, X.env.cells.lookup y.1 = some c)
    (h : ∀ (f c' : Addr) (H1 : Hp) (s' : Shared), Inv X pins σ H1 s' → ExtN H H1 → (∀ b, H1 b = Option.none → H b = Option.none) → Tabs T H1 → H f = Option.none → H1 f = some (LamO f (lamF X params scope c') body) → H1 c' = some (CodeO c' (X.env.qual ++ "<lambda>")) → Q (.ref f) s') :
    wpAny (model X.prog X.w) X.A (eval (.Lambda params body scope pos) X.env) Q E s := by
  obtain ⟨ps, hP, ht, ha⟩ := hT _ hm
  refine PySem.W.kla_eval hdef ?_
  have bP : s.heap.BuiltinsAt X.mg P := TB.bm.keeps I.bk
  have hP' : s.heap.get? P = some { cls := .none, data := .fields ps } := I.hok P _ hP
  cases hc : codeAmong pos ps.toList with
  | none =>
    refine PySem.W.kla_makeFunction (mg := X.mg) (c := c) (P := P) (ps := ps) (closure_ok hfree) I.ok.glob (I.mod.glob.keeps I.bk) hcode
      (TB.code.keeps I.bk) hP' ht hc TB.gP bP fun c' ctv h' tk hx hge hlt hrec htb => ?_
    obtain ⟨_, oc, vs, t, e2, hoc, hd, hv⟩ := hrec
    cases e2
    have nC : H c' = Option.none := I.hok.fresh hge
    have I1 := inv_table (t' := tk) (more := #[rawInt pos.line, rawInt pos.col, .ref c']) (h' := h') I hP hx htb hge ⟨oc, vs, t, hoc, hd, hv⟩
    have hE : ExtN H (upd (upd H P (.tbl (ps ++ #[rawInt pos.line, rawInt pos.col, .ref c']))) c' (CodeO c' (X.env.qual ++ "<lambda>"))) := fun b o e nt => by
      have bP : b ≠ P := fun z => nt ps (Option.some.inj (e.symm.trans (by rw [z]; exact hP)))
      rw [upd_ne (ne_of_none e nC), upd_ne bP]
      exact e
    have eL : (ps ++ #[rawInt pos.line, rawInt pos.col, .ref c']).toList = ps.toList ++ [rawInt pos.line, rawInt pos.col, .ref c'] := by simp
    have T1 : Tabs T (upd (upd H P (.tbl (ps ++ #[rawInt pos.line, rawInt pos.col, .ref c']))) c' (CodeO c' (X.env.qual ++ "<lambda>"))) := fun p hp => by
      by_cases hb : p.1 = P
      · rw [hu p hp hb, hb]
        refine ⟨_, by rw [upd_ne (ne_of_none hP nC), upd_same], by rw [eL]; exact PySem.TriplesOk_snoc _ _ _ _ ht, fun p' cv hcv => ?_⟩
        rw [eL] at hcv
        rcases among_app _ ht hcv with z | z
        · obtain ⟨c0, q1, q2⟩ := ha p' cv z
          exact ⟨c0, q1, hE _ _ q2 codeO_ne⟩
        · exact ⟨c', z, upd_same⟩
      · obtain ⟨ps', q1, q2, q3⟩ := hT p hp
        refine ⟨ps', ?_, q2, fun p' cv hcv => ?_⟩
        · rw [upd_ne (ne_of_none q1 nC), upd_ne hb]
          exact q1
        · obtain ⟨c0, r1, r2⟩ := q3 p' cv hcv
          exact ⟨c0, r1, hE _ _ r2 codeO_ne⟩
    have nF := I1.hok.fresh (Nat.le_refl _)
    have I2 := inv_lam (F := lamF X params scope c') (b := body) (t' := tk) (pm := (X.mg "__name__").getD .none) (ctv := ctv) I1
    refine h h'.objs.size c' _ _ I2 (fun b o e nt => ?_) (fun b e => upd_none (upd_none (upd_none e))) (T1.ext fun b o e => ?_) (I.hok.fresh (Nat.le_trans hge (Nat.le_of_lt hlt))) upd_same ?_
    · exact (upd_ne (ne_of_none (hE b o e nt) nF)).trans (hE b o e nt)
    · exact (upd_ne (ne_of_none e nF)).trans e
    · exact (upd_ne (Nat.ne_of_lt hlt)).trans upd_same
  | some cv =>
    obtain ⟨c', e, hco⟩ := ha pos cv hc
    subst e
    refine PySem.W.kla_makeFunctionHit (mg := X.mg) (c := c) (P := P) (ps := ps) (closure_ok hfree) I.ok.glob (I.mod.glob.keeps I.bk) hcode
      (TB.code.keeps I.bk) hP' ht hc bP fun ctv h' tk hx hsz => ?_
    have I1 : Inv X pins σ H { s with heap := h', toks := tk } := I.kept hx
    have nF : H h'.objs.size = Option.none := I1.hok.fresh (Nat.le_refl _)
    have I2 := inv_lam (F := lamF X params scope c') (b := body) (t' := tk) (pm := (X.mg "__name__").getD .none) (ctv := ctv) I1
    refine h h'.objs.size c' _ _ I2 (fun b o e nt => ?_) (fun b e => upd_none e) (hT.ext fun b o e => ?_) nF upd_same ?_
    · exact (upd_ne (ne_of_none e nF)).trans e
    · exact (upd_ne (ne_of_none e nF)).trans e
    · exact (upd_ne (ne_of_none hco nF)).trans hco
end
/-- the reading of «lambda ..: ..»: a new function object; b the body -/
def tLamV (T : List (Addr × Str)) (mk : Addr → NF) (b : Expr) : TE := fun σ H Q => Tabs T H ∧ ∀ (f c' : Addr) (H1 : Hp), ExtN H H1 → (∀ b, H1 b = Option.none → H b = Option.none) → Tabs T H1 → H f = Option.none → H1 f = some (LamO f (mk c') b) → H1 c' = some (CodeO c' (mk c').qual) → Q (.ref f) H1
theorem pe_lamV {X : Cx} {T : List (Addr × Str)} {c P : Addr} {params : Arguments} {body : Expr} {scope : Scope} {pos : Pos} {mk : Addr → NF} (TB : TabB X.base X.mg c P) (hcode : X.env.code = .ref c) (hm : (P, X.env.qual ++ "<lambda>") ∈ T) (hu : ∀ p ∈ T, p.1 = P → p.2 = X.env.qual ++ "<lambda>")
    (hdef : defaultsOf params X.env = ([], []) := by rfl) (hfree : ∀ y ∈ scope.names, y.2 = .free → X.env.scope.names.lookup y.1 = some .cell ∨ X.env.scope.names.lookup y.1 = some .free) (hmk : mk = lamF X params scope := by rfl) : PE X (.Lambda params body scope pos) (tLamV T mk body) := by
  refine ⟨fun pins s σ H Q I h => ?_⟩
  obtain ⟨hT, h⟩ := h
  subst hmk
  refine lam_make3 I TB hcode hm hu hT hdef (fun y hy e => (hfree y hy e).elim (fun z => I.ok.has _ (.inl z)) fun z => I.ok.has _ (.inr z)) fun f c' H1 s' I1 eN nn T1 f0 f1 c1 => ?_
  exact ⟨.ref f, H1, I1, rfl, h f c' H1 eN nn T1 f0 f1 c1⟩
end CLO
set_option Elab.async false
set_option linter.all false
set_option maxRecDepth 100000
set_option maxHeartbeats 4000000
/-! a lambda is called: its cells stand in the heap, frozen -/
namespace CLO
open PySem PySem.Spec PyProof.Rows L2 CM LamX NdefX
/-- a cell that nobody writes any more -/
def CelO (ob : Obj) : HO := .frz ob (.ext fun _ => True)
def CelAt (H : Hp) (c : Addr) (v : V) : Prop := ∃ (ob : Obj) (u : Value), H c = some (CelO ob) ∧ ob.data = .cell (some u) ∧ RelV v u
def hide (H : Hp) (cl : List (Str × Addr)) : Hp := fun b => if b ∈ cl.map (·.2) then Option.none else H b
def back (H : Hp) (cl : List (Str × Addr)) (H' : Hp) : Hp := fun b => if b ∈ cl.map (·.2) then H b else H' b
/-- all its cells are frozen -/
def Cels (H : Hp) (cl : List (Str × Addr)) : Prop := ∀ p ∈ cl, ∃ (ob : Obj) (v : Option Value), H p.2 = some (CelO ob) ∧ ob.data = .cell v
section
variable {H H' : Hp} {cl : List (Str × Addr)} {a b : Addr} {o : HO}
theorem hide_in (h : b ∈ cl.map (·.2)) : hide H cl b = Option.none := if_pos h
theorem hide_out (h : b ∉ cl.map (·.2)) : hide H cl b = H b := if_neg h
theorem back_in (h : b ∈ cl.map (·.2)) : back H cl H' b = H b := if_pos h
theorem back_out (h : b ∉ cl.map (·.2)) : back H cl H' b = H' b := if_neg h
theorem back_hide : back H cl (hide H cl) = H := by
  funext b
  by_cases h : b ∈ cl.map (·.2)
  · rw [back_in h]
  · rw [back_out h, hide_out h]
theorem hide_nil : hide H [] = H := by
  funext b
  exact hide_out (by simp)
theorem back_nil : back H [] H' = H' := by
  funext b
  exact back_out (by simp)
theorem Cels.out (C : Cels H cl) (e : H b = some o) (n : ∀ ob, o ≠ CelO ob) : b ∉ cl.map (·.2) := fun hb => by
  obtain ⟨p, hp, rfl⟩ := List.mem_map.mp hb
  obtain ⟨ob, v, h1, _⟩ := C p hp
  exact n ob (Option.some.inj (e.symm.trans h1))
theorem Cels.keep (C : Cels H cl) (e : H b = some o) (n : ∀ ob, o ≠ CelO ob) : hide H cl b = some o := (hide_out (C.out e n)).trans e
theorem hide_sub : Same (hide H cl) H := fun b o e => by
  by_cases h : b ∈ cl.map (·.2)
  · rw [hide_in h] at e
    cases e
  · rw [hide_out h] at e
    exact e
theorem same_back (s : Same (hide H cl) H') : Same H (back H cl H') := fun b o e => by
  by_cases h : b ∈ cl.map (·.2)
  · rw [back_in h]
    exact e
  · rw [back_out h]
    exact s b o (by rw [hide_out h]; exact e)
theorem ext_back (s : ExtN (hide H cl) H') : ExtN H (back H cl H') := fun b o e n => by
  by_cases h : b ∈ cl.map (·.2)
  · rw [back_in h]
    exact e
  · rw [back_out h]
    exact s b o (by rw [hide_out h]; exact e) n
theorem kp_back (s : Kp a (hide H cl) H') : Kp a H (back H cl H') := fun b o n e => by
  by_cases h : b ∈ cl.map (·.2)
  · rw [back_in h]
    exact e
  · rw [back_out h]
    exact s b o n (by rw [hide_out h]; exact e)
theorem at_back (e : H' b = some o) (h : b ∉ cl.map (·.2)) : back H cl H' b = some o := (back_out h).trans e
end
section
variable {P : Program} {w : World} {K : PySem.W.Frag} {mg : Str → Option Value} {base : Heap} {H H1 : Hp} {h h1 : Heap} {cl : List (Str × Addr)} {A : Around} {outer : List Env} {s s' : Shared} {Q : VK} {u : Value}
theorem hok_hide (ok : HOk P w H h) (C : Cels H cl) : HOk P w (hide H cl) h := fun a o e => by
  have e' := hide_sub _ _ e
  refine (ok a o e').stay (fun b q _ z => z) (fun b q => C.keep q fun ob z => ?_) fun b xs q => C.keep q fun ob z => ?_
  · unfold CelO at z
    cases z
  · unfold CelO at z
    cases z
theorem env_hide (e0 : Env0 P w K mg base A outer s H) (C : Cels H cl) : Env0 P w K mg base A outer s (hide H cl) := by
  refine ⟨e0.frames, e0.mod, fun b o e => ⟨(e0.bs b o e).1, ?_⟩, e0.bsz, e0.funs, fun b hb => ?_, hok_hide e0.hok C, e0.bare⟩
  · by_cases q : b ∈ cl.map (·.2)
    · exact hide_in q
    · rw [hide_out q]
      exact (e0.bs b o e).2
  · by_cases q : b ∈ cl.map (·.2)
    · exact hide_in q
    · rw [hide_out q]
      exact e0.frf b hb
/-- behind a call in the hidden heap -/
theorem ce_back (e0 : Env0 P w K mg base A outer s H) (C : Cels H cl) (c : CE outer P w (hide H cl) s (fun v H' => (∀ b ∈ cl.map (·.2), H' b = Option.none) → Q v (back H cl H')) u s') : CE outer P w H s Q u s' := by
  obtain ⟨v, H1, os, bare, un, hok, r, q⟩ := c
  have cell : ∀ b ∈ cl.map (·.2), ∃ ob, H b = some (CelO ob) ∧ s.heap.get? b = some ob ∧ s'.heap.get? b = some ob ∧ H1 b = Option.none := fun b hb => by
    obtain ⟨p, hp, rfl⟩ := List.mem_map.mp hb
    obtain ⟨ob, v, h1, _⟩ := C p hp
    have g : s.heap.get? p.2 = some ob := (e0.hok p.2 _ h1).1
    have nf : p.2 ∉ frs outer := fun z => by
      have := e0.frf p.2 z
      rw [h1] at this
      cases this
    exact ⟨ob, h1, g, un.keep _ _ g (hide_in hb) nf (by simp), un.free _ _ g (hide_in hb) (by simp)⟩
  have q := q fun b hb => let ⟨_, _, _, _, z⟩ := cell b hb; z
  refine ⟨v, back H cl H1, os, bare, ⟨fun b o e n => ?_, fun b o e n => ?_, fun b o e n => ?_, un.there, fun b xs e => ?_, fun b o z e => ?_, fun b ps e => ?_⟩, fun b o e => ?_, r, q⟩
  · refine un.keep b o e ?_
    by_cases hb : b ∈ cl.map (·.2)
    · exact hide_in hb
    · rw [hide_out hb]
      exact n
  · refine un.slot b o e ?_
    by_cases hb : b ∈ cl.map (·.2)
    · exact hide_in hb
    · rw [hide_out hb]
      exact n
  · intro nx
    have hb : b ∉ cl.map (·.2) := fun hb => by
      obtain ⟨ob, h1, _⟩ := cell b hb
      rw [n] at h1
      cases h1
    rw [back_out hb]
    exact un.free b o e (by rw [hide_out hb]; exact n) nx
  · have hb := C.out e fun ob z => by
      unfold CelO at z
      cases z
    rw [back_out hb]
    exact un.tups b xs (by rw [hide_out hb]; exact e)
  · by_cases hb : b ∈ cl.map (·.2)
    · rw [back_in hb]
      exact e
    · rw [back_out hb]
      exact un.frzs b o z (by rw [hide_out hb]; exact e)
  · have hb := C.out e fun ob z => by
      unfold CelO at z
      cases z
    rw [back_out hb]
    exact un.tbls b ps (by rw [hide_out hb]; exact e)
  · by_cases hb : b ∈ cl.map (·.2)
    · rw [back_in hb] at e
      obtain ⟨ob, h1, g, g', _⟩ := cell b hb
      rw [e] at h1
      cases h1
      exact ⟨g', True.intro, ⟨ob, g'⟩, fun _ _ _ _ => True.intro⟩
    · rw [back_out hb] at e
      refine (hok b o e).stay (fun c q _ z => z) (fun c z => ?_) fun c xs z => ?_
      · rw [back_out fun hc => ?_]
        · exact z
        · obtain ⟨_, _, _, _, n⟩ := cell c hc
          rw [z] at n
          cases n
      · rw [back_out fun hc => ?_]
        · exact z
        · obtain ⟨_, _, _, _, n⟩ := cell c hc
          rw [z] at n
          cases n
end
/-- a lambda that is known, with what its cells hold -/
structure Clo (H : Hp) (f : Addr) (F : NF) (b : Expr) (fr : List Str) (ws : List V) : Prop where
  fn : H f = some (LamO f F b)
  co : H F.c = some (CodeO F.c F.qual)
  cels : Cels H F.cl
  inj : ∀ x y c, F.cl.lookup x = some c → F.cl.lookup y = some c → x = y
  len : ws.length = fr.length
  has : ∀ (i : Nat) (y : Str), fr[i]? = some y → ∃ c v, F.cl.lookup y = some c ∧ ws[i]? = some v ∧ CelAt H c v
theorem Clo.ext {H H' : Hp} {f : Addr} {F : NF} {b : Expr} {fr : List Str} {ws : List V} (C : Clo H f F b fr ws) (s : ExtN H H') : Clo H' f F b fr ws := by
  refine ⟨s _ _ C.fn fun ps => lamO_ne ps, s _ _ C.co fun ps => codeO_ne ps, fun p hp => ?_, C.inj, C.len, fun i y hi => ?_⟩
  · obtain ⟨ob, v, h1, h2⟩ := C.cels p hp
    exact ⟨ob, v, s _ _ h1 (fun ps z => by unfold CelO at z; cases z), h2⟩
  · obtain ⟨c, v, h1, h2, ob, u, h3, h4⟩ := C.has i y hi
    exact ⟨c, v, h1, h2, ob, u, s _ _ h3 (fun ps z => by unfold CelO at z; cases z), h4⟩
section
variable {P : Program} {w : World} {K : PySem.W.Frag} {mg : Str → Option Value} {base : Heap} {N ps fr : List Str} {F : NF} {f : Addr} {k : Nat} {b : Expr} {H : Hp} {ws vs : List V} {Q : VK} {E : XK}
theorem lam_calls (S : NScope N ps fr F.scope) (C : Clo H f F b fr ws) (hl : vs.length = ps.length)
    (hb : ∀ (pm ctv : Value) (us : List Value), us.length = ps.length → bindArgs (PySem.W.kla_fn "<lambda>" F.qual F.params b F.scope F.cl pm (.ref F.c) ctv) ⟨us, []⟩ = pure (ps.zip us))
    (hbody : ∀ (A : Around) (outer : List Env) (s : Shared), Room k (A.deeper (envF F f s.heap.objs.size)) →
      ∃ t, PE (ncx C8.CX0 P w K mg base N F f A outer s (hide H F.cl) E) b t ∧ t (startF N vs (ws.map some)) (hide H F.cl) (fun v H' => (∀ b ∈ F.cl.map (·.2), H' b = Option.none) → Q v (back H F.cl H'))) :
    CallsTo P w K mg base C8.CX0 (k + 1) true f vs H Q E := by
  intro A outer s us hr e0 r
  obtain ⟨pm, ctv, ho⟩ := (e0.hok f _ C.fn).1
  refine ⟨⟨_, _, _, _, ho⟩, wpAny_call ?_⟩
  have e1 := env_hide e0 C.cels
  have lim : s.heap.NoLimit := e0.mod.nolimit.keeps fun b o e => (e0.bs b o e).1
  have CA : CellsAt F.cl fr (ws.map some) s.heap (hide H F.cl) := by
    refine ⟨by rw [List.length_map]; exact C.len, fun y c e => ?_, C.inj, fun i y hi => ?_⟩
    · have hp := PySem.mem_of_lookup e
      obtain ⟨ob, v, h1, h2⟩ := C.cels _ hp
      exact ⟨hide_in (List.mem_map.mpr ⟨_, hp, rfl⟩), v, ob, (e0.hok c _ h1).1, h2⟩
    · obtain ⟨c, v, h1, h2, ob, u, h3, h4, h5⟩ := C.has i y hi
      refine ⟨c, h1, fun v' ev => ?_⟩
      rw [List.getElem?_map, h2] at ev
      cases ev
      exact ⟨u, h5, ob, (e0.hok c _ h3).1, h4⟩
  refine PySem.W.kla_callFunE hr.depth ho rfl S.co S.gen rfl (codeO_at e0.hok C.co) ?_
  rw [hb pm ctv us (by rw [← r.length]; exact hl)]
  refine wpAny_pure (wpAny_newFunctionEnv S.nocell (fun ⟨n, _⟩ hy => S.par n (List.of_mem_zip hy).1) (fun h₁ hns hsb => ⟨lim.fresh _ hsb, ?_⟩) S.kind)
  show codeAny _ _ (.expr b (envF F f s.heap.objs.size)) _ _
  have kp : ∀ b o, s.heap.get? b = some o → h₁.get? b = some o := fun b o e => hsb.extBut b o (Nat.ne_of_lt (Heap.lt_size e)) (Heap.get?_push_of_some _ e)
  obtain ⟨t, ht, hq⟩ := hbody A outer s (hr.deeper _)
  have J : Inv (ncx C8.CX0 P w K mg base N F f A outer s (hide H F.cl) E) [] (startF N vs (ws.map some)) (hide H F.cl) { s with heap := h₁, toks := s.toks + (ps.zip us).length } := inv_startN S hr.hd e1 hl r CA hns kp
  refine PySem.W.kla_codeExpr (wpAny_mono (ht.run [] _ _ _ _ J hq) (fun v s' hs => ?_) fun e s' hs => hs)
  obtain ⟨v', H', J', rv, q⟩ := hs
  exact ce_back e0 C.cels ⟨v', H', J'.os, J'.bare, J'.base, J'.hok, rv, q⟩
end
end CLO
set_option Elab.async false
set_option linter.all false
set_option maxRecDepth 100000
set_option maxHeartbeats 4000000
/-! a def that makes functions: behind its end its cells stand frozen -/
namespace CLO
open PySem PySem.Spec PyProof.Rows L2 CM LamX NdefX
/-- a suite that ends in one return; what is wanted there may speak of the names -/
structure PSZ (X : Cx) (ss : List Stmt) (t : (L2.St → VK) → L2.St → Hp → Prop) : Prop where
  run : ∀ (pins : List (Addr × Obj)) (s : Shared) (σ : L2.St) (H : Hp) (R : L2.St → VK), Inv X pins σ H s → t R σ H → wpAny (model X.prog X.w) X.A (execs ss X.env) (fun fl s' => ∃ u v σ' H', fl = .ret u ∧ Inv X pins σ' H' s' ∧ RelV v u ∧ R σ' v H') X.xe s
section
variable {X : Cx} {st : Stmt} {rest : List Stmt} {t : TS} {u : (L2.St → VK) → L2.St → Hp → Prop} {e : Expr} {te : TE} {pos : Pos}
theorem psz_cons (h1 : PS X st t) (h2 : PSZ X rest u) : PSZ X (st :: rest) (fun R σ H => t { nx := fun σ' H' => u R σ' H', rt := fun _ _ => False } σ H) := by
  refine ⟨fun pins s σ H R I h => ?_⟩
  refine wpAny_execs_cons (thn (h1.run pins s σ H _ I h) fun f s1 q => ?_)
  cases f with
  | next =>
    obtain ⟨σ', H', I', q⟩ := q
    exact h2.run pins s1 σ' H' R I' q
  | ret v =>
    obtain ⟨_, _, _, _, _, z⟩ := q
    exact z.elim
  | brk =>
    obtain ⟨_, _, _, z⟩ := q
    exact False.elim z
  | cont =>
    obtain ⟨_, _, _, z⟩ := q
    exact False.elim z
theorem psz_ret (he : PE X e te) : PSZ X [.Return (some e) pos] (fun R σ H => te σ H (R σ)) := by
  refine ⟨fun pins s σ H R I h => ?_⟩
  refine wpAny_execs_cons (wpAny_Return_some (thn (he.run pins s σ H _ I h) fun v s1 ⟨x, H1, I1, r1, q1⟩ => ?_))
  exact ⟨v, x, σ, H1, rfl, I1, r1, q1⟩
end
/-- Hz: the heap H with the frame's cells, frozen; what they hold by the names' slots σ -/
structure Frz (sc : Scope) (cells : List (Str × Addr)) (N : List Str) (σ : L2.St) (H Hz : Hp) : Prop where
  same : Same H Hz
  cel : ∀ y c, cells.lookup y = some c → ∃ (ob : Obj) (v : Option Value), Hz c = some (CelO ob) ∧ ob.data = .cell v
  val : ∀ (y : Str) (c : Addr) (i : Nat) (v : V), cells.lookup y = some c → sc.names.lookup y = some .cell → N[i]? = some y → σ[i]? = some (some v) → CelAt Hz c v
  inj : ∀ x y c, cells.lookup x = some c → cells.lookup y = some c → x = y
  has : ∀ y, sc.names.lookup y = some .cell → ∃ c, cells.lookup y = some c
theorem cells_ge : ∀ (l : List (Str × NameKind)) (n : Nat) (acc : List (Str × Addr)) (m : Nat), m ≤ n → (∀ p ∈ acc, m ≤ p.2) → ∀ p ∈ cellsFrom n l acc, m ≤ p.2
  | [], n, acc, m, h, ha, p, hp => ha p hp
  | (y, k) :: r, n, acc, m, h, ha, p, hp => by
    unfold cellsFrom at hp
    split at hp
    · exact cells_ge r (n + 1) _ m (by omega) (fun q hq => (List.mem_cons.mp hq).elim (fun z => by rw [z]; exact h) (ha q)) p hp
    · exact cells_ge r n acc m h ha p hp
open Classical in
noncomputable def frzH (cells : List (Str × Addr)) (h : Heap) (H : Hp) : Hp := fun b => if ∃ y, cells.lookup y = some b then (h.get? b).map CelO else H b
section
variable {X : Cx} {pins : List (Addr × Obj)} {σ : L2.St} {H : Hp} {s : Shared}
theorem frz_of (I : Inv X pins σ H s) : Frz X.env.scope X.env.cells X.N σ H (frzH X.env.cells s.heap H) := by
  have at_ : ∀ {y c}, X.env.cells.lookup y = some c → frzH X.env.cells s.heap H c = (s.heap.get? c).map CelO := fun {y c} e => if_pos ⟨y, e⟩
  refine ⟨fun b o e => ?_, fun y c e => ?_, fun y c i v e k hi hσ => ?_, I.ok.inj, fun y k => I.ok.has y (.inl k)⟩
  · have n : ¬ ∃ y, X.env.cells.lookup y = some b := fun ⟨y, z⟩ => by
      rw [I.freeC y b z] at e
      cases e
    exact (if_neg n).trans e
  · obtain ⟨v, ob, h1, h2⟩ := I.cell y c e
    exact ⟨ob, v, by rw [at_ e, h1]; rfl, h2⟩
  · obtain ⟨m, hn, hl⟩ := I.loc
    obtain ⟨u, r, l⟩ := hl i y v hi hσ (.inr (.inl k))
    rcases l with ⟨z, _⟩ | ⟨_, a', ha', ob, h1, h2⟩
    · have z' : X.env.scope.names.lookup y = some .local := z
      rw [k] at z'
      cases z'
    · rw [e] at ha'
      cases ha'
      exact ⟨ob, u, by rw [at_ e, h1]; rfl, h2, r⟩
end
section
variable {P : Program} {w : World} {K : PySem.W.Frag} {mg : Str → Option Value} {base : Heap} {CX : CXT} {k : Nat} {fd : FuncData} {ps N : List Str} {sp : Sp} {x qual : Str} {params : Arguments} {body : List Stmt} {scope : Scope} {dvs : List V} {kws : List (Str × V)}
theorem okZ {p : He.Defn} (F : FunD K x qual params body scope dvs kws (He.fAd K p) fd) (S : FnScope N ps scope) (len : ∀ vs H Q E, sp vs H Q E → vs.length = ps.length)
    (hbody : ∀ (A : Around) (outer : List Env) (s : Shared) (H : Hp) (vs : List V) (Q : VK) (E : XK), Room k (A.deeper (envOfC qual scope s.heap.objs.size (He.fAd K p) (.ref (He.codeOf K p)))) → sp vs H Q E →
      ∃ t, PSZ (cxOf CX P w K mg base N qual scope (He.fAd K p) (.ref (He.codeOf K p)) A outer s H E) body t ∧ t (fun σ v H' => ∀ Hz, Frz scope (cellsFrom (s.heap.objs.size + 1) scope.names []) N σ H' Hz → Q v Hz) (L2.start N vs) H) :
    FnOk P w K mg base CX (k + 1) (He.fAd K p) fd ps sp := by
  obtain ⟨oc, od, dV, kV, doc, pm, an, cdv, ct, osl, rfl, lk, hcd, _, _⟩ := F.ex
  obtain ⟨c, rfl⟩ := He.codeIn_ref hcd
  have e : He.codeOf K p = c := He.codeOf_eq lk rfl
  rw [e] at hbody
  refine ⟨len, fun A outer s0 H args us vs Q E room e0 bt rv asked => ?_⟩
  have old : ∀ b o, base.get? b = some o → s0.heap.get? b = some o := fun b o e => (e0.bs b o e).1
  refine codeAny_call_function room.depth (e0.mod.kin.keeps old _ _ lk) rfl S.co S.gen rfl (PySem.W.codeRec_of (e0.mod.kin.keeps old) hcd) (bt _ _ _ _ (wpAny_newFunctionEnv_cells S.kind (fun y hy => ?_) fun env he t x => ?_))
  · exact (S.par y.1 (List.of_mem_zip (show (y.1, y.2) ∈ ps.zip us from hy)).1).elim .inl fun q => .inr ⟨q, PySem.W.cellsFrom_some _ _ _ (.inl q)⟩
  · subst he
    obtain ⟨tt, ht, rd⟩ := hbody A outer s0 H vs Q E (room.deeper _) asked
    have J : Inv (cxOf CX P w K mg base N qual scope (He.fAd K p) (.ref c) A outer s0 H E) [] (L2.start N vs) H t := inv_start S room.hd e0 (len _ _ _ _ asked) rv x
    refine ⟨(e0.mod.nolimit.keeps old).keeps x.toInCall.keep, codeAny_func (wpAny_mono (ht.run [] t (L2.start N vs) H _ J rd) (fun fl t2 got => ?_) fun _ _ got => got)⟩
    obtain ⟨u, v, σ2, H2, rfl, J2, r2, q2⟩ := got
    have fz := frz_of J2
    have big : ∀ y c, (cellsFrom (s0.heap.objs.size + 1) scope.names []).lookup y = some c → s0.heap.objs.size < c := fun y c z => cells_ge _ _ [] (s0.heap.objs.size + 1) (Nat.le_refl _) (fun _ q => by cases q) _ (PySem.mem_of_lookup z)
    have out : ∀ {b : Addr}, (∀ y, (cellsFrom (s0.heap.objs.size + 1) scope.names []).lookup y ≠ some b) → frzH (cellsFrom (s0.heap.objs.size + 1) scope.names []) t2.heap H2 b = H2 b := fun {b} z => if_neg fun ⟨y, q⟩ => z y q
    have oldc : ∀ {b : Addr} {o : Obj}, s0.heap.get? b = some o → ∀ y, (cellsFrom (s0.heap.objs.size + 1) scope.names []).lookup y ≠ some b := fun {b o} e y z => by
      exact Nat.lt_irrefl _ (Nat.lt_trans (big y b z) (Heap.lt_size e))
    refine ⟨v, frzH (cellsFrom (s0.heap.objs.size + 1) scope.names []) t2.heap H2, J2.os, J2.bare, ?_, fun b o e => ?_, r2, q2 _ fz⟩
    · have un : Un (frs outer) [] H H2 s0.heap t2.heap := J2.base
      exact ⟨un.keep, un.slot, fun b o e n nx => by rw [out (oldc e)]; exact un.free b o e n nx, un.there, fun b xs e => fz.same _ _ (un.tups b xs e), fun b o z e => fz.same _ _ (un.frzs b o z e), fun b ps e => let ⟨more, q⟩ := un.tbls b ps e; ⟨more, fz.same _ _ q⟩⟩
    · by_cases hb : ∃ y, (cellsFrom (s0.heap.objs.size + 1) scope.names []).lookup y = some b
      · obtain ⟨y, hy⟩ := hb
        obtain ⟨v', ob, h1, h2⟩ := J2.cell y b hy
        have e2 : frzH (cellsFrom (s0.heap.objs.size + 1) scope.names []) t2.heap H2 b = some (CelO ob) := (if_pos ⟨y, hy⟩).trans (by rw [h1]; rfl)
        rw [e2] at e
        cases e
        exact ⟨h1, True.intro, ⟨ob, h1⟩, fun _ _ _ _ => True.intro⟩
      · rw [out fun y z => hb ⟨y, z⟩] at e
        exact (J2.hok b o e).stay (fun c q _ z => z) (fun c z => fz.same _ _ z) fun c xs z => fz.same _ _ z
end
/-- a lambda made in the def, seen behind its end -/
theorem clo_of {sc lsc : Scope} {cells : List (Str × Addr)} {N fr : List Str} {σ : L2.St} {H Hz : Hp} {f c' : Addr} {qual : Str} {params : Arguments} {b : Expr} {js : List Nat} {ws : List V} (fz : Frz sc cells N σ H Hz)
    (e1 : Hz f = some (LamO f ⟨"<lambda>", qual, params, [], lsc, cloFrom cells lsc.names [], c'⟩ b)) (e2 : Hz c' = some (CodeO c' qual)) (hfree : ∀ y ∈ lsc.names, y.2 = .free → sc.names.lookup y.1 = some .cell) (hfr : ∀ y ∈ fr, (y, NameKind.free) ∈ lsc.names)
    (hjs : js.map (fun j => N[j]?) = fr.map some) (hws : js.map (slotAt σ) = ws.map some) : Clo Hz f ⟨"<lambda>", qual, params, [], lsc, cloFrom cells lsc.names [], c'⟩ b fr ws := by
  have hf : ∀ y ∈ lsc.names, y.2 = .free → ∃ c, cells.lookup y.1 = some c := fun y hy e => fz.has _ (hfree y hy e)
  have lj : js.length = fr.length := by
    have q := congrArg List.length hjs
    rw [List.length_map, List.length_map] at q
    exact q
  have lw : js.length = ws.length := by
    have q := congrArg List.length hws
    rw [List.length_map, List.length_map] at q
    exact q
  refine ⟨e1, e2, fun p hp => ?_, fun x y c h1 h2 => fz.inj x y c (clo_cm hf h1) (clo_cm hf h2), by omega, fun i y hi => ?_⟩
  · rcases cloFrom_mem (show (p.1, p.2) ∈ _ from hp) with hm | ⟨h1, h2⟩
    · cases hm
    · obtain ⟨c1, hc⟩ := hf _ h1 rfl
      have hc : cells.lookup p.1 = some c1 := hc
      have e2 : p.2 = c1 := by
        rw [h2, hc] <;> rfl
      rw [e2]
      exact fz.cel _ _ hc
  · have hy := hfr y (List.mem_of_getElem? hi)
    have k := hfree _ hy rfl
    obtain ⟨c, hc⟩ := fz.has y k
    have ej : (js.map fun j => N[j]?)[i]? = some (some y) := by
      rw [hjs, List.getElem?_map, hi] <;> rfl
    rw [List.getElem?_map] at ej
    cases hj : js[i]? with
    | none =>
      rw [hj] at ej
      cases ej
    | some j =>
      rw [hj] at ej
      have hN : N[j]? = some y := Option.some.inj ej
      have ew : (ws.map some)[i]? = some (slotAt σ j) := by
        rw [← hws, List.getElem?_map, hj] <;> rfl
      rw [List.getElem?_map] at ew
      cases hw : ws[i]? with
      | none =>
        rw [hw] at ew
        cases ew
      | some v =>
        rw [hw] at ew
        have hv : slotAt σ j = some v := (Option.some.inj ew).symm
        exact ⟨c, v, clo_has hf hy hc, rfl, fz.val y c j v hc k hN (slotAt_some hv)⟩
end CLO
set_option Elab.async false
set_option linter.all false
set_option maxRecDepth 100000
set_option maxHeartbeats 4000000
/-! calls out of a def whose own functions are called on the way: its cells stand frozen meanwhile -/
namespace CLO
open PySem PySem.Spec PyProof.Rows L2 CM LamX NdefX
open Classical in
noncomputable def unfz (cells : List (Str × Addr)) (H : Hp) : Hp := fun b => if ∃ y, cells.lookup y = some b then Option.none else H b
section
variable {cells : List (Str × Addr)} {sc : Scope} {N : List Str} {σ : L2.St} {H Hz H' : Hp} {b : Addr} {o : HO}
theorem unfz_in (h : ∃ y, cells.lookup y = some b) : unfz cells H b = Option.none := if_pos h
theorem unfz_out (h : ¬ ∃ y, cells.lookup y = some b) : unfz cells H b = H b := if_neg h
theorem Frz.not_cell (f : Frz sc cells N σ H Hz) (e : Hz b = some o) (n : ∀ ob, o ≠ CelO ob) : ¬ ∃ y, cells.lookup y = some b := fun ⟨y, z⟩ => by
  obtain ⟨ob, v, h1, _⟩ := f.cel y b z
  exact n ob (Option.some.inj (e.symm.trans h1))
/-- what was told of H stays told behind the call -/
theorem Frz.unfz (f : Frz sc cells N σ H Hz) (hc : ∀ y c, cells.lookup y = some c → H c = Option.none) (s : ExtN Hz H') : ExtN H (unfz cells H') := fun b o e n => by
  have nb : ¬ ∃ y, cells.lookup y = some b := fun ⟨y, z⟩ => by
    rw [hc y b z] at e
    cases e
  rw [unfz_out nb]
  exact s b o (f.same b o e) n
end
section
variable {X : Cx} {pins : List (Addr × Obj)} {σ : L2.St} {H : Hp} {s s' : Shared} {CX : CXT} {n : Nat} {Q : VK} {E : XK} {u : Value}
/-- the frame's cells are younger than its entry -/
def Young (X : Cx) : Prop := ∀ y c, X.env.cells.lookup y = some c → X.s_0.heap.objs.size < c
theorem young_of {CX : CXT} {P : Program} {w : World} {K : PySem.W.Frag} {mg : Str → Option Value} {base : Heap} {N : List Str} {qual : Str} {scope : Scope} {f : Addr} {cd : Value} {A : Around} {outer : List Env} {s : Shared} {H : Hp} {E : XK} :
    Young (cxOf CX P w K mg base N qual scope f cd A outer s H E) := fun y c z => cells_ge _ _ [] (s.heap.objs.size + 1) (Nat.le_refl _) (fun _ q => by cases q) _ (PySem.mem_of_lookup z)
theorem hok_frz (I : Inv X pins σ H s) : HOk X.prog X.w (frzH X.env.cells s.heap H) s.heap := fun b o e => by
  have fz := frz_of I
  by_cases hb : ∃ y, X.env.cells.lookup y = some b
  · obtain ⟨y, hy⟩ := hb
    obtain ⟨v', ob, h1, h2⟩ := I.cell y b hy
    have e2 : frzH X.env.cells s.heap H b = some (CelO ob) := (if_pos ⟨y, hy⟩).trans (by rw [h1]; rfl)
    rw [e2] at e
    cases e
    exact ⟨h1, True.intro, ⟨ob, h1⟩, fun _ _ _ _ => True.intro⟩
  · have e2 : frzH X.env.cells s.heap H b = H b := if_neg hb
    rw [e2] at e
    exact (I.hok b o e).stay (fun c q _ z => z) (fun c z => fz.same _ _ z) fun c xs z => fz.same _ _ z
theorem env_frz (hy : Young X) (I : Inv X pins σ H s) : Env0 X.prog X.w X.K X.mg X.base X.A X.stack s (frzH X.env.cells s.heap H) := by
  have e0 := I.env0
  have no : ∀ b, (∀ y, X.env.cells.lookup y ≠ some b) → H b = Option.none → frzH X.env.cells s.heap H b = Option.none := fun b h1 h2 => (if_neg fun ⟨y, z⟩ => h1 y z).trans h2
  refine ⟨e0.frames, e0.mod, fun b o e => ⟨(e0.bs b o e).1, no b (fun y z => ?_) (e0.bs b o e).2⟩, e0.bsz, e0.funs, fun b hb => no b (fun y z => ?_) (e0.frf b hb), hok_frz I, e0.bare⟩
  · exact Nat.lt_irrefl _ (Nat.lt_trans (Nat.lt_of_le_of_lt I.ok.bsz (hy y b z)) (Heap.lt_size e))
  · rcases List.mem_cons.mp (I.stkSub _ hb) with q | q
    · exact I.cne y b z q
    · obtain ⟨_, o, ho, _⟩ := I.ok.funs.mem q
      exact Nat.lt_irrefl _ (Nat.lt_trans (hy y b z) (Heap.lt_size ho))
/-- behind the call -/
theorem ce_unfz (I : Inv X pins σ H s) (c : CE X.stack X.prog X.w (frzH X.env.cells s.heap H) s (fun v H' => Q v (unfz X.env.cells H')) u s') : CE X.stack X.prog X.w H s Q u s' := by
  obtain ⟨v, H1, os, bare, un, hok, r, q⟩ := c
  have at_ : ∀ {b}, ¬ (∃ y, X.env.cells.lookup y = some b) → frzH X.env.cells s.heap H b = H b := fun {b} h => if_neg h
  have cel : ∀ {b}, (∃ y, X.env.cells.lookup y = some b) → ∃ ob, s.heap.get? b = some ob ∧ H b = Option.none ∧ H1 b = some (CelO ob) ∧ s'.heap.get? b = some ob := fun {b} ⟨y, hy⟩ => by
    obtain ⟨v', ob, h1, h2⟩ := I.cell y b hy
    have e2 : frzH X.env.cells s.heap H b = some (CelO ob) := (if_pos ⟨y, hy⟩).trans (by rw [h1]; rfl)
    have e3 := un.frzs b _ _ e2
    exact ⟨ob, h1, I.freeC y b hy, e3, (hok b _ e3).1⟩
  refine ⟨v, unfz X.env.cells H1, os, bare, ⟨fun b o e n => ?_, fun b o e n nf nx => ?_, fun b o e n nx => ?_, un.there, fun b xs e => ?_, fun b o z e => ?_, fun b ps e => ?_⟩, fun b o e => ?_, r, q⟩
  · by_cases hb : ∃ y, X.env.cells.lookup y = some b
    · obtain ⟨ob, h1, _, _, h2⟩ := cel hb
      intro _ _
      rw [h1] at e
      cases e
      exact h2
    · exact un.keep b o e (by rw [at_ hb]; exact n)
  · by_cases hb : ∃ y, X.env.cells.lookup y = some b
    · obtain ⟨ob, h1, _, _, h2⟩ := cel hb
      rw [h1] at e
      cases e
      exact ⟨_, h2⟩
    · exact un.slot b o e (by rw [at_ hb]; exact n) nf nx
  · by_cases hb : ∃ y, X.env.cells.lookup y = some b
    · exact unfz_in hb
    · rw [unfz_out hb]
      exact un.free b o e (by rw [at_ hb]; exact n) nx
  · have hb : ¬ ∃ y, X.env.cells.lookup y = some b := fun hb => by
      obtain ⟨_, _, n, _⟩ := cel hb
      rw [n] at e
      cases e
    rw [unfz_out hb]
    exact un.tups b xs (by rw [at_ hb]; exact e)
  · have hb : ¬ ∃ y, X.env.cells.lookup y = some b := fun hb => by
      obtain ⟨_, _, n, _⟩ := cel hb
      rw [n] at e
      cases e
    rw [unfz_out hb]
    exact un.frzs b o z (by rw [at_ hb]; exact e)
  · have hb : ¬ ∃ y, X.env.cells.lookup y = some b := fun hb => by
      obtain ⟨_, _, n, _⟩ := cel hb
      rw [n] at e
      cases e
    rw [unfz_out hb]
    exact un.tbls b ps (by rw [at_ hb]; exact e)
  · have hb : ¬ ∃ y, X.env.cells.lookup y = some b := fun hb => by
      rw [unfz_in hb] at e
      cases e
    rw [unfz_out hb] at e
    refine (hok b o e).stay (fun c q _ z => z) (fun c z => ?_) fun c xs z => ?_
    · rw [unfz_out fun hc => ?_]
      · exact z
      · obtain ⟨_, _, _, h1, _⟩ := cel hc
        rw [z] at h1
        unfold CelO at h1
        cases h1
    · rw [unfz_out fun hc => ?_]
      · exact z
      · obtain ⟨_, _, _, h1, _⟩ := cel hc
        rw [z] at h1
        unfold CelO at h1
        cases h1
theorem run_frz {f : Addr} {us : List Value} {vs : List V} (hy : Young X) (hr : Room n X.A) (I : Inv X pins σ H s) (r : Vals vs us)
    (h : ∀ Hz, Frz X.env.scope X.env.cells X.N σ H Hz → RunsTo X.prog X.w X.K X.mg X.base C8.CX0 n f vs Hz (fun v H' => Q v (unfz X.env.cells H')) E) : wpAny (model X.prog X.w) X.A (call (.ref f) us) (EP X pins σ Q) X.xe s := by
  obtain ⟨sp, Q0, F, q, hQ⟩ := h _ (frz_of I)
  refine wpAny_call (codeAny_mono (F X.A X.stack s _ us vs _ E hr (env_frz hy I) r q) fun z s' hq => ?_)
  cases z with
  | error e => exact (show False from hq).elim
  | ok fl => cases fl with
    | ret u =>
      obtain ⟨v, H', o1, o2, o3, o4, o5, q'⟩ := hq
      exact I.after (ce_unfz I ⟨v, H', o1, o2, o3, o4, o5, hQ v H' q'⟩)
    | next => exact False.elim hq
    | brk => exact False.elim hq
    | cont => exact False.elim hq
end
/-- o.m(..), the frame's cells frozen meanwhile -/
def tMethZ (P : Program) (w : World) (K : PySem.W.Frag) (mg : Str → Option Value) (base : Heap) (sc : Scope) (cells : List (Str × Addr)) (N : List Str) (n : Nat) (m : Str) (E : XK) (ta : TE) (t : TA) : TE := fun σ H Q => ta σ H fun x H1 => ∃ a C dx fs f, x = .ref a ∧ H1 a = some (.ins C dx fs) ∧ fs.lookup m = none ∧ Cls K C ∧ Meth K C m f ∧
  t σ H1 fun vs H2 => ∀ Hz, (∀ y c, cells.lookup y = some c → H2 c = Option.none) → Frz sc cells N σ H2 Hz → RunsTo P w K mg base C8.CX0 n f (.ref a :: vs) Hz (fun v H' => Q v (unfz cells H')) E
section
variable {X : Cx} {n : Nat} {E : XK} {o e : Expr} {es : List Expr} {m : Str} {pos apos : Pos} {ta : TE} {t : TA} {pl : Sem Bool}
theorem pe_methZ (hy : Young X) (he : PE X o ta) (hr : Room n X.A) (ha : PA X (e :: es) t)
    (hst : starEach (e :: es) X.env = (false, eval e X.env) :: starEach es X.env := by rfl) (hpl : (backTo pos (starEach es X.env)).any (·.1) = false := by rfl)
    (ht : eval (.Call (.Attribute o m apos) (e :: es) [] pos) X.env = (do
      let ov ← eval o X.env
      standAt apos.atName
      let (f, first) ← holding [ov] (getMethod ov m pl)
      callWith pos f first (backTo pos (starEach (e :: es) X.env)) (backToKw pos (keywordEach [] X.env))) := by rfl) :
    PE X (.Call (.Attribute o m apos) (e :: es) [] pos) (tMethZ X.prog X.w X.K X.mg X.base X.env.scope X.env.cells X.N n m E ta t) := by
  refine ⟨fun pins s σ H Q I h => ?_⟩
  refine PySem.W.methodCall_KW (pl := pl) (thn (he.run pins s σ H _ I h) fun u s1 ⟨x, H1, I1, rx, a, C, dx, fs, f, ex, ea, l, c, hm, q⟩ => ?_) ht
  subst ex
  obtain rfl : u = Value.ref a := rx
  refine getmeth_ok I1 ea c hm l ?_
  refine PySem.W.callWith_K (first := [.ref a]) (h₀ := X.base) I.ok.mod.kin hm.kp (thn (ha.run pos pins s1 σ H1 _ I1 q) fun us s2 ⟨vs, H2, I2, r, q2⟩ => ⟨I2.kIn, ?_⟩) hst hpl
  exact run_frz (us := .ref a :: us) (vs := .ref a :: vs) hy hr I2 (.cons rfl r) fun Hz fz => q2 Hz I2.freeC fz
end
end CLO
set_option Elab.async false
set_option linter.all false
set_option maxRecDepth 100000
set_option maxHeartbeats 4000000
/-! a nested def that is handed on: its cells stand in the heap, frozen -/
namespace CLO
open PySem PySem.Spec PyProof.Rows L2 CM LamX NdefX
/-- a nested def that is known, with what its cells hold -/
structure CloN (H : Hp) (f : Addr) (F : NF) (fr : List Str) (ws : List V) : Prop where
  fn : H f = some (FnO f F)
  co : H F.c = some (CodeO F.c F.qual)
  cels : Cels H F.cl
  inj : ∀ x y c, F.cl.lookup x = some c → F.cl.lookup y = some c → x = y
  len : ws.length = fr.length
  has : ∀ (i : Nat) (y : Str), fr[i]? = some y → ∃ c v, F.cl.lookup y = some c ∧ ws[i]? = some v ∧ CelAt H c v
theorem fnO_ne2 {f : Addr} {F : NF} (ob : Obj) : FnO f F ≠ CelO ob := fun z => by
  unfold FnO CelO at z
  cases z
theorem codeO_ne2 {c : Addr} {q : Str} (ob : Obj) : CodeO c q ≠ CelO ob := fun z => by
  unfold CodeO CelO at z
  cases z
theorem CloN.ext {H H' : Hp} {f : Addr} {F : NF} {fr : List Str} {ws : List V} (C : CloN H f F fr ws) (s : ExtN H H') : CloN H' f F fr ws := by
  refine ⟨s _ _ C.fn fun ps => fnO_ne ps, s _ _ C.co fun ps => codeO_ne ps, fun p hp => ?_, C.inj, C.len, fun i y hi => ?_⟩
  · obtain ⟨ob, v, h1, h2⟩ := C.cels p hp
    exact ⟨ob, v, s _ _ h1 (fun ps z => by unfold CelO at z; cases z), h2⟩
  · obtain ⟨c, v, h1, h2, ob, u, h3, h4⟩ := C.has i y hi
    exact ⟨c, v, h1, h2, ob, u, s _ _ h3 (fun ps z => by unfold CelO at z; cases z), h4⟩
section
variable {P : Program} {w : World} {K : PySem.W.Frag} {mg : Str → Option Value} {base : Heap} {ps fr : List Str} {F : NF} {f : Addr} {k : Nat} {H : Hp} {ws vs : List V} {Q : VK} {E : XK} {sp : List (Option V) → Sp}
theorem fn_calls (N : NOk P w K mg base C8.CX0 k f F ps fr sp) (C : CloN H f F fr ws) (q : sp (ws.map some) vs (hide H F.cl) (fun v H' => (∀ b ∈ F.cl.map (·.2), H' b = Option.none) → Q v (back H F.cl H')) E) :
    CallsTo P w K mg base C8.CX0 k true f vs H Q E := by
  intro A outer s us hr e0 r
  obtain ⟨od, sl, doc, pm, ctv, ho⟩ := (e0.hok f _ C.fn).1
  refine ⟨⟨_, _, _, _, ho⟩, wpAny_call ?_⟩
  have CA : CellsAt F.cl fr (ws.map some) s.heap (hide H F.cl) := by
    refine ⟨by rw [List.length_map]; exact C.len, fun y c e => ?_, C.inj, fun i y hi => ?_⟩
    · have hp := PySem.mem_of_lookup e
      obtain ⟨ob, v, h1, h2⟩ := C.cels _ hp
      exact ⟨hide_in (List.mem_map.mpr ⟨_, hp, rfl⟩), v, ob, (e0.hok c _ h1).1, h2⟩
    · obtain ⟨c, v, h1, h2, ob, u, h3, h4, h5⟩ := C.has i y hi
      refine ⟨c, h1, fun v' ev => ?_⟩
      rw [List.getElem?_map, h2] at ev
      cases ev
      exact ⟨u, h5, ob, (e0.hok c _ h3).1, h4⟩
  refine codeAny_mono (N.run A outer s (hide H F.cl) us vs (ws.map some) _ E hr (env_hide e0 C.cels) (C.cels.keep C.fn fnO_ne2) (C.cels.keep C.co codeO_ne2) CA r q) fun z s' hq => ?_
  cases z with
  | error e => exact hq
  | ok fl => cases fl with
    | ret u => exact ce_back e0 C.cels hq
    | next => exact hq
    | brk => exact hq
    | cont => exact hq
end
/-- a nested def made in the def, seen behind its end -/
theorem cloN_of {sc : Scope} {cells : List (Str × Addr)} {N fr : List Str} {σ : L2.St} {H Hz : Hp} {f : Addr} {F : NF} {js : List Nat} {ws : List V} (fz : Frz sc cells N σ H Hz) (ecl : F.cl = cloFrom cells F.scope.names [])
    (e1 : Hz f = some (FnO f F)) (e2 : Hz F.c = some (CodeO F.c F.qual)) (hfree : ∀ y ∈ F.scope.names, y.2 = .free → sc.names.lookup y.1 = some .cell) (hfr : ∀ y ∈ fr, (y, NameKind.free) ∈ F.scope.names)
    (hjs : js.map (fun j => N[j]?) = fr.map some) (hws : js.map (slotAt σ) = ws.map some) : CloN Hz f F fr ws := by
  have hf : ∀ y ∈ F.scope.names, y.2 = .free → ∃ c, cells.lookup y.1 = some c := fun y hy e => fz.has _ (hfree y hy e)
  have lj : js.length = fr.length := by
    have q := congrArg List.length hjs
    rw [List.length_map, List.length_map] at q
    exact q
  have lw : js.length = ws.length := by
    have q := congrArg List.length hws
    rw [List.length_map, List.length_map] at q
    exact q
  refine ⟨e1, e2, fun p hp => ?_, fun x y c h1 h2 => fz.inj x y c (clo_cm hf (ecl ▸ h1)) (clo_cm hf (ecl ▸ h2)), by omega, fun i y hi => ?_⟩
  · rw [ecl] at hp
    rcases cloFrom_mem (show (p.1, p.2) ∈ _ from hp) with hm | ⟨h1, h2⟩
    · cases hm
    · obtain ⟨c1, hc⟩ := hf _ h1 rfl
      have hc : cells.lookup p.1 = some c1 := hc
      have e3 : p.2 = c1 := by
        rw [h2, hc] <;> rfl
      rw [e3]
      exact fz.cel _ _ hc
  · have hy := hfr y (List.mem_of_getElem? hi)
    have k := hfree _ hy rfl
    obtain ⟨c, hc⟩ := fz.has y k
    have ej : (js.map fun j => N[j]?)[i]? = some (some y) := by
      rw [hjs, List.getElem?_map, hi] <;> rfl
    rw [List.getElem?_map] at ej
    cases hj : js[i]? with
    | none =>
      rw [hj] at ej
      cases ej
    | some j =>
      rw [hj] at ej
      have hN : N[j]? = some y := Option.some.inj ej
      have ew : (ws.map some)[i]? = some (slotAt σ j) := by
        rw [← hws, List.getElem?_map, hj] <;> rfl
      rw [List.getElem?_map] at ew
      cases hw : ws[i]? with
      | none =>
        rw [hw] at ew
        cases ew
      | some v =>
        rw [hw] at ew
        have hv : slotAt σ j = some v := (Option.some.inj ew).symm
        exact ⟨c, v, by rw [ecl]; exact clo_has hf hy hc, rfl, fz.val y c j v hc k hN (slotAt_some hv)⟩
/-- tables of two forms -/
theorem tabsN_of {T : List (Addr × Str)} {H : Hp} (t : Tabs T H) : TabsN (T.map fun p => (p.1, fun _ _ => p.2)) H := fun p hp => by
  obtain ⟨q, hq, rfl⟩ := List.mem_map.mp hp
  exact TabN.of (t q hq)
theorem tabs_of {T : List (Addr × Str)} {H : Hp} (t : TabsN (T.map fun p => (p.1, fun _ _ => p.2)) H) : Tabs T H := fun p hp => TabN.to (t _ (List.mem_map.mpr ⟨p, hp, rfl⟩))
end CLO
set_option Elab.async false
set_option linter.all false
set_option maxRecDepth 100000
set_option maxHeartbeats 4000000
/-! == of an instance with itself, its class without an own == -/
namespace OBQ
open PySem PySem.Spec PyProof.Rows L2 CM PySem.SeqAt HN
section
variable {prog : Program} {w : World} {A : Around} {E : Value → Shared → Prop} {s : Shared} {K : PySem.W.Frag} {x C : Addr} {ox : Obj} {od : Option Obj}
theorem call_same {Q : Value → Shared → Prop} (X : K.In s.heap) (I : PySem.W.InstAt s.heap x ox C od) (hm : PySem.W.mroIn K C (.type "object") = some true) (hq : Q (.bool true) s) :
    wpAny (model prog w) A (call (.builtin "object.__eq__") [.ref x, .ref x]) Q E s :=
  wpAny_call (codeAny_call_builtin F.cmp_object.eq.plain F.cmpEntry_eq (PySem.W.check_slot F.cmpKind_eq F.cmpSplit_eq (I.type.andThen (PySem.W.looks_mroIn X hm)) (F.cmpArgs_eq _ _) (objEq_entry_same hq)))
theorem rc_self (hu : A.units < cLine) (X : K.In s.heap) (I : PySem.W.InstAt s.heap x ox C od) (hm : PySem.W.mroIn K C (.type "object") = some true) (hs : PySem.W.findIn K (.ref C) "__eq__" = some (some (.builtin "object.__eq__"))) {b : Bool} (hb : PySem.W.subIn K (.ref C) (.ref C) = some b) :
    RcAt A s (.ref x) (.ref x) true := fun prog w E Q h => by
  have one : wpAny (model prog w) A (tryCompare (.ref x) "__eq__" (.ref x)) (fun r s' => r = some (.bool true) ∧ s' = s) E s := by
    unfold tryCompare
    exact wpAny_bind (ifBound_objEq X I hs (call_same X I hm (wpAny_pure ⟨rfl, rfl⟩)))
  simp only [richCompare, cmpInfo_Eq, oneThing_ref]
  refine wpAny_holding (wpAny_bind (wpAny_cRoomFor hu ?_))
  refine wpAny_bind (I.type.here ?_)
  refine wpAny_bind (I.type.here ?_)
  split
  · refine wpAny_bind ((PySem.W.looks_subIn X hb).here ?_)
    cases b with
    | false =>
      simp only [Bool.false_eq_true, if_false]
      refine wpAny_bind (m := tryCompare (.ref x) _ (.ref x)) (wpAny_mono one (fun r s1 z => ?_) fun _ _ e => e)
      obtain ⟨z1, z2⟩ := z
      subst z1
      subst z2
      exact wpAny_pure h
    | true =>
      simp only [if_true]
      refine wpAny_bind (m := tryCompare (.ref x) _ (.ref x)) (wpAny_mono one (fun r s1 z => ?_) fun _ _ e => e)
      obtain ⟨z1, z2⟩ := z
      subst z1
      subst z2
      exact wpAny_bind (wpAny_rule (wpAny_pure h))
  · refine wpAny_bind (wpAny_pure ?_)
    simp only [Bool.false_eq_true, if_false]
    refine wpAny_bind (m := tryCompare (.ref x) _ (.ref x)) (wpAny_mono one (fun r s1 z => ?_) fun _ _ e => e)
    obtain ⟨z1, z2⟩ := z
    subst z1
    subst z2
    exact wpAny_pure h
end
/-- what is asked of a class without an own == -/
structure NoEq (K : PySem.W.Frag) (C : Addr) : Prop where
  mr : PySem.W.mroIn K C (.type "object") = some true
  eq : PySem.W.findIn K (.ref C) "__eq__" = some (some (.builtin "object.__eq__"))
  sb : ∃ b, PySem.W.subIn K (.ref C) (.ref C) = some b
/-- o == o -/
def rSelf (K : PySem.W.Frag) : R2 := fun x y H Q => ∃ a C dx fs, x = .ref a ∧ y = .ref a ∧ H a = some (.ins C dx fs) ∧ NoEq K C ∧ Q (.bl true) H
theorem op_eqSelf {X : Cx} (hu : X.A.units < cLine) : OpR X (compareOp .Eq) (rSelf X.K) := by
  intro pins s σ H x y v u Q I rx ry h
  obtain ⟨a, C, dx, fs, rfl, rfl, ha, ne, q⟩ := h
  obtain ⟨b, sb⟩ := ne.sb
  cases (show v = Value.ref a from rx)
  cases (show u = Value.ref a from ry)
  obtain ⟨mA, O, _⟩ := ins_get I.hok ha
  obtain ⟨od, J, _⟩ := O.look
  show wpAny _ X.A (richCompare .Eq (.ref a) (.ref a)) _ _ s
  exact rc_self hu I.kIn J ne.mr ne.eq sb _ _ _ _ ⟨.bl true, H, I, rfl, q⟩
end OBQ
set_option Elab.async false
set_option linter.all false
set_option maxRecDepth 100000
set_option maxHeartbeats 4000000
/-! a list comprehension without tests whose element may speak of the block's cells: functions made in a comprehension -/
namespace CMP
open PySem PySem.Spec PyProof.Rows L2 CM
/-- the block's environment, entered at s -/
abbrev benv (X : Cx) (s : Shared) (scope : Scope) : Env := compEnvC scope (cellsFrom (s.heap.objs.size + 1) scope.names (cloFrom X.env.cells scope.names [])) s.heap.objs.size X.env
section
variable {X : Cx}
/-- what holds between two turns -/
def Btw (X : Cx) (ce : Env) (scope : Scope) (fp : List Addr) (own : List (Str × Nat)) (σ : L2.St) (tn : Nat → Heap → Prop) (W : Nat → Nat → Hp → Prop) (s0 : Shared) (H0 : Hp) (n : Nat) (s : Shared) : Prop :=
  ∃ i G, Inv (X.blk s0 H0 scope ce fp) [] (wipe σ (own.map (·.2))) G s ∧ tn i s.heap ∧ (∀ b ∈ fp, G b = none) ∧ W i n G
/-- the own objects of the iterator may turn -/
theorem own_ok {scope : Scope} {ce : Env} {fp : List Addr} {σ : L2.St} {G H0 : Hp} {s s0 : Shared} (J : Inv (X.blk s0 H0 scope ce fp) [] σ G s) (n : ∀ b ∈ fp, G b = none) : ∀ b ∈ fp, FpOk (X.blk s0 H0 scope ce fp) [] G b := fun b hb =>
  have q := J.ok.exf b hb
  ⟨n b hb, q.1, J.ok.exfs b hb, Or.inl hb, fun x c e => q.2 x c e, fun p hp => by cases (show p ∈ ([] : List (Addr × Obj)) from hp)⟩
/-- one turn that yields -/
theorem turn {tg elt : Expr} {scope : Scope} {own : List (Str × Nat)} {fp : List Addr} {ce : Env} {g : TG} {te : TE} {σ : L2.St} {J : It} {it D : Addr} {tn : Nat → Heap → Prop} {W : Nat → Nat → Hp → Prop} {s0 s : Shared} {H0 G : Hp} {i m : Nat} {R : Result → Shared → Prop} (hc : X.calm = true)
    (T : Turn X.prog X.w X.K tg J fp it tn) (pg : PG (X.blk s0 H0 scope ce fp) tg g) (pe : PE (X.blk s0 H0 scope ce fp) elt te) (K0 : Inv (X.blk s0 H0 scope ce fp) [] (wipe σ (own.map (·.2))) G s) (k1 : tn i s.heap) (k2 : ∀ b ∈ fp, G b = none) (go : J.go i G) {Nx : Hp → Prop}
    (hNx : ∀ H', Nx H' → ∃ m', m' < m ∧ W (i + 1) m' H') (step : ∀ x H', J.yld i G x H' → g x (wipe σ (own.map (·.2))) H' fun σ2 H2 => wipe σ2 (own.map (·.2)) = wipe σ (own.map (·.2)) ∧ te σ2 H2 fun y H4 => ∃ acc, H4 D = some (.lst acc) ∧ acc.length < sizeLine ∧ Nx (upd H4 D (.lst (acc ++ [y])))) :
    wpAny (model X.prog X.w) X.A (pyNext (.ref it)) (fun r s1 => match r with
      | none => R (.ok .next) s1
      | some v => wpAny (model X.prog X.w) X.A (letOwnedTupleGo tg (.ref it) v) (fun _ s2 => wpAny (model X.prog X.w) X.A (assign tg ce v) (fun _ s3 =>
          wpAny (model X.prog X.w) X.A (forIn ([] : List Expr) true fun c r => if r = true then do let ok ← isTrue c ce (eval c ce); pure (ForInStep.yield ok) else pure (ForInStep.yield r)) (fun ok s4 =>
            if ok = true then wpAny (model X.prog X.w) X.A (eval elt ce) (fun x s5 =>
              wpAny (model X.prog X.w) X.A (call (.builtin "list.append") [.ref D, x]) (fun _ s6 => ∃ m', m' < m ∧ Btw X ce scope fp own σ tn W s0 H0 m' s6) (notedBy (model X.prog X.w) X.A ce fun e s' => R (.error e) s') s5) (notedBy (model X.prog X.w) X.A ce fun e s' => R (.error e) s') s4
            else ∃ m', m' < m ∧ Btw X ce scope fp own σ tn W s0 H0 m' s4) (notedBy (model X.prog X.w) X.A ce fun e s' => R (.error e) s') s3) (notedBy (model X.prog X.w) X.A ce fun e s' => R (.error e) s') s2) (notedBy (model X.prog X.w) X.A ce fun e s' => R (.error e) s') s1) (notedBy (model X.prog X.w) X.A ce fun e s' => R (.error e) s') s := by
  refine thnF (T.item (X.blk s0 H0 scope ce fp) rfl rfl rfl hc i [] s _ G (fun _ _ => False) K0 (own_ok K0 k2) k1 go) fun r s1 hr => ?_
  obtain ⟨u, rfl, hu⟩ := hr
  refine thnF hu fun _ s2 h2 => ?_
  obtain ⟨x, G2, K2, rx, yx, st2, n2⟩ := h2
  refine thnF (pg.run _ s2 _ G2 x u _ (K2.pinned (own_ok K2 n2) (T.obj _ _ st2)) rx (step x G2 yx)) fun _ s3 h3 => ?_
  obtain ⟨σ3, G3, K3, w3, q3⟩ := h3
  refine wpAny_tests_nil ?_
  refine thnF (pe.run _ s3 σ3 G3 _ K3 q3) fun z s4 h4 => ?_
  obtain ⟨y, G4, K4, ry, acc, hD, hz, nx⟩ := h4
  refine app_ok (X := X.blk s0 H0 scope ce fp) K4 hD hz ry fun s5 K5 => ?_
  obtain ⟨m', lt, w'⟩ := hNx _ nx
  have held : ∀ b ∈ fp, ∀ o, s2.heap.get? b = some o → s5.heap.get? b = some o ∧ (upd G4 D (.lst (acc ++ [y]))) b = none := fun b hb o e =>
    have q := K5.pin (b, o) (List.mem_append_right _ (List.mem_append_right _ (mem_pinsAt hb e)))
    ⟨q.1, q.2.1⟩
  have len : (wipe σ (own.map (·.2))).length = σ3.length := (congrArg List.length w3).symm.trans (wipe_length _ _)
  refine ⟨m', lt, i + 1, _, (K5.unpinned (pins := [])).weak len fun j v e => ?_, T.keep _ _ _ st2 fun b hb o e => (held b hb o e).1, fun b hb => ?_, w'⟩
  · rw [← w3] at e
    exact (wipe_some e).1
  · obtain ⟨o, e, _⟩ := T.obj _ _ st2 b hb
    exact (held b hb o e).2
/-- the comprehension, its element known in the block as it is entered -/
theorem whole {pins : List (Addr × Obj)} {s : Shared} {σ : L2.St} {H : Hp} {Q : VK} {elt tg iter : Expr} {scope : Scope} {own : List (Str × Nat)} {pos pos' : Pos} {wi : TI} {g : TG} {te : TE} {use : Option (Value → Sem Unit)} {Qf : Value → Shared → Prop} (hc : X.calm = true) (hN : X.N.Nodup)
    (I : Inv X pins σ H s) (hi : PI X tg iter wi) (ok : BlkOk X.N X.env.scope scope own) (hg : ∀ (s0 : Shared) (H0 : Hp) (fp : List Addr), PG (X.blk s0 H0 scope (benv X s0 scope) fp) tg g) (he : ∀ (s0 : Shared) (H0 : Hp) (fp : List Addr), PE (X.blk s0 H0 scope (benv X s0 scope) fp) elt te)
    (hs : ∀ x, foldedSetIterable iter X.env x = pure x) (h : tLc wi g tYes te (own.map (·.2)) σ H Q)
    (fin : ∀ D C s' m G, Inv X pins σ G s' → Q (.ref D) G → s'.heap.Ns C m → FpOk X pins G C → compPost (model X.prog X.w) X.A X.xe use Qf (.ref D) C (.ok .next) s') :
    wpAny (model X.prog X.w) X.A (comprehension (.ListComp elt [⟨tg, iter, [], 0⟩] scope pos) scope X.env pos' (newList []) false (eval iter X.env) use) Qf X.xe s := by
  have hf : ∀ y ∈ scope.names, y.2 = .free → ∃ c, X.env.cells.lookup y.1 = some c := fun y hy e => (ok.free y hy e).elim (fun k => I.ok.has _ (.inl k)) fun k => I.ok.has _ (.inr k)
  refine wpAny_comprehension_free (use := use) rfl hs (closure_ok hf) ok.kind (fun y hy e => by rw [ok.uniq y hy, e]) (thn (hi.run pins s σ H _ I h) fun xv s1 hx => thn hx fun itv s2 h2 => ?_)
  obtain ⟨it, fp, tn, J, G, rfl, I2, T, k2, f2, q⟩ := h2
  refine wpAny_newObj_type (newEnv_comp ?_) (by show 0 ≤ sizeLine; decide)
  have nD : G s2.heap.objs.size = none := I2.hok.fresh (Nat.le_refl _)
  obtain ⟨W, ⟨m0, w0⟩, go⟩ := q _ nD
  -- the list stands
  have up : ∀ b o, s2.heap.get? b = some o → (s2.heap.push { cls := .type "list", data := .seq ([] : List Value).toArray }).get? b = some o := fun b o e => Heap.get?_push_of_some _ e
  generalize e3 : ({ s2 with heap := s2.heap.push { cls := .type "list", data := .seq ([] : List Value).toArray } } : Shared) = s3
  have I3 : Inv X pins σ (upd G s2.heap.objs.size (.lst [])) s3 := by
    subst e3
    exact I2.laid (t' := s2.toks) up (Nat.le_refl _) ⟨Nat.zero_le _, [], 0, .nil, Heap.get?_push_size _ rfl⟩
  have f3 : ∀ b ∈ fp, FpOk X pins (upd G s2.heap.objs.size (.lst [])) b ∧ b < s3.heap.objs.size := fun b hb => by
    obtain ⟨o, e, _⟩ := T.obj _ _ k2 b hb
    have lt := Heap.lt_size e
    subst e3
    exact ⟨⟨(upd_ne (Nat.ne_of_lt lt)).trans (f2 b hb).1, (f2 b hb).2⟩, by rw [Heap.size_push]; exact Nat.lt_succ_of_lt lt⟩
  have k3 : tn 0 s3.heap := T.keep _ _ _ k2 fun b _ o e => by
    subst e3
    exact up b o e
  generalize hD : s2.heap.objs.size = D at nD w0 go I3 f3
  generalize upd G D (.lst []) = G3 at w0 I3 f3
  have I4 := block_start I3 ok hN f3
  have k4 := T.keep _ _ _ k3 fun b _ o e => pushCells_keeps scope.names (s3.heap.push { cls := .type "dict", data := .dict #[] }) b o (Heap.get?_push_of_some _ e)
  show codeAny _ _ (.compStart (.ListComp elt [⟨tg, iter, [], 0⟩] scope pos) 0 (.ref it) (.ref D) (benv X s3 scope)) (compPost (model X.prog X.w) X.A X.xe use Qf (.ref D) s3.heap.objs.size) { s3 with heap := pushCells (s3.heap.push { cls := .type "dict", data := .dict #[] }) scope.names }
  have pg := hg s3 G3 fp
  have pe := he s3 G3 fp
  have loop : codeAny (model X.prog X.w) X.A (.compLoop (.ListComp elt [⟨tg, iter, [], 0⟩] scope pos) 0 (.ref it) (.ref D) (benv X s3 scope)) (compPost (model X.prog X.w) X.A X.xe use Qf (.ref D) s3.heap.objs.size) { s3 with heap := pushCells (s3.heap.push { cls := .type "dict", data := .dict #[] }) scope.names } := by
    refine compLoop_any (Btw X (benv X s3 scope) scope fp own σ tn W s3 G3) ?_ m0 ⟨0, G3, I4, k4, fun b hb => (f3 b hb).1.1, w0⟩
    rintro n s5 ⟨i, G5, J5, k5, n5, w5⟩
    rcases go i n G5 w5 with ⟨stop, qq⟩ | ⟨yes, Nx, hNx, step⟩
    · refine thnF (T.done (X.blk s3 G3 scope (benv X s3 scope) fp) rfl rfl rfl hc i [] s5 _ G5 (fun _ _ => False) J5 (own_ok J5 n5) k5 stop) fun r s6 hr => ?_
      obtain ⟨rfl, J6⟩ := hr
      have I6 : Inv X pins σ G5 s6 := I3.call' (ch := fp) J6.os J6.base J6.hok J6.bare fun b hb => ⟨(f3 b hb).1.2.2.2.1, (f3 b hb).1.2.1, (f3 b hb).1.2.2.2.2.1, (f3 b hb).1.2.2.2.2.2⟩
      obtain ⟨m, hm, _⟩ := J6.loc
      exact fin D s3.heap.objs.size s6 m G5 I6 qq hm (I3.fpOk (Nat.le_refl _) J6.free)
    · exact turn hc T pg pe J5 k5 n5 yes hNx fun x G' y => step x G' y
  exact codeAny_compStart_list loop (T.self X.A 0 _ _ _ k4 loop)
theorem pe_lcA {elt tg iter : Expr} {scope : Scope} {own : List (Str × Nat)} {pos : Pos} {wi : TI} {g : TG} {te : TE} (hc : X.calm = true) (hN : X.N.Nodup) (hi : PI X tg iter wi) (ok : BlkOk X.N X.env.scope scope own)
    (hg : ∀ (s0 : Shared) (H0 : Hp) (fp : List Addr), PG (X.blk s0 H0 scope (benv X s0 scope) fp) tg g) (he : ∀ (s0 : Shared) (H0 : Hp) (fp : List Addr), PE (X.blk s0 H0 scope (benv X s0 scope) fp) elt te) (hs : ∀ x, foldedSetIterable iter X.env x = pure x := by intro _; rfl) :
    PE X (.ListComp elt [⟨tg, iter, [], 0⟩] scope pos) (tLc wi g tYes te (own.map (·.2))) := by
  refine ⟨fun pins s σ H Q I h => ?_⟩
  rw [eval_ListComp]
  refine whole hc hN I hi ok hg he hs h fun D C s' m G I' q hn f => ⟨m, hn, fun h'' sb => ?_⟩
  obtain ⟨f0, f1, f2, f3, f4, f5⟩ := f
  exact ⟨.ref D, G, I'.turned (t' := s'.toks) (fun b o hb e => (sb.2 b hb).trans e) f0 f1 f3 f4 f5, rfl, q⟩
/-- name = [..], the name a local of the def -/
theorem ps_setLcA {i : Nat} {y : Str} {py : Pos} {elt tg iter : Expr} {scope : Scope} {own : List (Str × Nat)} {pos spos : Pos} {wi : TI} {g : TG} {te : TE} (hc : X.calm = true) (hN : X.N.Nodup) (hy : X.N[i]? = some y) (hl : X.env.scope.names.lookup y = some .local)
    (hw : swapsWith (.ListComp elt [⟨tg, iter, [], 0⟩] scope pos) (some (.Name y py)) spos.line X.env = pure true) (hi : PI X tg iter wi) (ok : BlkOk X.N X.env.scope scope own)
    (hg : ∀ (s0 : Shared) (H0 : Hp) (fp : List Addr), PG (X.blk s0 H0 scope (benv X s0 scope) fp) tg g) (he : ∀ (s0 : Shared) (H0 : Hp) (fp : List Addr), PE (X.blk s0 H0 scope (benv X s0 scope) fp) elt te) (hs : ∀ x, foldedSetIterable iter X.env x = pure x := by intro _; rfl) :
    PS X (.Assign [.Name y py] (.ListComp elt [⟨tg, iter, [], 0⟩] scope pos) spos) (tAsg (tLc wi g tYes te (own.map (·.2))) (gName i)) := by
  refine ⟨fun pins s σ H D I h => ?_⟩
  have h : tLc wi g tYes te (own.map (·.2)) σ H (fun x H1 => D.nx (σ.set i (some x)) H1) := h
  rw [exec_Assign_Name_used _ _ _ _ hw]
  refine wpAny_bind (wpAny_standAt (wpAny_bind (m := do let _ ← comprehension (.ListComp elt [⟨tg, iter, [], 0⟩] scope pos) scope X.env (firstIterPos [⟨tg, iter, [], 0⟩] pos) (newList []) false (eval iter X.env) (some (assign (.Name y py) X.env))) ?_))
  refine wpAny_bind (thn (whole (Qf := fun _ z => SP X pins D .next z) hc hN I hi ok hg he hs h fun L C s1 m G J q hn f => ?_) fun _ z hz => wpAny_pure (wpAny_pure hz))
  refine wpAny_assign_Name (store_ok2 (v := V.ref L) J hN hy (.inl hl) rfl (fun s2 J2 z => ?_) (.inr hl))
  obtain ⟨a, sb, ha⟩ := z
  obtain ⟨q0, q1, q2, q3, q4, q5⟩ := f
  have ne : C ≠ a := ha.elim (fun e => e ▸ q1) fun e => Ne.symm (q4 y a e)
  exact ⟨m, hn.sameBut sb ne, fun h3 sb3 => ⟨_, G, J2.turned (t' := s2.toks) (fun b o hb e => (sb3.2 b hb).trans e) q0 q1 q3 q4 q5, q⟩⟩
end
end CMP
namespace CLO
open PySem PySem.Spec PyProof.Rows L2 CM LamX NdefX
/-- a lambda made in a comprehension of the def, seen where the def's cells stand frozen -/
theorem clo_of2 {sc csc lsc : Scope} {cells : List (Str × Addr)} {N fr : List Str} {σ : L2.St} {H Hz : Hp} {f c' : Addr} {qual : Str} {params : Arguments} {b : Expr} {js : List Nat} {ws : List V} (fz : Frz sc cells N σ H Hz)
    (e1 : Hz f = some (LamO f ⟨"<lambda>", qual, params, [], lsc, cloFrom (cloFrom cells csc.names []) lsc.names [], c'⟩ b)) (e2 : Hz c' = some (CodeO c' qual)) (h1 : ∀ y ∈ csc.names, y.2 = .free → sc.names.lookup y.1 = some .cell) (h2 : ∀ y ∈ lsc.names, y.2 = .free → (y.1, NameKind.free) ∈ csc.names)
    (hfr : ∀ y ∈ fr, (y, NameKind.free) ∈ lsc.names) (hjs : js.map (fun j => N[j]?) = fr.map some) (hws : js.map (slotAt σ) = ws.map some) :
    Clo Hz f ⟨"<lambda>", qual, params, [], lsc, cloFrom (cloFrom cells csc.names []) lsc.names [], c'⟩ b fr ws := by
  have f1 : ∀ y ∈ csc.names, y.2 = .free → ∃ c, cells.lookup y.1 = some c := fun y hy e => fz.has _ (h1 y hy e)
  have up : ∀ y c, (y, NameKind.free) ∈ csc.names → cells.lookup y = some c → (cloFrom cells csc.names []).lookup y = some c := fun y c hy hc => clo_has f1 hy hc
  have dn : ∀ {y c}, (cloFrom cells csc.names []).lookup y = some c → cells.lookup y = some c := fun e => clo_cm f1 e
  have f2 : ∀ y ∈ lsc.names, y.2 = .free → ∃ c, (cloFrom cells csc.names []).lookup y.1 = some c := fun y hy e => by
    have m := h2 y hy e
    obtain ⟨c, hc⟩ := f1 _ m rfl
    exact ⟨c, up _ _ m hc⟩
  have lj : js.length = fr.length := by
    have q := congrArg List.length hjs
    rw [List.length_map, List.length_map] at q
    exact q
  have lw : js.length = ws.length := by
    have q := congrArg List.length hws
    rw [List.length_map, List.length_map] at q
    exact q
  refine ⟨e1, e2, fun p hp => ?_, fun x y c z1 z2 => fz.inj x y c (dn (clo_cm f2 z1)) (dn (clo_cm f2 z2)), by omega, fun i y hi => ?_⟩
  · rcases cloFrom_mem (show (p.1, p.2) ∈ _ from hp) with hm | ⟨z1, z2⟩
    · cases hm
    · obtain ⟨c1, hc⟩ := f2 _ z1 rfl
      have hc : (cloFrom cells csc.names []).lookup p.1 = some c1 := hc
      have e3 : p.2 = c1 := by
        rw [z2, hc] <;> rfl
      rw [e3]
      exact fz.cel _ _ (dn hc)
  · have hy := hfr y (List.mem_of_getElem? hi)
    have m := h2 _ hy rfl
    have k := h1 _ m rfl
    obtain ⟨c, hc⟩ := fz.has y k
    have ej : (js.map fun j => N[j]?)[i]? = some (some y) := by
      rw [hjs, List.getElem?_map, hi] <;> rfl
    rw [List.getElem?_map] at ej
    cases hj : js[i]? with
    | none =>
      rw [hj] at ej
      cases ej
    | some j =>
      rw [hj] at ej
      have hN : N[j]? = some y := Option.some.inj ej
      have ew : (ws.map some)[i]? = some (slotAt σ j) := by
        rw [← hws, List.getElem?_map, hj] <;> rfl
      rw [List.getElem?_map] at ew
      cases hw : ws[i]? with
      | none =>
        rw [hw] at ew
        cases ew
      | some v =>
        rw [hw] at ew
        have hv : slotAt σ j = some v := (Option.some.inj ew).symm
        exact ⟨c, v, clo_has f2 hy (up _ _ m hc), rfl, fz.val y c j v hc k hN (slotAt_some hv)⟩
end CLO
set_option Elab.async false
set_option linter.all false
set_option maxRecDepth 100000
set_option maxHeartbeats 4000000
namespace TU
open PySem PySem.Spec PyProof.Rows L2 CM
/-! ### sum, max, min of a tuple of ints -/
section
variable {prog : Program} {w : World} {A : Around} {E : Value → Shared → Prop} {s : Shared} {l : Addr} {xs : Array (Int × Tok)}
theorem iter_tup {Q : Value → Shared → Prop} (hl : s.heap.IsTuple l (intItems xs))
    (h : ∀ s₂ : Shared, s₂ = { s with heap := s.heap.push { cls := .type "tuple_iterator", data := .fields #[.ref l, .int 0 0] } } →
      (s₂.heap.IsTupleIter s.heap.objs.size l 0 ∧ s₂.heap.IsTuple l (intItems xs)) → (∀ b ∈ [s.heap.objs.size, l], b < s₂.heap.objs.size) → l ≠ s.heap.objs.size → Q (.ref s.heap.objs.size) s₂) :
    wpAny (model prog w) A (pyIter (.ref l)) Q E s := by
  have hlt : l < s.heap.objs.size := by obtain ⟨_, e, _⟩ := hl; exact Heap.lt_size e
  refine wpAny_pyIter_tuple hl (h _ rfl ⟨⟨_, Heap.get?_push_size _ rfl, rfl, rfl⟩, hl.push _⟩ (fun b hb => ?_) (Nat.ne_of_lt hlt))
  show b < (s.heap.push _).objs.size
  rw [Heap.size_push]
  rcases List.mem_cons.mp hb with rfl | hb
  · exact Nat.lt_succ_self _
  · rcases List.mem_cons.mp hb with rfl | hb
    · exact Nat.lt_succ_of_lt hlt
    · cases hb
theorem old_keptT {h' : Heap} (hk : ∀ b o, b ∉ [s.heap.objs.size] → (s.heap.push { cls := .type "tuple_iterator", data := .fields #[.ref l, .int 0 0] }).get? b = some o → h'.get? b = some o) :
    ∀ b o, s.heap.get? b = some o → h'.get? b = some o := fun b o e => by
  refine hk b o (fun hm => ?_) (Heap.get?_push_of_some _ e)
  rcases List.mem_cons.mp hm with e1 | hm
  · exact absurd (e1 ▸ Heap.lt_size e) (Nat.lt_irrefl _)
  · cases hm
theorem max_intTup {Q : Value → Shared → Prop} (hh : A.handled = none) (hl : s.heap.IsTuple l (intItems xs)) (hne : 0 < xs.size)
    (h : ∀ v h' tk, (intItems xs)[argBest (fun i j => decide (numAt xs i > numAt xs j)) (xs.size - 1)]? = some v → (∀ b o, s.heap.get? b = some o → h'.get? b = some o) → Q v { s with heap := h', toks := tk }) :
    wpAny (model prog w) A (call (.builtin "max") [.ref l]) Q E s := by
  refine call_max_walk (iter_tup hl fun s₂ e st hfp hlI => ?_)
  subst e
  refine ⟨_, _, _, _, _, _, _, rfl, Walks.tuple (A := A.in1) hh _ l hlI (intItems xs), st, hfp, by simpa [intItems] using hne, CmpOf.ints_gt (numAt xs) (fun _ _ => intItems_at), fun v h' tk hP hk => ?_⟩
  exact h v h' tk (by simpa [intItems] using hP) (old_keptT hk)
theorem min_intTup {Q : Value → Shared → Prop} (hh : A.handled = none) (hl : s.heap.IsTuple l (intItems xs)) (hne : 0 < xs.size)
    (h : ∀ v h' tk, (intItems xs)[argBest (fun i j => decide (numAt xs i < numAt xs j)) (xs.size - 1)]? = some v → (∀ b o, s.heap.get? b = some o → h'.get? b = some o) → Q v { s with heap := h', toks := tk }) :
    wpAny (model prog w) A (call (.builtin "min") [.ref l]) Q E s := by
  refine call_min_walk (iter_tup hl fun s₂ e st hfp hlI => ?_)
  subst e
  refine ⟨_, _, _, _, _, _, _, rfl, Walks.tuple (A := A.in1) hh _ l hlI (intItems xs), st, hfp, by simpa [intItems] using hne, CmpOf.ints_lt (numAt xs) (fun _ _ => intItems_at), fun v h' tk hP hk => ?_⟩
  exact h v h' tk (by simpa [intItems] using hP) (old_keptT hk)
theorem sum_intTup {Q : Value → Shared → Prop} (hh : A.handled = none) (hl : s.heap.IsTuple l (intItems xs))
    (h : ∀ h' tk t', (∀ b o, s.heap.get? b = some o → h'.get? b = some o) → Q (.int (preSum (numAt xs) xs.size) t') { s with heap := h', toks := tk }) :
    wpAny (model prog w) A (call (.builtin "sum") [.ref l]) Q E s := by
  refine call_sum_walkG (iter_tup hl fun s₂ e st hfp hlI => ?_)
  subst e
  refine ⟨_, _, _, _, _, _, numAt xs, rfl, Walks.tuple (A := A.in1) hh _ l hlI (intItems xs), st, hfp, (fun _ _ => intItems_at), fun h' tk t' hk => ?_⟩
  have := h h' tk t' (old_keptT hk)
  simpa [intItems] using this
end
section
variable {prog : Program} {w : World} {A : Around} {E : Value → Shared → Prop} {s : Shared} {l : Addr} {its : List Value} {ns : List Int} {Q : Value → Shared → Prop}
theorem sum_rawT (hh : A.handled = none) (hl : s.heap.IsTuple l its.toArray) (hi : IntsAre its ns)
    (h : ∀ h' tk t', (∀ b o, s.heap.get? b = some o → h'.get? b = some o) → Q (.int ns.sum t') { s with heap := h', toks := tk }) : wpAny (model prog w) A (call (.builtin "sum") [.ref l]) Q E s := by
  obtain ⟨xs, e⟩ := hi.allInts.items
  have hn : numsOf (intItems xs).toList = ns := by rw [← e]; exact hi.numsOf
  rw [nums_intItems] at hn
  rw [e] at hl
  refine sum_intTup hh hl fun h' tk t' hk => ?_
  have := h h' tk t' hk
  rw [preSum_eq, List.take_of_length_le (by simp), hn]; exact this
theorem max_rawT (hh : A.handled = none) (hl : s.heap.IsTuple l its.toArray) (hi : IntsAre its ns) (hne : 0 < ns.length)
    (h : ∀ h' tk M t', (∀ b o, s.heap.get? b = some o → h'.get? b = some o) → M ∈ ns → (∀ a, a ∈ ns → a ≤ M) → Q (.int M t') { s with heap := h', toks := tk }) : wpAny (model prog w) A (call (.builtin "max") [.ref l]) Q E s := by
  obtain ⟨xs, e⟩ := hi.allInts.items
  have hn : numsOf (intItems xs).toList = ns := by rw [← e]; exact hi.numsOf
  rw [nums_intItems] at hn
  subst hn
  rw [e] at hl
  have hsz : 0 < xs.size := by simpa using hne
  refine max_intTup hh hl hsz fun v h' tk hv hk => ?_
  obtain ⟨t, rfl⟩ := intItems_at hv
  obtain ⟨h1, h2⟩ := argBest_gt (numAt xs) (xs.size - 1)
  refine h h' tk _ t hk ?_ fun a ha => ?_
  · rw [numAt_eq]; exact PySem.getD_mem (by rw [List.length_map, Array.length_toList]; omega)
  · obtain ⟨j, hj, rfl⟩ := mem_getD ha
    rw [List.length_map, Array.length_toList] at hj
    rw [← numAt_eq]; exact h2 j (by omega)
theorem min_rawT (hh : A.handled = none) (hl : s.heap.IsTuple l its.toArray) (hi : IntsAre its ns) (hne : 0 < ns.length)
    (h : ∀ h' tk M t', (∀ b o, s.heap.get? b = some o → h'.get? b = some o) → M ∈ ns → (∀ a, a ∈ ns → M ≤ a) → Q (.int M t') { s with heap := h', toks := tk }) : wpAny (model prog w) A (call (.builtin "min") [.ref l]) Q E s := by
  obtain ⟨xs, e⟩ := hi.allInts.items
  have hn : numsOf (intItems xs).toList = ns := by rw [← e]; exact hi.numsOf
  rw [nums_intItems] at hn
  subst hn
  rw [e] at hl
  have hsz : 0 < xs.size := by simpa using hne
  refine min_intTup hh hl hsz fun v h' tk hv hk => ?_
  obtain ⟨t, rfl⟩ := intItems_at hv
  obtain ⟨h1, h2⟩ := argBest_lt (numAt xs) (xs.size - 1)
  refine h h' tk _ t hk ?_ fun a ha => ?_
  · rw [numAt_eq]; exact PySem.getD_mem (by rw [List.length_map, Array.length_toList]; omega)
  · obtain ⟨j, hj, rfl⟩ := mem_getD ha
    rw [List.length_map, Array.length_toList] at hj
    rw [← numAt_eq]; exact h2 j (by omega)
end
section
variable {X : Cx}
def rSumT (K : PySem.W.Frag) : List V → Hp → VK → Prop := fun vs H Q => ∃ (a : Addr) (ns : List Int), vs = [V.ref a] ∧ SqT K H a (ns.map V.int) ∧ Q (.int ns.sum) H
def rMaxT (K : PySem.W.Frag) : List V → Hp → VK → Prop := fun vs H Q => ∃ (a : Addr) (ns : List Int), vs = [V.ref a] ∧ SqT K H a (ns.map V.int) ∧ 0 < ns.length ∧ ∀ m, m ∈ ns → (∀ y, y ∈ ns → y ≤ m) → Q (.int m) H
def rMinT (K : PySem.W.Frag) : List V → Hp → VK → Prop := fun vs H Q => ∃ (a : Addr) (ns : List Int), vs = [V.ref a] ∧ SqT K H a (ns.map V.int) ∧ 0 < ns.length ∧ ∀ m, m ∈ ns → (∀ y, y ∈ ns → m ≤ y) → Q (.int m) H
theorem cr_sumT {K : PySem.W.Frag} (hc : X.calm = true) (hK : X.K = K := by rfl) : CallR X (.builtin "sum") (rSumT K) := by
  subst hK
  intro pins s σ H vs us Q I r h
  obtain ⟨a, ns, rfl, hs, q⟩ := h
  obtain ⟨its, rv, hl, _⟩ := I.tuple hs
  rw [Vals.ref1 r]
  exact sum_rawT (I.ok.hd hc) hl rv.ints fun h' tk t' hk => ⟨.int _, H, I.kept hk, ⟨_, rfl⟩, q⟩
theorem cr_maxT {K : PySem.W.Frag} (hc : X.calm = true) (hK : X.K = K := by rfl) : CallR X (.builtin "max") (rMaxT K) := by
  subst hK
  intro pins s σ H vs us Q I r h
  obtain ⟨a, ns, rfl, hs, hne, q⟩ := h
  obtain ⟨its, rv, hl, _⟩ := I.tuple hs
  rw [Vals.ref1 r]
  exact max_rawT (I.ok.hd hc) hl rv.ints hne fun h' tk m t' hk h1 h2 => ⟨.int _, H, I.kept hk, ⟨_, rfl⟩, q m h1 h2⟩
theorem cr_minT {K : PySem.W.Frag} (hc : X.calm = true) (hK : X.K = K := by rfl) : CallR X (.builtin "min") (rMinT K) := by
  subst hK
  intro pins s σ H vs us Q I r h
  obtain ⟨a, ns, rfl, hs, hne, q⟩ := h
  obtain ⟨its, rv, hl, _⟩ := I.tuple hs
  rw [Vals.ref1 r]
  exact min_rawT (I.ok.hd hc) hl rv.ints hne fun h' tk m t' hk h1 h2 => ⟨.int _, H, I.kept hk, ⟨_, rfl⟩, q m h1 h2⟩
theorem cr_maxK {K : PySem.W.Frag} (hc : X.calm = true) (hK : X.K = K := by rfl) : CallR X (.builtin "max") (rMax K) := by
  subst hK
  exact cr_max hc
theorem cr_minK {K : PySem.W.Frag} (hc : X.calm = true) (hK : X.K = K := by rfl) : CallR X (.builtin "min") (rMin K) := by
  subst hK
  exact cr_min hc
end
end TU
set_option Elab.async false
set_option linter.all false
set_option maxRecDepth 100000
set_option maxHeartbeats 4000000
namespace ZN
open PySem PySem.Spec PyProof.Rows L2 CM
open PySem.Sem (wp)
/-! ### zip of any number of tuples -/
section
variable {prog : Program} {w : World} {A : Around} {E : Value → Shared → Prop} {s : Shared}
theorem wpAny_loadIfAlive {M : Model} {a : Addr} {Q : Option Obj → Shared → Prop} (h : Q (s.heap.get? a) s) : wpAny M A (loadIfAlive a) Q E s := fun Γ p hΓ => by
  unfold loadIfAlive
  rw [Sem.wp_loadIfAlive]
  exact h
abbrev IsZipG (h : Heap) (z TI TO : Addr) (f0 f1 : Value) : Prop := h.get? z = some { cls := .type "zip", dict := none, data := .fields #[f0, f1, .bool false, .ref TI, .ref TO], slots := #[] }
abbrev IsTupO (h : Heap) (T : Addr) (vs : Array Value) : Prop := h.get? T = some { cls := .type "tuple", data := .seq vs }
abbrev Js := List (Addr × Addr)
def itsOf (js : Js) : Array Value := (js.map fun j => Value.ref j.1).toArray
structure Apart (z TI TO : Addr) (js : Js) : Prop where
  TIz : TI ≠ z
  TOz : TO ≠ z
  TITO : TI ≠ TO
  iz : ∀ j ∈ js, j.1 ≠ z ∧ j.1 ≠ TI ∧ j.1 ≠ TO
  nd : (js.map (·.1)).Nodup
  lz : ∀ j ∈ js, j.2 ≠ z ∧ j.2 ≠ TO ∧ ∀ k ∈ js, j.2 ≠ k.1
/-- the value that each gives at turn i -/
def Gives (h : Heap) (i : Nat) : Js → List Value → Prop := Paired fun j v => ∃ xs, h.IsTuple j.2 xs ∧ xs[i]? = some v
/-- what a turn keeps -/
def Kept (z TO : Addr) (js : Js) (h h' : Heap) : Prop := ∀ c o, c ≠ z → c ≠ TO → (∀ j ∈ js, c ≠ j.1) → h.get? c = some o → h'.get? c = some o
theorem Kept.trans {z TO : Addr} {js : Js} {h h1 h2 : Heap} (a : Kept z TO js h h1) (b : Kept z TO js h1 h2) : Kept z TO js h h2 := fun c o c1 c2 c3 e => b c o c1 c2 c3 (a c o c1 c2 c3 e)
theorem itsOf_list (js : Js) : (itsOf js).toList = js.map fun j => Value.ref j.1 := by unfold itsOf; rfl
theorem Gives.at {js : Js} {h h' : Heap} {i : Nat} {vals : List Value} (g : Gives h i js vals) (k : ∀ j ∈ js, ∀ o, h.get? j.2 = some o → h'.get? j.2 = some o) : Gives h' i js vals := by
  unfold Gives at g ⊢
  induction g with
  | nil => exact .nil
  | @cons j v js vals a t ih =>
    obtain ⟨xs, hx, hv⟩ := a
    exact .cons ⟨xs, hx.at (k j (List.mem_cons_self ..)), hv⟩ (ih fun j' hj' => k j' (List.mem_cons_of_mem _ hj'))
/-- the iterators ahead have gone, the others wait -/
structure Mid (z TO : Addr) (js : Js) (i : Nat) (vals : List Value) (h0 h : Heap) (done todo : Js) (vs1 vs2 : List Value) : Prop where
  eq : js = done ++ todo
  eqv : vals = vs1 ++ vs2
  len : vs1.length = done.length
  g : Gives h i todo vs2
  gone : ∀ j ∈ done, h.IsTupleIter j.1 j.2 (i + 1)
  wait : ∀ j ∈ todo, h.IsTupleIter j.1 j.2 i
  size : h.objs.size = h0.objs.size
  kept : Kept z TO js h0 h
theorem Mid.start {z TO : Addr} {js : Js} {i : Nat} {vals : List Value} {h0 h : Heap} (hi : ∀ j ∈ js, h.IsTupleIter j.1 j.2 i) (hg : Gives h i js vals) (hs : h.objs.size = h0.objs.size) (hk : Kept z TO js h0 h) : Mid z TO js i vals h0 h [] js [] vals :=
  ⟨rfl, rfl, rfl, hg, (fun _ z => by cases z), hi, hs, hk⟩
/-- writes at z or TO alone -/
theorem Mid.at {z TI TO a : Addr} {js : Js} {i : Nat} {vals : List Value} {h0 h h' : Heap} {done todo : Js} {vs1 vs2 : List Value} (m : Mid z TO js i vals h0 h done todo vs1 vs2) (D : Apart z TI TO js) (ha : a = z ∨ a = TO) (sb : Heap.SameBut a h h') : Mid z TO js i vals h0 h' done todo vs1 vs2 := by
  have e1 : ∀ j ∈ js, j.1 ≠ a := fun j hj => by
    rcases ha with rfl | rfl
    · exact (D.iz j hj).1
    · exact (D.iz j hj).2.2
  have e2 : ∀ j ∈ js, j.2 ≠ a := fun j hj => by
    rcases ha with rfl | rfl
    · exact (D.lz j hj).1
    · exact (D.lz j hj).2.1
  have inn : ∀ j, j ∈ done ∨ j ∈ todo → j ∈ js := fun j hj => by
    rw [m.eq]
    exact List.mem_append.mpr hj
  refine ⟨m.eq, m.eqv, m.len, m.g.at fun j hj o e => (sb.2 _ (e2 j (inn j (.inr hj)))).trans e, fun j hj => (m.gone j hj).at fun o e => (sb.2 _ (e1 j (inn j (.inl hj)))).trans e, fun j hj => (m.wait j hj).at fun o e => (sb.2 _ (e1 j (inn j (.inr hj)))).trans e, sb.1.trans m.size, m.kept.trans fun c o c1 c2 _ e => ?_⟩
  refine (sb.2 c ?_).trans e
  rcases ha with rfl | rfl
  · exact c1
  · exact c2
/-- one more has gone -/
theorem Mid.next {z TI TO : Addr} {js : Js} {i : Nat} {vals : List Value} {h0 h h' : Heap} {j : Addr × Addr} {v : Value} {done todo : Js} {vs1 vs2 : List Value} (m : Mid z TO js i vals h0 h done (j :: todo) vs1 (v :: vs2)) (D : Apart z TI TO js) (hj : h'.IsTupleIter j.1 j.2 (i + 1)) (sb : Heap.SameBut j.1 h h') :
    Mid z TO js i vals h0 h' (done ++ [j]) todo (vs1 ++ [v]) vs2 := by
  have mj : j ∈ js := by
    rw [m.eq]
    exact List.mem_append.mpr (.inr (List.mem_cons_self ..))
  have inn : ∀ k, k ∈ done ∨ k ∈ todo → k ∈ js := fun k hk => by
    rw [m.eq]
    exact List.mem_append.mpr (hk.imp id (List.mem_cons_of_mem _))
  have ne : ∀ k, k ∈ done ∨ k ∈ todo → k.1 ≠ j.1 := fun k hk e => by
    have nd := D.nd
    rw [m.eq, List.map_append, List.map_cons, List.nodup_append] at nd
    rcases hk with hk | hk
    · exact nd.2.2 k.1 (List.mem_map.mpr ⟨k, hk, rfl⟩) j.1 (List.mem_cons_self ..) e
    · exact (List.nodup_cons.mp nd.2.1).1 (e ▸ List.mem_map.mpr ⟨k, hk, rfl⟩)
  have g2 : Gives h i todo vs2 := by
    cases m.g with
    | cons a t => exact t
  refine ⟨by rw [m.eq, List.append_assoc]; rfl, by rw [m.eqv, List.append_assoc]; rfl, by rw [List.length_append, List.length_append, m.len]; rfl, g2.at fun k hk o e => (sb.2 _ ((D.lz k (inn k (.inr hk))).2.2 j mj)).trans e, fun k hk => ?_, fun k hk => (m.wait k (List.mem_cons_of_mem _ hk)).at fun o e => (sb.2 _ (ne k (.inr hk))).trans e, sb.1.trans m.size, m.kept.trans fun c o _ _ c3 e => (sb.2 c (c3 j mj)).trans e⟩
  rcases List.mem_append.mp hk with hk | hk
  · exact (m.gone k hk).at fun o e => (sb.2 _ (ne k (.inl hk))).trans e
  · rw [List.mem_singleton.mp hk]
    exact hj
theorem Kept.but {z TO a : Addr} {js : Js} {h h' : Heap} (ha : a = z ∨ a = TO) (sb : Heap.SameBut a h h') : Kept z TO js h h' := fun c o c1 c2 _ e => (sb.2 c (by
  rcases ha with rfl | rfl
  · exact c1
  · exact c2)).trans e
theorem zipN_item {z TI TO : Addr} {js : Js} {i : Nat} {f0 f1 : Value} {tos : Array Value} {vals : List Value} {Q : Value → Shared → Prop} (D : Apart z TI TO js) (hne : js ≠ []) (hsz : js.length ≤ 1000)
    (hz : IsZipG s.heap z TI TO f0 f1) (hf : f0 = .none ∨ ∃ T : Nat, f0 = rawInt T) (hTI : IsTupO s.heap TI (itsOf js)) (hTO : IsTupO s.heap TO tos) (ht : tos.size = js.length)
    (hi : ∀ j ∈ js, s.heap.IsTupleIter j.1 j.2 i) (hg : Gives s.heap i js vals)
    (hQ : ∀ h' (T : Nat) g1 tos', IsZipG h' z TI TO (rawInt T) g1 → IsTupO h' TO tos' → tos'.size = js.length → (∀ j ∈ js, h'.IsTupleIter j.1 j.2 (i + 1)) → IsTupO h' s.heap.objs.size vals.toArray → h'.objs.size = s.heap.objs.size + 1 →
      Kept z TO js s.heap h' → Q (.ref s.heap.objs.size) { s with heap := h' }) :
    wpAny (model prog w) A (Builtin.«zip.__next__» ⟨[.ref z], []⟩) (fun fin s' => ∃ v, fin = .done (.ret v) ∧ Q v s') E s := by
  have lv : vals.length = js.length := (Paired.length hg).symm
  have big : vals.length ≤ sizeLine := by rw [lv, sizeLine_eq]; omega
  show wpAny _ _ (field (.ref z) 2 >>= _) _ _ _
  refine wpAny_bind (wpAny_field hz rfl (x := .bool false) rfl ?_)
  show wpAny _ _ (field (.ref z) 3 >>= _) _ _ _
  refine wpAny_bind (wpAny_field hz rfl (x := .ref TI) rfl ?_)
  refine wpAny_bind (wpAny_seqItems hTI rfl ?_)
  have ne : (itsOf js).isEmpty = false := by
    cases js with
    | nil => exact absurd rfl hne
    | cons j js => simp [itsOf]
  dsimp only
  rw [ne]
  simp only [Bool.false_eq_true, if_false]
  refine wpAny_bind (wpAny_mono (Q := fun b s' => (b = true ∧ s = s') ∨ (b = false ∧ ∃ (T : Nat) (g1 : Value) (h' : Heap), s' = { s with heap := h' } ∧ IsZipG h' z TI TO (rawInt T) g1 ∧ Heap.SameBut z s.heap h')) ?free (fun b s' hb => ?_) (fun _ _ e => e))
  case free =>
    unfold Builtin.SmallTypes.ownedTupleIsFree
    refine wpAny_bind (wpAny_field hz rfl (x := f0) rfl ?_)
    rcases hf with rfl | ⟨T, rfl⟩
    · exact wpAny_pure (.inl ⟨rfl, rfl⟩)
    · refine wpAny_bind (wpAny_loadIfAlive ?_)
      cases hT : s.heap.get? (Int.toNat (T : Int)) with
      | none => exact wpAny_pure (.inl ⟨rfl, rfl⟩)
      | some o =>
        simp only [Option.isNone_some, Bool.false_eq_true, if_false]
        refine wpAny_bind (wpAny_field hz rfl (x := f1) rfl ?_)
        split
        · refine wpAny_bind (wpAny_setField_rec hz (by simp) fun h₁ hz₁ hs₁ => ?_)
          exact wpAny_pure (.inr ⟨rfl, T, .bool true, h₁, rfl, hz₁, hs₁⟩)
        · exact wpAny_pure (.inr ⟨rfl, T, f1, s.heap, rfl, hz, ⟨rfl, fun _ _ => rfl⟩⟩)
  rcases hb with ⟨rfl, rfl⟩ | ⟨rfl, T, g1, h1, rfl, hz1, sb1⟩
  · -- the tuple of its own
    simp only [if_true]
    refine wpAny_bind (wpAny_rule ?_)
    refine wpAny_bind (wpAny_field hz rfl (x := .ref TO) rfl ?_)
    dsimp only
    refine wpAny_bind (wpAny_setField_rec hz (by simp) fun h₁ hz₁ hs₁ => ?_)
    replace hz₁ : IsZipG h₁ z TI TO .ellipsis f1 := hz₁
    rw [itsOf_list]
    refine wpAny_bind (wpAny_forIn_list _ (fun rest b s' => ∃ (done todo : Js) (vs1 vs2 : List Value) (h : Heap) (ts : Array Value), s' = { s with heap := h } ∧ b = (none, ()) ∧ rest = (todo.map fun j => Value.ref j.1).zipIdx done.length ∧ Mid z TO js i vals s.heap h done todo vs1 vs2 ∧
      IsZipG h z TI TO .ellipsis f1 ∧ IsTupO h TO ts ∧ ts.size = js.length ∧ ∀ k, k < done.length → ts[k]? = vs1[k]?) _ ?_ ?_ _ _ ?_)
    · rintro x rest b s2 ⟨done, todo, vs1, vs2, h, ts, rfl, rfl, er, m, hz2, hT2, tz, hk⟩
      cases todo with
      | nil => cases er
      | cons j todo =>
        rw [List.map_cons, List.zipIdx_cons] at er
        obtain ⟨rfl, rfl⟩ := List.cons.inj er
        obtain ⟨v, vs2', rfl, ⟨xs, hx, hv⟩⟩ : ∃ v vs2', vs2 = v :: vs2' ∧ ∃ xs, h.IsTuple j.2 xs ∧ xs[i]? = some v := by
          have g := m.g
          cases g with
          | cons a t => exact ⟨_, _, rfl, a⟩
        dsimp only
        refine wpAny_bind (wpAny_onRaise ?_)
        show wpAny _ _ (Builtin.SmallTypes.nextOf (.ref j.1) >>= _) _ _ _
        refine wpAny_bind (RZ.nextOf_tuple_item (m.wait j (List.mem_cons_self ..)) hx hv fun h₂ h1₂ hs₂ => wpAny_pure ?_)
        have m2 := m.next D h1₂ hs₂
        have mj : j ∈ js := by
          rw [m.eq]
          exact List.mem_append.mpr (.inr (List.mem_cons_self ..))
        have hT3 : IsTupO h₂ TO ts := (hs₂.2 _ (Ne.symm (D.iz j mj).2.2)).trans hT2
        have hz3 : IsZipG h₂ z TI TO .ellipsis f1 := (hs₂.2 _ (Ne.symm (D.iz j mj).1)).trans hz2
        dsimp only
        refine wpAny_bind (wpAny_seqItems hT3 rfl ?_)
        dsimp only
        refine wpAny_bind (wpAny_updateSeq hT3 rfl ?_ (by rw [tz, sizeLine_eq]; omega) (by rw [Array.size_setIfInBounds, tz, sizeLine_eq]; omega))
        refine wpAny_bind (wpAny_letGo (wpAny_pure ?_))
        have hT4 : IsTupO (h₂.update TO (Obj.mapSeq fun x_2 => x_2.setIfInBounds done.length v)) TO (ts.setIfInBounds done.length v) := by
          show _ = _
          rw [Heap.get?_update_self _ hT3 rfl]
          simp [Obj.mapSeq]
        have sb4 : Heap.SameBut TO h₂ (h₂.update TO (Obj.mapSeq fun x_2 => x_2.setIfInBounds done.length v)) := Heap.SameBut.update ..
        refine ⟨done ++ [j], todo, vs1 ++ [v], vs2', _, ts.setIfInBounds done.length v, rfl, rfl, ?_, m2.at D (.inr rfl) sb4, (sb4.2 _ (Ne.symm D.TOz)).trans hz3, hT4, by rw [Array.size_setIfInBounds, tz], fun k hk' => ?_⟩
        · rw [List.length_append]
          rfl
        · rw [List.length_append, List.length_singleton] at hk'
          have ll : done.length < ts.size := by
            rw [tz, m.eq, List.length_append, List.length_cons]
            omega
          by_cases e : k = done.length
          · subst e
            rw [Array.getElem?_setIfInBounds_self_of_lt ll, ← m.len, List.getElem?_append_right (Nat.le_refl _), Nat.sub_self]
            rfl
          · rw [Array.getElem?_setIfInBounds_ne (Ne.symm e), hk k (by omega), List.getElem?_append_left (by rw [m.len]; omega)]
    · rintro b s2 ⟨done, todo, vs1, vs2, h, ts, rfl, rfl, er, m, hz2, hT2, tz, hk⟩
      cases todo with
      | cons j todo =>
        rw [List.map_cons, List.zipIdx_cons] at er
        cases er
      | nil =>
        have g := m.g
        have e1 : js = done := by rw [m.eq, List.append_nil]
        have e2 : vals = vs1 := by
          cases g
          rw [m.eqv, List.append_nil]
        subst e1
        subst e2
        have et : ts = vals.toArray := by
          refine Array.ext_getElem? fun k => ?_
          by_cases hk' : k < js.length
          · rw [hk k hk', List.getElem?_toArray]
          · rw [Array.getElem?_eq_none (by omega), List.getElem?_toArray, List.getElem?_eq_none (by omega)]
        subst et
        dsimp only
        refine wpAny_bind (wpAny_seqItems hT2 rfl ?_)
        dsimp only
        refine wpAny_bind (wpAny_newTuple ?_ (by simpa using big))
        have hs : h.objs.size = s.heap.objs.size := m.size
        have hzlt : z < h.objs.size := Heap.lt_size hz2
        refine wpAny_bind ?_
        unfold Builtin.SmallTypes.ownedTupleHandOut
        dsimp only
        have hz₆ : IsZipG (h.push { cls := .type "tuple", data := .seq vals.toArray.toList.toArray }) z TI TO .ellipsis f1 := Heap.get?_push_of_some _ hz2
        refine wpAny_bind (wpAny_setField_rec hz₆ (by simp) fun h₇ hz₇ hs₇ => ?_)
        replace hz₇ : IsZipG h₇ z TI TO (rawInt h.objs.size) f1 := hz₇
        refine wpAny_setField_rec hz₇ (by simp) fun h₈ hz₈ hs₈ => ?_
        replace hz₈ : IsZipG h₈ z TI TO (rawInt h.objs.size) (.bool false) := hz₈
        have up : ∀ c o, c ≠ z → h.get? c = some o → h₈.get? c = some o := fun c o c1 e => (hs₈.2 _ c1).trans ((hs₇.2 _ c1).trans (Heap.get?_push_of_some _ e))
        have hT₈ : IsTupO h₈ h.objs.size vals.toArray := (hs₈.2 _ (Nat.ne_of_gt hzlt)).trans ((hs₇.2 _ (Nat.ne_of_gt hzlt)).trans (Heap.get?_push_size _ rfl))
        have hz8 : h₈.objs.size = s.heap.objs.size + 1 := by rw [hs₈.1, hs₇.1, Heap.size_push, hs]
        refine wpAny_pure ⟨_, rfl, ?_⟩
        rw [hs] at hT₈
        show Q (.ref h.objs.size) _
        rw [hs]
        exact hQ h₈ _ _ vals.toArray hz₈ (up _ _ D.TOz hT2) tz (fun j hj => (m.gone j hj).at fun o e => up _ o (D.iz j hj).1 e) hT₈ hz8 (m.kept.trans fun c o c1 _ _ e => up c o c1 e)
    · refine ⟨[], js, [], vals, h₁, tos, rfl, rfl, rfl, ?_, hz₁, (hs₁.2 _ D.TOz).trans hTO, ht, fun k hk => absurd hk (Nat.not_lt_zero _)⟩
      exact Mid.start (fun j hj => (hi j hj).at fun o e => (hs₁.2 _ (D.iz j hj).1).trans e) (hg.at fun j hj o e => (hs₁.2 _ (D.lz j hj).1).trans e) hs₁.1 (Kept.but (.inl rfl) hs₁)
  · -- a new one
    simp only [Bool.false_eq_true, if_false]
    rw [← Array.forIn_toList, itsOf_list]
    refine wpAny_bind (wpAny_forIn_list _ (fun rest b s' => ∃ (done todo : Js) (vs1 vs2 : List Value) (h : Heap), s' = { s with heap := h } ∧ b = (none, vs1.toArray) ∧ rest = (todo.map fun j => Value.ref j.1) ∧ Mid z TO js i vals s.heap h done todo vs1 vs2 ∧
      IsZipG h z TI TO (rawInt T) g1 ∧ IsTupO h TO tos) _ ?_ ?_ _ _ ?_)
    · rintro x rest b s2 ⟨done, todo, vs1, vs2, h, rfl, rfl, er, m, hz2, hT2⟩
      cases todo with
      | nil => cases er
      | cons j todo =>
        obtain ⟨rfl, rfl⟩ := List.cons.inj er
        obtain ⟨v, vs2', rfl, ⟨xs, hx, hv⟩⟩ : ∃ v vs2', vs2 = v :: vs2' ∧ ∃ xs, h.IsTuple j.2 xs ∧ xs[i]? = some v := by
          have g := m.g
          cases g with
          | cons a t => exact ⟨_, _, rfl, a⟩
        refine wpAny_bind (wpAny_holding ?_)
        show wpAny _ _ (Builtin.SmallTypes.nextOf (.ref j.1) >>= _) _ _ _
        refine wpAny_bind (RZ.nextOf_tuple_item (m.wait j (List.mem_cons_self ..)) hx hv fun h₂ h1₂ hs₂ => wpAny_pure ?_)
        have m2 := m.next D h1₂ hs₂
        have mj : j ∈ js := by
          rw [m.eq]
          exact List.mem_append.mpr (.inr (List.mem_cons_self ..))
        exact wpAny_pure ⟨done ++ [j], todo, vs1 ++ [v], vs2', h₂, rfl, by simp, rfl, m2, (hs₂.2 _ (Ne.symm (D.iz j mj).1)).trans hz2, (hs₂.2 _ (Ne.symm (D.iz j mj).2.2)).trans hT2⟩
    · rintro b s2 ⟨done, todo, vs1, vs2, h, rfl, rfl, er, m, hz2, hT2⟩
      cases todo with
      | cons j todo => cases er
      | nil =>
        have g := m.g
        have e1 : js = done := by rw [m.eq, List.append_nil]
        have e2 : vals = vs1 := by
          cases g
          rw [m.eqv, List.append_nil]
        subst e1
        subst e2
        have hs : h.objs.size = s.heap.objs.size := m.size
        dsimp only
        refine wpAny_bind (wpAny_newTuple ?_ (by simpa using big))
        refine wpAny_pure ⟨_, rfl, ?_⟩
        show Q (.ref h.objs.size) _
        rw [hs]
        refine hQ _ T g1 tos (Heap.get?_push_of_some _ hz2) (Heap.get?_push_of_some _ hT2) ht (fun j hj => (m.gone j hj).at fun o e => Heap.get?_push_of_some _ e) ?_ (by rw [Heap.size_push, hs]) (m.kept.trans fun c o _ _ _ e => Heap.get?_push_of_some _ e)
        rw [← hs]
        exact Heap.get?_push_size _ rfl
    · refine ⟨[], js, [], vals, h1, rfl, rfl, rfl, ?_, hz1, (sb1.2 _ D.TOz).trans hTO⟩
      exact Mid.start (fun j hj => (hi j hj).at fun o e => (sb1.2 _ (D.iz j hj).1).trans e) (hg.at fun j hj o e => (sb1.2 _ (D.lz j hj).1).trans e) sb1.1 (Kept.but (.inl rfl) sb1)
theorem zipN_end {z TI TO : Addr} {j : Addr × Addr} {js : Js} {i : Nat} {f0 f1 : Value} {xs : Array Value} {Q : Fin → Shared → Prop} (hh : A.handled = none) (D : Apart z TI TO (j :: js))
    (hz : IsZipG s.heap z TI TO f0 f1) (hf : f0 = .none ∨ ∃ T : Nat, f0 = rawInt T) (hTI : IsTupO s.heap TI (itsOf (j :: js)))
    (hi : s.heap.IsTupleIter j.1 j.2 i) (hx : s.heap.IsTuple j.2 xs) (he : xs[i]? = none)
    (hE : ∀ h' e, Kept z TO (j :: js) s.heap h' → (∃ o, h'.get? e = some o ∧ o.cls = .type "StopIteration") → E (.ref e) { s with heap := h' }) :
    wpAny (model prog w) A (Builtin.«zip.__next__» ⟨[.ref z], []⟩) Q E s := by
  have mj : j ∈ j :: js := List.mem_cons_self ..
  show wpAny _ _ (field (.ref z) 2 >>= _) _ _ _
  refine wpAny_bind (wpAny_field hz rfl (x := .bool false) rfl ?_)
  show wpAny _ _ (field (.ref z) 3 >>= _) _ _ _
  refine wpAny_bind (wpAny_field hz rfl (x := .ref TI) rfl ?_)
  refine wpAny_bind (wpAny_seqItems hTI rfl ?_)
  have ne : (itsOf (j :: js)).isEmpty = false := by simp [itsOf]
  dsimp only
  rw [ne]
  simp only [Bool.false_eq_true, if_false]
  refine wpAny_bind (wpAny_mono (Q := fun b s' => (b = true ∧ s = s') ∨ (b = false ∧ ∃ (T : Nat) (g1 : Value) (h' : Heap), s' = { s with heap := h' } ∧ IsZipG h' z TI TO (rawInt T) g1 ∧ Heap.SameBut z s.heap h')) ?free (fun b s' hb => ?_) (fun _ _ e => e))
  case free =>
    unfold Builtin.SmallTypes.ownedTupleIsFree
    refine wpAny_bind (wpAny_field hz rfl (x := f0) rfl ?_)
    rcases hf with rfl | ⟨T, rfl⟩
    · exact wpAny_pure (.inl ⟨rfl, rfl⟩)
    · refine wpAny_bind (wpAny_loadIfAlive ?_)
      cases hT : s.heap.get? (Int.toNat (T : Int)) with
      | none => exact wpAny_pure (.inl ⟨rfl, rfl⟩)
      | some o =>
        simp only [Option.isNone_some, Bool.false_eq_true, if_false]
        refine wpAny_bind (wpAny_field hz rfl (x := f1) rfl ?_)
        split
        · refine wpAny_bind (wpAny_setField_rec hz (by simp) fun h₁ hz₁ hs₁ => ?_)
          exact wpAny_pure (.inr ⟨rfl, T, .bool true, h₁, rfl, hz₁, hs₁⟩)
        · exact wpAny_pure (.inr ⟨rfl, T, f1, s.heap, rfl, hz, ⟨rfl, fun _ _ => rfl⟩⟩)
  have eb : ∀ {h₁ h₂ : Heap}, Heap.SameBut z s.heap h₁ → Heap.ExtBut j.1 h₁ h₂ → Kept z TO (j :: js) s.heap h₂ := fun sb ex c o c1 c2 c3 e => ex _ _ (c3 j mj) ((sb.2 _ c1).trans e)
  rcases hb with ⟨rfl, rfl⟩ | ⟨rfl, T, g1, h1, rfl, hz1, sb1⟩
  · simp only [if_true]
    refine wpAny_bind (wpAny_rule ?_)
    refine wpAny_bind (wpAny_field hz rfl (x := .ref TO) rfl ?_)
    dsimp only
    refine wpAny_bind (wpAny_setField_rec hz (by simp) fun h₁ hz₁ hs₁ => ?_)
    replace hz₁ : IsZipG h₁ z TI TO .ellipsis f1 := hz₁
    rw [itsOf_list]
    simp only [List.map_cons, List.zipIdx_cons, List.forIn_cons]
    refine wpAny_bind (wpAny_bind (wpAny_bind (wpAny_onRaise ?_)))
    show wpAny _ _ (Builtin.SmallTypes.nextOf (.ref j.1) >>= _) _ _ _
    refine wpAny_bind (RZ.nextOf_tuple_end hh (hi.at fun o e => (hs₁.2 _ (D.iz j mj).1).trans e) (hx.at fun o e => (hs₁.2 _ (D.lz j mj).1).trans e) he fun h₂ e hs₂ he => ?_)
    obtain ⟨oe, hoe, hce⟩ := he
    have hz₂ : IsZipG h₂ z TI TO .ellipsis f1 := hs₂ _ _ (Ne.symm (D.iz j mj).1) hz₁
    have hez : e ≠ z := fun x => by subst x; rw [hz₂] at hoe; cases hoe; simp at hce
    exact wpAny_setField_rec hz₂ (by simp) fun h₃ _ hs₃ => hE h₃ e (fun c o c1 c2 c3 e' => (hs₃.2 _ c1).trans (eb hs₁ hs₂ c o c1 c2 c3 e')) ⟨oe, (hs₃.2 _ hez).trans hoe, hce⟩
  · simp only [Bool.false_eq_true, if_false]
    rw [← Array.forIn_toList, itsOf_list]
    simp only [List.map_cons, List.forIn_cons]
    refine wpAny_bind (wpAny_bind (wpAny_bind (wpAny_holding ?_)))
    show wpAny _ _ (Builtin.SmallTypes.nextOf (.ref j.1) >>= _) _ _ _
    exact wpAny_bind (RZ.nextOf_tuple_end hh (hi.at fun o e => (sb1.2 _ (D.iz j mj).1).trans e) (hx.at fun o e => (sb1.2 _ (D.lz j mj).1).trans e) he fun h₂ e hs₂ he => hE h₂ e (eb sb1 hs₂) he)
theorem pyNext_zipN_item {z TI TO : Addr} {js : Js} {i : Nat} {f0 f1 : Value} {tos : Array Value} {vals : List Value} {Q : Option Value → Shared → Prop} (D : Apart z TI TO js) (hne : js ≠ []) (hsz : js.length ≤ 1000)
    (hz : IsZipG s.heap z TI TO f0 f1) (hf : f0 = .none ∨ ∃ T : Nat, f0 = rawInt T) (hTI : IsTupO s.heap TI (itsOf js)) (hTO : IsTupO s.heap TO tos) (ht : tos.size = js.length)
    (hi : ∀ j ∈ js, s.heap.IsTupleIter j.1 j.2 i) (hg : Gives s.heap i js vals)
    (hQ : ∀ h' (T : Nat) g1 tos', IsZipG h' z TI TO (rawInt T) g1 → IsTupO h' TO tos' → tos'.size = js.length → (∀ j ∈ js, h'.IsTupleIter j.1 j.2 (i + 1)) → IsTupO h' s.heap.objs.size vals.toArray → h'.objs.size = s.heap.objs.size + 1 →
      Kept z TO js s.heap h' → Q (some (.ref s.heap.objs.size)) { s with heap := h' }) : wpAny (model prog w) A (pyNext (.ref z)) Q E s := by
  have hT : s.TypeIs (.ref z) "zip" := ⟨_, hz, rfl⟩
  unfold pyNext
  exact wpAny_bind (wpAny_attempt (wpAny_callSpecial?_slot (name := Str.ofString "__next__") hT F.slot_zip_next
    (wpAny_call_entry F.slot_zip_next hT F.entry_zip_next
      (zipN_item D hne hsz hz hf hTI hTO ht hi hg fun h' T g1 t' a1 a2 a3 a4 a5 a6 a7 => wpAny_pure (hQ h' T g1 t' a1 a2 a3 a4 a5 a6 a7)) (F.args_zip_next_1 _))))
theorem pyNext_zipN_end {z TI TO : Addr} {j : Addr × Addr} {js : Js} {i : Nat} {f0 f1 : Value} {xs : Array Value} {Q : Option Value → Shared → Prop} (hh : A.handled = none) (D : Apart z TI TO (j :: js))
    (hz : IsZipG s.heap z TI TO f0 f1) (hf : f0 = .none ∨ ∃ T : Nat, f0 = rawInt T) (hTI : IsTupO s.heap TI (itsOf (j :: js)))
    (hi : s.heap.IsTupleIter j.1 j.2 i) (hx : s.heap.IsTuple j.2 xs) (he : xs[i]? = none) (hQ : ∀ h', Kept z TO (j :: js) s.heap h' → Q none { s with heap := h' }) : wpAny (model prog w) A (pyNext (.ref z)) Q E s := by
  have hT : s.TypeIs (.ref z) "zip" := ⟨_, hz, rfl⟩
  unfold pyNext
  refine wpAny_bind (wpAny_attempt (wpAny_callSpecial?_slot (name := Str.ofString "__next__") hT F.slot_zip_next
    (wpAny_call_entry F.slot_zip_next hT F.entry_zip_next (zipN_end hh D hz hf hTI hi hx he fun h' e hk he => ?_) (F.args_zip_next_1 _))))
  obtain ⟨o, ho, hc⟩ := he
  refine wpAny_bind (wpAny_isInstance (T := "StopIteration") (b := true) ⟨o, ho, hc⟩ isSubtype_stop ?_)
  exact wpAny_pure (hQ _ hk)
theorem typeCall_zipN (vs : List Value) : checkTypeCall "zip" ⟨vs, []⟩ = pure () := by kernel_rfl
theorem upTo8 {p : List Value → Prop} (h0 : p []) (h1 : ∀ a, p [a]) (h2 : ∀ a b, p [a, b]) (h3 : ∀ a b c, p [a, b, c]) (h4 : ∀ a b c d, p [a, b, c, d]) (h5 : ∀ a b c d e, p [a, b, c, d, e]) (h6 : ∀ a b c d e f, p [a, b, c, d, e, f]) (h7 : ∀ a b c d e f g, p [a, b, c, d, e, f, g]) (h8 : ∀ a b c d e f g i, p [a, b, c, d, e, f, g, i]) : ∀ vs : List Value, vs.length ≤ 8 → p vs
  | [], _ => h0
  | [a], _ => h1 a
  | [a, b], _ => h2 a b
  | [a, b, c], _ => h3 a b c
  | [a, b, c, d], _ => h4 a b c d
  | [a, b, c, d, e], _ => h5 a b c d e
  | [a, b, c, d, e, f], _ => h6 a b c d e f
  | [a, b, c, d, e, f, g], _ => h7 a b c d e f g
  | [a, b, c, d, e, f, g, i], _ => h8 a b c d e f g i
  | _ :: _ :: _ :: _ :: _ :: _ :: _ :: _ :: _ :: _, h => absurd h (by simp)
theorem newCall_zipN : ∀ vs : List Value, vs.length ≤ 8 → checkBuiltinCall "zip.__new__" ⟨.type "zip" :: vs, []⟩ = pure () :=
  upTo8 (by kernel_rfl) (fun _ => by kernel_rfl) (fun _ _ => by kernel_rfl) (fun _ _ _ => by kernel_rfl) (fun _ _ _ _ => by kernel_rfl) (fun _ _ _ _ _ => by kernel_rfl) (fun _ _ _ _ _ _ => by kernel_rfl) (fun _ _ _ _ _ _ _ => by kernel_rfl) (fun _ _ _ _ _ _ _ _ => by kernel_rfl)
theorem args_object_initN (obj : Value) : ∀ vs : List Value, vs.length ≤ 8 → argsOk "object.__init__" ⟨obj :: vs, []⟩ := by
  have sg := signature?_of (id := "object.__init__") (n := ['_', '_', 't', 'i', 'n', 'i', '_', '_']) (o := ['t', 'c', 'e', 'j', 'b', 'o']) (by kernel_rfl) PySem.F.owner_object
  refine upTo8 ?_ (fun _ => ?_) (fun _ _ => ?_) (fun _ _ _ => ?_) (fun _ _ _ _ => ?_) (fun _ _ _ _ _ => ?_) (fun _ _ _ _ _ _ => ?_) (fun _ _ _ _ _ _ _ => ?_) (fun _ _ _ _ _ _ _ _ => ?_) <;> (unfold argsOk; rw [sg]; kernel_rfl)
def itO (l : Addr) : Obj := { cls := .type "tuple_iterator", data := .fields #[.ref l, .int 0 0] }
def pushIts (h : Heap) (ls : List Addr) : Heap := ls.foldl (fun h l => h.push (itO l)) h
def jsOf (n : Nat) : List Addr → Js
  | [] => []
  | l :: ls => (n, l) :: jsOf (n + 1) ls
theorem pushIts_snoc (h : Heap) (ls : List Addr) (l : Addr) : pushIts h (ls ++ [l]) = (pushIts h ls).push (itO l) := by
  unfold pushIts
  rw [List.foldl_append]
  rfl
theorem jsOf_snoc : ∀ (n : Nat) (ls : List Addr) (l : Addr), jsOf n (ls ++ [l]) = jsOf n ls ++ [(n + ls.length, l)]
  | n, [], l => rfl
  | n, k :: ls, l => by
    show (n, k) :: jsOf (n + 1) (ls ++ [l]) = (n, k) :: (jsOf (n + 1) ls ++ [(n + (ls.length + 1), l)])
    rw [jsOf_snoc (n + 1) ls l, show n + 1 + ls.length = n + (ls.length + 1) by omega]
theorem pushIts_size : ∀ (h : Heap) (ls : List Addr), (pushIts h ls).objs.size = h.objs.size + ls.length
  | h, [] => rfl
  | h, l :: ls => by
    show (pushIts (h.push (itO l)) ls).objs.size = _
    rw [pushIts_size, Heap.size_push, List.length_cons]
    omega
theorem pushIts_old : ∀ (h : Heap) (ls : List Addr) (c : Addr) (o : Obj), h.get? c = some o → (pushIts h ls).get? c = some o
  | h, [], c, o, e => e
  | h, l :: ls, c, o, e => pushIts_old (h.push (itO l)) ls c o (Heap.get?_push_of_some _ e)
theorem pushIts_at : ∀ (h : Heap) (ls : List Addr), ∀ j ∈ jsOf h.objs.size ls, (pushIts h ls).IsTupleIter j.1 j.2 0
  | h, [], j, hj => by cases hj
  | h, l :: ls, j, hj => by
    rcases List.mem_cons.mp hj with rfl | hj
    · exact ⟨itO l, pushIts_old _ ls _ _ (Heap.get?_push_size _ rfl), rfl, rfl⟩
    · have e := pushIts_at (h.push (itO l)) ls j
      rw [Heap.size_push] at e
      exact e hj
theorem jsOf_lt : ∀ (n : Nat) (ls : List Addr), ∀ j ∈ jsOf n ls, n ≤ j.1 ∧ j.1 < n + ls.length ∧ j.2 ∈ ls
  | n, [], j, hj => by cases hj
  | n, l :: ls, j, hj => by
    rcases List.mem_cons.mp hj with rfl | hj
    · exact ⟨Nat.le_refl _, Nat.lt_add_of_pos_right (Nat.succ_pos _), List.mem_cons_self ..⟩
    · obtain ⟨a, b, c⟩ := jsOf_lt (n + 1) ls j hj
      exact ⟨Nat.le_of_succ_le a, Nat.lt_of_lt_of_eq b (by rw [List.length_cons]; omega), List.mem_cons_of_mem _ c⟩
theorem jsOf_nd : ∀ (n : Nat) (ls : List Addr), ((jsOf n ls).map (·.1)).Nodup
  | n, [] => List.nodup_nil
  | n, l :: ls => by
    refine List.nodup_cons.mpr ⟨fun z => ?_, jsOf_nd (n + 1) ls⟩
    obtain ⟨j, hj, e⟩ := List.mem_map.mp z
    have := (jsOf_lt (n + 1) ls j hj).1
    have e2 : j.1 = n := e
    rw [e2] at this
    exact Nat.not_succ_le_self n this
theorem jsOf_len : ∀ (n : Nat) (ls : List Addr), (jsOf n ls).length = ls.length
  | n, [] => rfl
  | n, l :: ls => by
    show (jsOf (n + 1) ls).length + 1 = ls.length + 1
    rw [jsOf_len]
theorem wp_iterAll {ls : List Addr} {Q : List Value → Shared → Prop} (hl : ∀ l ∈ ls, ∃ items, s.heap.IsTuple l items)
    (h : Q ((jsOf s.heap.objs.size ls).map fun j => Value.ref j.1) { s with heap := pushIts s.heap ls }) : wpAny (model prog w) A (Builtin.SmallTypes.iterAll (ls.map Value.ref)) Q E s := by
  unfold Builtin.SmallTypes.iterAll
  refine wpAny_bind (wpAny_forIn_list _ (fun rest b s' => ∃ ls1 ls2, ls = ls1 ++ ls2 ∧ rest = ls2.map Value.ref ∧ s' = { s with heap := pushIts s.heap ls1 } ∧ b = ((jsOf s.heap.objs.size ls1).map fun j => Value.ref j.1).toArray) _ ?_ ?_ _ _ ⟨[], ls, rfl, rfl, rfl, rfl⟩)
  · rintro x rest b s2 ⟨ls1, ls2, e, er, rfl, rfl⟩
    cases ls2 with
    | nil => cases er
    | cons l ls2 =>
      obtain ⟨rfl, rfl⟩ := List.cons.inj er
      obtain ⟨items, ht⟩ := hl l (by rw [e]; exact List.mem_append.mpr (.inr (List.mem_cons_self ..)))
      refine wpAny_bind (wpAny_holding (wpAny_pyIter_tuple (ht.at fun o e => pushIts_old _ ls1 _ _ e) (wpAny_pure ?_)))
      refine ⟨ls1 ++ [l], ls2, by rw [e, List.append_assoc]; rfl, rfl, ?_, ?_⟩
      · rw [pushIts_snoc]
        rfl
      · rw [jsOf_snoc, List.map_append]
        show (List.map (fun j => Value.ref j.1) (jsOf s.heap.objs.size ls1)).toArray.push (Value.ref (pushIts s.heap ls1).objs.size) = _
        rw [pushIts_size]
        simp
  · rintro b s2 ⟨ls1, ls2, e, er, rfl, rfl⟩
    cases ls2 with
    | cons l ls2 => cases er
    | nil =>
      rw [List.append_nil] at e
      subst e
      exact wpAny_pure h
def zH3 (h : Heap) (ls : List Addr) : Heap := (pushIts h ls).push { cls := .type "tuple", data := .seq (itsOf (jsOf h.objs.size ls)) }
def zH4 (h : Heap) (ls : List Addr) : Heap := (zH3 h ls).push { cls := .type "tuple", data := .seq (((jsOf h.objs.size ls).map fun j => Value.ref j.1).map fun _ => Value.none).toArray }
def zH5 (h : Heap) (ls : List Addr) : Heap := (zH4 h ls).push { cls := .type "zip", data := .fields #[.none, .bool false, .bool false, .ref (pushIts h ls).objs.size, .ref (zH3 h ls).objs.size] }
theorem meets_zipN_new (ls : List Addr) (l8 : ls.length ≤ 8) :
    Meets (Builtin.«zip.__new__» ⟨.type "zip" :: ls.map Value.ref, []⟩) (fun _ R s => (∀ l ∈ ls, ∃ items, s.heap.IsTuple l items) ∧
      R (.ok (.ret (.ref (zH4 s.heap ls).objs.size))) { s with heap := zH5 s.heap ls }) :=
  .of_wp fun prog w A R s h => by
    obtain ⟨hp, g, d, tk, os⟩ := s; obtain ⟨hl1, h⟩ := h
    have hsub := sub_zip
    have hL : ∀ l ∈ ls, ∃ items, Heap.IsTuple (Shared.heap ⟨hp, g, d, tk, os⟩) l items := hl1
    have ll : ((jsOf hp.objs.size ls).map fun j => Value.ref j.1).length ≤ sizeLine := by
      rw [List.length_map, jsOf_len, sizeLine_eq]
      omega
    have ll2 : (((jsOf hp.objs.size ls).map fun j => Value.ref j.1).map fun _ => Value.none).length ≤ sizeLine := by
      rw [List.length_map]
      exact ll
    wp_walk using wp_iterAll hL, wpAny_newTuple
    all_goals first | exact ⟨_, rfl, h⟩ | exact ll2 | exact ll
theorem call_zipN {ls : List Addr} {Q : Value → Shared → Prop} (l8 : ls.length ≤ 8) (hl : ∀ l ∈ ls, ∃ items, s.heap.IsTuple l items)
    (h : ∀ h' (n : Nat), n = s.heap.objs.size → IsZipG h' (n + ls.length + 2) (n + ls.length) (n + ls.length + 1) .none (.bool false) → IsTupO h' (n + ls.length) (itsOf (jsOf n ls)) →
      (∃ tos, IsTupO h' (n + ls.length + 1) tos ∧ tos.size = (jsOf n ls).length) → (∀ j ∈ jsOf n ls, h'.IsTupleIter j.1 j.2 0) →
      (∀ c o, s.heap.get? c = some o → h'.get? c = some o) → Q (.ref (n + ls.length + 2)) { s with heap := h' }) :
    wpAny (model prog w) A (call (.type "zip") (ls.map Value.ref)) Q E s := by
  have lm : (ls.map Value.ref).length ≤ 8 := by rw [List.length_map]; exact l8
  refine callType_new F.called_zip (by decide) (typeCall_zipN _) (newCall_zipN _ lm) (fun obj => args_object_initN obj _ lm) F.entry_zip_new (meets_zipN_new ls l8) ⟨hl, ?_⟩
  have z2 : (pushIts s.heap ls).objs.size = s.heap.objs.size + ls.length := pushIts_size ..
  have z3 : (zH3 s.heap ls).objs.size = s.heap.objs.size + ls.length + 1 := by unfold zH3; rw [Heap.size_push, z2]
  have z4 : (zH4 s.heap ls).objs.size = s.heap.objs.size + ls.length + 2 := by unfold zH4; rw [Heap.size_push, z3]
  have g5 : (zH5 s.heap ls).get? (zH4 s.heap ls).objs.size = some _ := Heap.get?_push_size _ rfl
  have g4 : (zH5 s.heap ls).get? (zH3 s.heap ls).objs.size = some _ := Heap.get?_push_of_some _ (Heap.get?_push_size _ rfl)
  have g3 : (zH5 s.heap ls).get? (pushIts s.heap ls).objs.size = some _ := Heap.get?_push_of_some _ (Heap.get?_push_of_some _ (Heap.get?_push_size _ rfl))
  have up : ∀ c o, (pushIts s.heap ls).get? c = some o → (zH5 s.heap ls).get? c = some o := fun c o e => Heap.get?_push_of_some _ (Heap.get?_push_of_some _ (Heap.get?_push_of_some _ e))
  show _ ∧ _
  rw [z2, z3, z4] at g5
  rw [z2] at g3
  rw [z3] at g4
  rw [z4]
  refine ⟨⟨_, g5, rfl⟩, h _ _ rfl g5 g3 ⟨_, g4, ?_⟩ (fun j hj => (pushIts_at s.heap ls j hj).at fun o e => up _ o e) fun c o e => up c o (pushIts_old _ ls c o e)⟩
  simp
theorem apart_new {n : Nat} {ls : List Addr} (h : ∀ l ∈ ls, l < n) : Apart (n + ls.length + 2) (n + ls.length) (n + ls.length + 1) (jsOf n ls) := by
  refine ⟨by show (_ : Nat) ≠ _; omega, by show (_ : Nat) ≠ _; omega, by show (_ : Nat) ≠ _; omega, fun j hj => ?_, jsOf_nd _ _, fun j hj => ?_⟩
  · obtain ⟨a, b, c⟩ := jsOf_lt n ls j hj
    exact ⟨Nat.ne_of_lt (Nat.lt_of_lt_of_le b (Nat.le_add_right _ _)), Nat.ne_of_lt b, Nat.ne_of_lt (Nat.lt_of_lt_of_le b (Nat.le_add_right _ _))⟩
  · obtain ⟨a, b, c⟩ := jsOf_lt n ls j hj
    have d := h _ c
    exact ⟨Nat.ne_of_lt (Nat.lt_of_lt_of_le d (by rw [Nat.add_assoc]; exact Nat.le_add_right _ _)), Nat.ne_of_lt (Nat.lt_of_lt_of_le d (by rw [Nat.add_assoc]; exact Nat.le_add_right _ _)), fun k hk => Nat.ne_of_lt (Nat.lt_of_lt_of_le d (jsOf_lt n ls k hk).1)⟩
end
end ZN
namespace ZN
open PySem PySem.Spec PyProof.Rows L2 CM
/-! ### at the level of values -/
/-- the tuples at ps, item by item -/
def ItzN (K : PySem.W.Frag) (ps : List Addr) : It :=
  ⟨fun i H => ∃ row : List V, Paired (fun p v => ∃ xs, SqT K H p xs ∧ xs[i]? = some v) ps row,
    fun i H v H' => ∃ (T : Addr) (row : List V), v = .ref T ∧ H T = none ∧ H' = upd H T (.tup row) ∧ Paired (fun p v => ∀ xs, SqT K H p xs → xs[i]? = some v) ps row,
    fun i H => ∃ p ps' xs, ps = p :: ps' ∧ SqT K H p xs ∧ xs.length ≤ i⟩
def fpN (z TI TO : Addr) (js : Js) : List Addr := z :: TI :: TO :: js.map (·.1)
theorem Gives.of {X : Cx} {pins : List (Addr × Obj)} {σ : L2.St} {H : Hp} {s : Shared} (I : Inv X pins σ H s) {i : Nat} : ∀ {js : Js} {row : List V}, Paired (fun p v => ∃ xs, SqT X.K H p xs ∧ xs[i]? = some v) (js.map (·.2)) row → ∃ us, Gives s.heap i js us ∧ Vals row us
  | [], _, .nil => ⟨[], .nil, .nil⟩
  | j :: js, _, .cons a t => by
    obtain ⟨xs, hx, hv⟩ := a
    obtain ⟨its, rv, p, _⟩ := I.tuple hx
    obtain ⟨u, hu, ru⟩ := rv.get hv
    obtain ⟨us, g, r⟩ := Gives.of I t
    exact ⟨u :: us, .cons ⟨_, p, by simpa using hu⟩ g, .cons ru r⟩
theorem pyIter_zipG {prog : Program} {w : World} {A : Around} {E : Value → Shared → Prop} {s : Shared} {z TI TO : Addr} {f0 f1 : Value} {Q : Value → Shared → Prop} (hz : IsZipG s.heap z TI TO f0 f1) (h : Q (.ref z) s) : wpAny (model prog w) A (pyIter (.ref z)) Q E s := by
  have hT : s.TypeIs (.ref z) "zip" := ⟨_, hz, rfl⟩
  refine wpAny_pyIter_slot hT F.slot_zip_iter (wpAny_call_entry F.slot_zip_iter hT F.entry_zip_iter ?_ (F.args_zip_iter_1 _))
  show wpAny _ _ (ret (.ref z)) _ _ s
  exact wpAny_pure ⟨_, rfl, "zip", _, hT, F.slot_zip_next.lookup, h⟩
theorem turn_zipN {P : Program} {w : World} {K : PySem.W.Frag} {x : Str} {np : Pos} {z TI TO : Addr} {js : Js} (D : Apart z TI TO js) (hne : js ≠ []) (hsz : js.length ≤ 1000) :
    Turn P w K (.Name x np) (ItzN K (js.map (·.2))) (fpN z TI TO js) z (fun i h => ∃ f0 f1 tos, IsZipG h z TI TO f0 f1 ∧ (f0 = .none ∨ ∃ T : Nat, f0 = rawInt T) ∧ IsTupO h TI (itsOf js) ∧ IsTupO h TO tos ∧ tos.size = js.length ∧ ∀ j ∈ js, h.IsTupleIter j.1 j.2 i) where
  mem := List.mem_cons_self ..
  obj := fun i h st c hc => by
    obtain ⟨f0, f1, tos, hz, _, hTI, hTO, _, hi⟩ := st
    rcases List.mem_cons.mp hc with rfl | hc
    · exact ⟨_, hz, fun v q => nomatch q⟩
    rcases List.mem_cons.mp hc with rfl | hc
    · exact ⟨_, hTI, fun v q => nomatch q⟩
    rcases List.mem_cons.mp hc with rfl | hc
    · exact ⟨_, hTO, fun v q => nomatch q⟩
    obtain ⟨j, hj, rfl⟩ := List.mem_map.mp hc
    obtain ⟨o, e, _, d⟩ := hi j hj
    exact ⟨o, e, fun v q => by rw [d] at q; cases q⟩
  keep := fun i h h' st k => by
    obtain ⟨f0, f1, tos, hz, hf, hTI, hTO, ht, hi⟩ := st
    have m1 : z ∈ fpN z TI TO js := List.mem_cons_self ..
    have m2 : TI ∈ fpN z TI TO js := List.mem_cons_of_mem _ (List.mem_cons_self ..)
    have m3 : TO ∈ fpN z TI TO js := List.mem_cons_of_mem _ (List.mem_cons_of_mem _ (List.mem_cons_self ..))
    exact ⟨f0, f1, tos, k z m1 _ hz, hf, k TI m2 _ hTI, k TO m3 _ hTO, ht, fun j hj => (hi j hj).at fun o e => k j.1 (List.mem_cons_of_mem _ (List.mem_cons_of_mem _ (List.mem_cons_of_mem _ (List.mem_map.mpr ⟨j, hj, rfl⟩)))) o e⟩
  item := by
    intro X hP hw hK hc i pins s σ H E I hf st hg
    subst hP hw hK
    obtain ⟨f0, f1, tos, hz, hf0, hTI, hTO, ht, hi⟩ := st
    obtain ⟨row, hr⟩ := hg
    obtain ⟨us, hgv, rv⟩ := Gives.of I hr
    have lus : us.length = js.length := (Paired.length hgv).symm
    have hzl : z < s.heap.objs.size := Heap.lt_size hz
    refine pyNext_zipN_item D hne hsz hz hf0 hTI hTO ht hi hgv fun h' T g1 tos' z' TO' ht' hi' hT hs' hk => ?_
    refine ⟨_, rfl, wpAny_pure ?_⟩
    have new : ObjOk X.prog X.w (upd H s.heap.objs.size (.tup row)) h' s.heap.objs.size (.tup row) :=
      ⟨by rw [rv.length, lus, sizeLine_eq]; omega, us, rv, ⟨_, hT, rfl, _, rfl⟩⟩
    have I1 : Inv X pins σ (upd H s.heap.objs.size (.tup row)) { s with heap := h' } :=
      I.turnedNew (t' := s.toks) (ch := fpN z TI TO js) (fun c o hb q => hk c o (fun q' => hb (by rw [q']; exact List.mem_cons_self ..)) (fun q' => hb (by rw [q']; exact List.mem_cons_of_mem _ (List.mem_cons_of_mem _ (List.mem_cons_self ..))))
        (fun j hj q' => hb (by rw [q']; exact List.mem_cons_of_mem _ (List.mem_cons_of_mem _ (List.mem_cons_of_mem _ (List.mem_map.mpr ⟨j, hj, rfl⟩))))) q) hf (Nat.le_refl _) new
    have hTI' : IsTupO h' TI (itsOf js) := hk TI _ D.TIz D.TITO (fun j hj e => (D.iz j hj).2.1 e.symm) hTI
    refine ⟨.ref s.heap.objs.size, _, I1, rfl, ⟨_, row, rfl, I.hok.fresh (Nat.le_refl _), rfl, Paired.mapP hr fun p v ⟨xs, hx, hv⟩ ys hy => by rw [I.tuple_inj hy hx]; exact hv⟩, ⟨_, g1, tos', z', .inr ⟨T, rfl⟩, hTI', TO', ht', hi'⟩, fun c hcm => ?_⟩
    have hlt : c < s.heap.objs.size := by
      rcases List.mem_cons.mp hcm with rfl | hcm
      · exact hzl
      rcases List.mem_cons.mp hcm with rfl | hcm
      · exact Heap.lt_size hTI
      rcases List.mem_cons.mp hcm with rfl | hcm
      · exact Heap.lt_size hTO
      obtain ⟨j, hj, rfl⟩ := List.mem_map.mp hcm
      obtain ⟨_, e, _⟩ := hi j hj
      exact Heap.lt_size e
    rw [upd_ne (Nat.ne_of_lt hlt)]
    exact (hf c hcm).1
  done := by
    intro X hP hw hK hc i pins s σ H E I hf st hg
    subst hP hw hK
    obtain ⟨f0, f1, tos, hz, hf0, hTI, hTO, ht, hi⟩ := st
    obtain ⟨p, ps', xs, ep, hx, hl⟩ := hg
    cases js with
    | nil => exact absurd rfl hne
    | cons j js =>
      obtain ⟨rfl, _⟩ := List.cons.inj ep
      obtain ⟨its, rv, pp, _⟩ := I.tuple hx
      have l1 := rv.length
      refine pyNext_zipN_end (I.ok.hd hc) D hz hf0 hTI (hi j (List.mem_cons_self ..)) pp (by simp; omega) fun h' hk => ⟨rfl, I.turnedL (t' := s.toks) (ch := fpN z TI TO (j :: js)) (fun c o hb q => hk c o (fun q' => hb (by rw [q']; exact List.mem_cons_self ..)) (fun q' => hb (by rw [q']; exact List.mem_cons_of_mem _ (List.mem_cons_of_mem _ (List.mem_cons_self ..))))
        (fun j' hj q' => hb (by rw [q']; exact List.mem_cons_of_mem _ (List.mem_cons_of_mem _ (List.mem_cons_of_mem _ (List.mem_map.mpr ⟨j', hj, rfl⟩))))) q) hf⟩
  self := fun A i s Q E st h => by
    obtain ⟨f0, f1, tos, hz, _⟩ := st
    exact pyIter_zipG hz h
theorem callWith_typeS {M : Model} {A : Around} {E : Value → Shared → Prop} {s : Shared} {pos : Pos} {T : String} {x : Sem Value} {Q : Value → Shared → Prop}
    (h : wpAny M A x (fun v s₁ => PySem.W.StarOf M A E v (fun vs s₂ => wpAny M A (call (.type T) vs) Q E s₂) s₁) E s) :
    wpAny M A (callWith pos (.type T) [] [(true, (do let v ← x; standAt pos; pure v))] []) Q E s := by
  unfold callWith
  refine wpAny_bind (wpAny_holding (PySem.W.ks_lone (wpAny_mono h (fun v s₁ h₁ => ?_) fun _ _ e => e)))
  unfold PySem.W.StarOf at h₁ ⊢
  refine wpAny_mono h₁ (fun b s₂ h₂ => ⟨h₂.1, wpAny_mono h₂.2 (fun vs s₃ h₃ => ?_) fun _ _ e => e⟩) fun _ _ e => e
  refine wpAny_bind (wpAny_standAt ?_)
  refine wpAny_bind (wpAny_pure ?_)
  exact wpAny_bind (wpAny_operateT (wpAny_mono h₃ (fun r s₂ hr => wpAny_bind (wpAny_holding (wpAny_point (wpAny_pure hr)))) fun _ _ x => x))
theorem jsOf_snd : ∀ (n : Nat) (ls : List Addr), (jsOf n ls).map (·.2) = ls
  | n, [] => rfl
  | n, l :: ls => by
    show l :: (jsOf (n + 1) ls).map (·.2) = l :: ls
    rw [jsOf_snd]
/-- for .. in zip(*l), the rows at ps -/
def iZipN (K : PySem.W.Frag) (te : TE) : TI := fun σ H R => te σ H fun y H1 => ∃ (l : Addr) (ps : List Addr), y = .ref l ∧ (SqT K H1 l (ps.map V.ref) ∨ SqL K H1 l (ps.map V.ref)) ∧ ps ≠ [] ∧ ps.length ≤ 8 ∧ (∀ p ∈ ps, ∃ xs, SqT K H1 p xs) ∧ R (ItzN K ps) H1
theorem vals_refs : ∀ {ps : List Addr} {us : List Value}, Vals (ps.map V.ref) us → us = ps.map Value.ref
  | [], _, .nil => rfl
  | p :: ps, _, .cons r t => by
    cases r
    rw [vals_refs t]
    rfl
theorem pi_zipS {X : Cx} {e : Expr} {te : TE} {p sp pos np : Pos} {x : Str} (hg : Gl X "zip") (hm : X.mg "zip" = none) (he : PE X e te)
    (hst : starEach [.Starred e sp] X.env = [(true, eval e X.env)] := by rfl) : PI X (.Name x np) (.Call (.Name "zip" p) [.Starred e sp] [] pos) (iZipN X.K te) := by
  refine ⟨fun pins s σ H R I h => ?_⟩
  refine Call_ (ld_blt I hg hm PyProof.Rows.boot_zip ?_)
  rw [hst]
  refine callWith_typeS (thn (he.run pins s σ H _ I h) fun v s1 ⟨y, H1, I1, ry, l, ps, ey, hl, hne, h8, hps, q⟩ => ?_)
  subst ey
  obtain rfl : v = Value.ref l := ry
  refine StX.star_any I1 hl fun us s2 I2 rv => ?_
  rw [vals_refs rv]
  have tu : ∀ p ∈ ps, ∃ items, s2.heap.IsTuple p items := fun p hp => by
    obtain ⟨xs, hx⟩ := hps p hp
    obtain ⟨its, _, pp, _⟩ := I2.tuple hx
    exact ⟨_, pp⟩
  refine call_zipN h8 tu fun h' n en hz hTI hTO hi hk => pyIter_zipG hz ?_
  subst en
  obtain ⟨tos, hTO, htz⟩ := hTO
  have I3 : Inv X pins σ H1 { s2 with heap := h' } := I2.kept (t' := s2.toks) hk
  have nl : (jsOf s2.heap.objs.size ps).length = ps.length := jsOf_len ..
  refine ⟨s2.heap.objs.size + ps.length + 2, fpN (s2.heap.objs.size + ps.length + 2) (s2.heap.objs.size + ps.length) (s2.heap.objs.size + ps.length + 1) (jsOf s2.heap.objs.size ps), _, ItzN X.K ((jsOf s2.heap.objs.size ps).map (·.2)), H1, rfl, I3,
    turn_zipN (apart_new fun l hl => ?_) (fun z => hne ?_) (by rw [nl]; omega), ⟨_, _, tos, hz, .inl rfl, hTI, hTO, htz, hi⟩, fun c hc => ?_, ?_⟩
  · obtain ⟨_, o, ho, _⟩ := tu l hl
    exact Heap.lt_size ho
  · rw [z] at nl
    exact List.eq_nil_of_length_eq_zero nl.symm
  · have hle : s2.heap.objs.size ≤ c := by
      rcases List.mem_cons.mp hc with rfl | hc
      · rw [Nat.add_assoc]; exact Nat.le_add_right _ _
      rcases List.mem_cons.mp hc with rfl | hc
      · exact Nat.le_add_right _ _
      rcases List.mem_cons.mp hc with rfl | hc
      · rw [Nat.add_assoc]; exact Nat.le_add_right _ _
      obtain ⟨j, hj, rfl⟩ := List.mem_map.mp hc
      exact (jsOf_lt _ _ j hj).1
    exact I2.fpOk hle (I2.hok.fresh hle)
  · rw [jsOf_snd]
    exact q
/-- the rows of one length -/
theorem walk_zipN {K : PySem.W.Frag} {ps : List Addr} {n : Nat} {rows : List (List V)} (hne : ps ≠ []) :
    Walk (ItzN K ps) n (fun H => Paired (fun p xs => SqT K H p xs ∧ xs.length = n) ps rows) (fun i H v H' => ∃ (T : Addr) (row : List V), v = .ref T ∧ H T = none ∧ H' = upd H T (.tup row) ∧ Paired (fun p v => ∀ xs, SqT K H p xs → xs[i]? = some v) ps row) := by
  refine ⟨fun i H hi g => ?_, fun H g => ?_, fun i H v H' _ _ y => y⟩
  · have z : ∀ {ps : List Addr} {rows : List (List V)}, Paired (fun p xs => SqT K H p xs ∧ xs.length = n) ps rows → ∃ row : List V, Paired (fun p v => ∃ xs, SqT K H p xs ∧ xs[i]? = some v) ps row := by
      intro ps rows g
      induction g with
      | nil => exact ⟨[], .nil⟩
      | @cons p xs _ _ a _ ih =>
        obtain ⟨row, r⟩ := ih
        exact ⟨_, .cons ⟨xs, a.1, List.getElem?_eq_getElem (by rw [a.2]; exact hi)⟩ r⟩
    exact z g
  · cases g with
    | nil => exact absurd rfl hne
    | @cons p xs ps' _ a t => exact ⟨p, ps', xs, rfl, a.1, Nat.le_of_eq a.2⟩
end ZN
set_option Elab.async false
set_option linter.all false
set_option maxRecDepth 100000
set_option maxHeartbeats 4000000
namespace SM
open PySem PySem.Spec PyProof.Rows L2 CM
/-! ### C.m(..) and o.m(..), m a staticmethod -/
structure SMet (K : PySem.W.Frag) (C : Addr) (mc : Value) (m : Str) (p g : Addr) : Prop where
  at_ : PySem.W.findCls K (.ref C) mc m = some (.get (.builtin "staticmethod.__get__") (.ref p) .none (.ref C))
  rc : ∃ rest, PySem.W.recIn K p "staticmethod" = some (.ref g :: rest)
structure SInst (K : PySem.W.Frag) (C : Addr) (m : Str) (p g : Addr) : Prop where
  pg : PySem.W.plainGet K C Str.empty = true
  ic : PySem.W.isClsIn K C = true
  at_ : PySem.W.findIn K (.ref C) m = some (some (.ref p))
  ty : PySem.W.typeIn K (.ref p) = some (.type "staticmethod")
  get : PySem.W.specialIn K (.ref p) "__get__" = some (some (.builtin "staticmethod.__get__"))
  tk : PySem.W.takesIn K (.ref p) = some false
  cp : PySem.W.copiedNames.contains m = false
  rc : ∃ rest, PySem.W.recIn K p "staticmethod" = some (.ref g :: rest)
section
variable {X : Cx} {pins : List (Addr × Obj)} {σ : L2.St} {H : Hp} {s : Shared} {a C p g : Addr} {mc : Value} {f m : Str} {v : V} {u : Value} {A : Around} {E : Value → Shared → Prop}
theorem getsm_ok {b : Bool} {Q : Value → Shared → Prop} (I : Inv X pins σ H s) (r : ClX.CRead X.K C mc) (k : SMet X.K C mc m p g) (h : ∀ s', Inv X pins σ H s' → Q (.ref g) s') : wpAny (model X.prog X.w) A (getAttr (.ref C) m b) Q E s := by
  obtain ⟨rest, hp⟩ := k.rc
  refine PySem.W.cls_bind I.kIn r.rd k.at_ ?_
  refine wpAny_call (PySem.W.sm_get (s := { s with toks := s.toks + 1 }) I.kIn hp (PySem.W.handed_on rfl ?_))
  exact h _ (I.tok _)
theorem getmethsm_ok {pl : Sem Bool} {Q : Value × List Value → Shared → Prop} (I : Inv X pins σ H s) (r : ClX.CRead X.K C mc) (k : SMet X.K C mc m p g)
    (h : ∀ s', Inv X pins σ H s' → Q (.ref g, []) s') : wpAny (model X.prog X.w) A (getMethod (.ref C) m pl) Q E s :=
  PySem.W.method_cls I.kIn r.ga (getsm_ok I r k h)
theorem getmethism_ok {pl : Sem Bool} {ox od : Obj} {Q : Value × List Value → Shared → Prop} (I : Inv X pins σ H s) (J : PySem.W.InstAt s.heap a ox C (some od)) (hl : PySem.W.lookIn m od = some none) (k : SInst X.K C m p g)
    (h : ∀ s', Inv X pins σ H s' → Q (.ref g, []) s') : wpAny (model X.prog X.w) A (getMethod (.ref a) m pl) Q E s := by
  obtain ⟨rest, hp⟩ := k.rc
  refine PySem.W.method_usual (r := some (.ref p)) I.kIn J (PySem.W.plainGet_of (show PySem.W.plainGet X.K C m = true from k.pg)).1 (PySem.W.plainGet_of (show PySem.W.plainGet X.K C m = true from k.pg)).2 k.at_ ?_ ?_
  · show ((PySem.W.typeIn X.K (.ref p)).any fun t => t != .type "function" && t != .type "method_descriptor" && t != .type "wrapper_descriptor") = true
    rw [k.ty]
    decide +kernel
  · refine PySem.W.get_bind I.kIn J (PySem.W.plainGet_of (show PySem.W.plainGet X.K C m = true from k.pg)).1 (ClX.find_cm k.ic k.at_ k.get k.tk k.cp hl) (PySem.W.plainGet_of (show PySem.W.plainGet X.K C m = true from k.pg)).2 ?_
    refine wpAny_call (PySem.W.sm_get (s := { s with toks := s.toks + 1 }) I.kIn hp (PySem.W.handed_on rfl ?_))
    exact h _ (I.tok _)
end
/-- e.m(..), e the class at C, m a staticmethod; what it lets out may hang on the names -/
def tSMeth (C : Addr) (sp : Sp) (E : L2.St → XK) (ta : TE) (t : TA) : TE := fun σ H Q => ta σ H fun x H1 => x = .ref C ∧ t σ H1 fun vs H2 => sp vs H2 Q (E σ)
def tISMeth (C : Addr) (m : Str) (sp : Sp) (E : L2.St → XK) (ta : TE) (t : TA) : TE := fun σ H Q => ta σ H fun x H1 => ∃ a dx fs, x = .ref a ∧ H1 a = some (.ins C dx fs) ∧ fs.lookup m = none ∧ t σ H1 fun ws H2 => sp ws H2 Q (E σ)
section
variable {X : Cx} {CX : CXT} {k : Nat} {C p g : Addr} {mc : Value} {fd : FuncData} {ps : List Str} {sp : Sp} {E : L2.St → XK} {o e : Expr} {es : List Expr} {f m : Str} {pos apos : Pos} {ta : TE} {t : TA} {pl : Sem Bool}
theorem run_fnS {pins : List (Addr × Obj)} {σ : L2.St} {H : Hp} {s : Shared} {Q : VK} {us : List Value} {vs : List V} (F : FnOk X.prog X.w X.K X.mg X.base CX k g fd ps sp) (hr : Room k X.A) (hb : Binds X.K fd ps []) (hx : PassesAt CX X σ (E σ))
    (I : Inv X pins σ H s) (r : Vals vs us) (h : sp vs H Q (E σ)) : wpAny (model X.prog X.w) X.A (call (.ref g) us) (EP X pins σ Q) X.xe s := by
  have hl : (us ++ ([] : List Value)).length = ps.length := by rw [List.append_nil, ← r.length]; exact F.len _ _ _ _ h
  have bb := hb s us I.kIn hl
  rw [List.append_nil] at bb
  refine wpAny_call (codeAny_mono (F.run X.A X.stack s H ⟨us, []⟩ us vs Q (E σ) hr I.env0 bb r h) fun r s' hq => ?_)
  cases r with
  | error e => exact hx pins H s e s' I hq
  | ok fl =>
    cases fl with
    | ret u => exact I.after hq
    | next => exact False.elim hq
    | brk => exact False.elim hq
    | cont => exact False.elim hq
theorem pe_smeth (he : PE X o ta) (r : ClX.CRead X.K C mc) (c : SMet X.K C mc m p g) (hk : PySem.W.keepIn X.K (.ref g) = true) (F : FnOk X.prog X.w X.K X.mg X.base CX k g fd ps sp) (hr : Room k X.A) (hb : Binds X.K fd ps []) (hx : ∀ σ, PassesAt CX X σ (E σ)) (ha : PA X (e :: es) t)
    (hst : starEach (e :: es) X.env = (false, eval e X.env) :: starEach es X.env := by rfl) (hpl : (backTo pos (starEach es X.env)).any (·.1) = false := by rfl)
    (ht : eval (.Call (.Attribute o m apos) (e :: es) [] pos) X.env = (do
      let ov ← eval o X.env
      standAt apos.atName
      let (f, first) ← holding [ov] (getMethod ov m pl)
      callWith pos f first (backTo pos (starEach (e :: es) X.env)) (backToKw pos (keywordEach [] X.env))) := by rfl) :
    PE X (.Call (.Attribute o m apos) (e :: es) [] pos) (tSMeth C sp E ta t) := by
  refine ⟨fun pins s σ H Q I h => ?_⟩
  refine PySem.W.methodCall_KW (pl := pl) (thn (he.run pins s σ H _ I h) fun u s1 ⟨x, H1, I1, rx, ex, q⟩ => ?_) ht
  subst ex
  obtain rfl : u = Value.ref C := rx
  refine getmethsm_ok I1 r c fun s2 I2 => ?_
  refine PySem.W.callWith_K (h₀ := X.base) (first := []) I.ok.mod.kin hk (thn (ha.run pos pins s2 σ H1 _ I2 q) fun us s3 ⟨vs, H2, I3, rv, q2⟩ => ⟨I3.kIn, ?_⟩) hst hpl
  exact run_fnS F hr hb (hx σ) I3 rv q2
theorem pe_ismeth (he : PE X o ta) (c : SInst X.K C m p g) (hk : PySem.W.keepIn X.K (.ref g) = true) (F : FnOk X.prog X.w X.K X.mg X.base CX k g fd ps sp) (hr : Room k X.A) (hb : Binds X.K fd ps []) (hx : ∀ σ, PassesAt CX X σ (E σ)) (ha : PA X (e :: es) t)
    (hst : starEach (e :: es) X.env = (false, eval e X.env) :: starEach es X.env := by rfl) (hpl : (backTo pos (starEach es X.env)).any (·.1) = false := by rfl)
    (ht : eval (.Call (.Attribute o m apos) (e :: es) [] pos) X.env = (do
      let ov ← eval o X.env
      standAt apos.atName
      let (f, first) ← holding [ov] (getMethod ov m pl)
      callWith pos f first (backTo pos (starEach (e :: es) X.env)) (backToKw pos (keywordEach [] X.env))) := by rfl) :
    PE X (.Call (.Attribute o m apos) (e :: es) [] pos) (tISMeth C m sp E ta t) := by
  refine ⟨fun pins s σ H Q I h => ?_⟩
  refine PySem.W.methodCall_KW (pl := pl) (thn (he.run pins s σ H _ I h) fun u s1 ⟨x, H1, I1, rx, a, dx, fs, ex, ea, l, q⟩ => ?_) ht
  subst ex
  obtain rfl : u = Value.ref a := rx
  obtain ⟨mA, O, rr, _, _, _⟩ := ins_get I1.hok ea
  have hn : mA m = none := RelO.none_of (by rw [← l]; exact rr m)
  obtain ⟨od, J, hl⟩ := O.look
  refine getmethism_ok I1 J (by rw [hl m, hn]) c fun s2 I2 => ?_
  refine PySem.W.callWith_K (h₀ := X.base) (first := []) I.ok.mod.kin hk (thn (ha.run pos pins s2 σ H1 _ I2 q) fun us s3 ⟨vs, H2, I3, rv, q2⟩ => ⟨I3.kIn, ?_⟩) hst hpl
  exact run_fnS F hr hb (hx σ) I3 rv q2
end
/-! ### a head's facts of it -/
/-- the class at C has m as a staticmethod, reached by the class and by an instance -/
def staB (K : PySem.W.Frag) (C : Addr) (m : Str) : Bool := He5.wrapB K C "staticmethod" "staticmethod.__get__" m && (PySem.W.readsIn K C (.type "type") && (He.eqO (PySem.W.specialIn K (.ref C) "__getattribute__") (some (some (.builtin "type.__getattribute__"))) &&
  (PySem.W.plainGet K C Str.empty && (PySem.W.isClsIn K C && (He.eqO (PySem.W.findIn K (.ref C) m) (some (some (.ref (He.ma K C m)))) && (decide (PySem.W.typeIn K (.ref (He.ma K C m)) = some (.type "staticmethod")) &&
  (He.eqO (PySem.W.specialIn K (.ref (He.ma K C m)) "__get__") (some (some (.builtin "staticmethod.__get__"))) && (decide (PySem.W.takesIn K (.ref (He.ma K C m)) = some false) && !PySem.W.copiedNames.contains m))))))))
/-- the def behind it -/
def staF (K : PySem.W.Frag) (C : Addr) (m : Str) : Addr := He5.wf K C "staticmethod" m
structure Sta (K : PySem.W.Frag) (C : Addr) (m : Str) : Prop where
  rd : ClX.CRead K C (.type "type")
  met : SMet K C (.type "type") m (He.ma K C m) (staF K C m)
  ins : SInst K C m (He.ma K C m) (staF K C m)
theorem staB_ok {K : PySem.W.Frag} {C : Addr} {m : Str} (h : staB K C m = true) : Sta K C m := by
  obtain ⟨h1, h⟩ := He.ba h
  obtain ⟨h2, h⟩ := He.ba h
  obtain ⟨h3, h⟩ := He.ba h
  obtain ⟨h4, h⟩ := He.ba h
  obtain ⟨h5, h⟩ := He.ba h
  obtain ⟨h6, h⟩ := He.ba h
  obtain ⟨h7, h⟩ := He.ba h
  obtain ⟨h8, h⟩ := He.ba h
  obtain ⟨h9, h10⟩ := He.ba h
  obtain ⟨w1, w2⟩ := He5.wrapB_ok h1
  exact ⟨⟨h2, He.eqO_ok h3⟩, ⟨w1, w2⟩, ⟨h4, h5, He.eqO_ok h6, of_decide_eq_true h7, He.eqO_ok h8, of_decide_eq_true h9, Bool.not_eq_true' _ ▸ h10, w2⟩⟩
/-! ### a hook: what the names reach and the interpreter's own statics, tables left out, defs at any address -/
abbrev AlZ : Type := He.AlX × List He5.FnW
def obsZ (n : Nat) (fa : List He.Fa) (fn : List He.DefD) (tf : List He.Defn) (da : List He5.DefA) (ex : PySem.W.Frag → Bool) (g : Addr → Option Obj) : AlZ :=
  ((He.obsT fa fn [] (OX.reachY g n), (ex (OX.reachY g n) && da.all fun d => d.ok (OX.reachY g n)) && He.tabsB g tf (OX.reachY g n)), da.map fun d => He5.fnA (OX.reachY g n) (d.at_ (OX.reachY g n)))
def valZ (fn : List He.DefD) (da : List He5.DefA) (w : World) : AlZ := (He.valX fn [] w, da.map He5.DefA.val)
structure SaysZ (fa : List He.Fa) (fn : List He.DefD) (tf : List He.Defn) (da : List He5.DefA) (ex : PySem.W.Frag → Bool) (w : World) (h : Heap) (K : PySem.W.Frag) : Prop where
  x : He.SaysX fa fn [] tf ex w h K
  dok : ∀ d ∈ da, d.ok K = true
  dat : da.map (fun d => He5.fnA K (d.at_ K)) = da.map He5.DefA.val
theorem saysZ {n : Nat} {fa : List He.Fa} {fn : List He.DefD} {tf : List He.Defn} {da : List He5.DefA} {ex : PySem.W.Frag → Bool} {w : World} {h : Heap} (e : obsZ n fa fn tf da ex h.get? = valZ fn da w) : SaysZ fa fn tf da ex w h (OX.reachY h.get? n) := by
  have e1 : He.obsT fa fn [] (OX.reachY h.get? n) = He.valT fn [] w := congrArg (fun z : AlZ => z.1.1) e
  have e2 : ((ex (OX.reachY h.get? n) && da.all fun d => d.ok (OX.reachY h.get? n)) && He.tabsB h.get? tf (OX.reachY h.get? n)) = true := congrArg (fun z : AlZ => z.1.2) e
  have e3 : da.map (fun d => He5.fnA (OX.reachY h.get? n) (d.at_ (OX.reachY h.get? n))) = da.map He5.DefA.val := congrArg (fun z : AlZ => z.2) e
  obtain ⟨h0, h2⟩ := He.ba e2
  obtain ⟨h1, hd⟩ := He.ba h0
  have key : ∀ p ∈ tf, PySem.W.codeHdIn (OX.reachY h.get? n) (He.cT (OX.reachY h.get? n) p).1 (He.cT (OX.reachY h.get? n) p).2 = true ∧ ∃ o, h.get? (He.cT (OX.reachY h.get? n) p).2 = some o ∧ He.emptyTab o = true := fun p hp => by
    obtain ⟨h3, h4⟩ := He.ba (List.all_eq_true.mp h2 p hp)
    refine ⟨h3, ?_⟩
    cases q : h.get? (He.cT (OX.reachY h.get? n) p).2 with
    | none =>
      rw [q] at h4
      cases h4
    | some o =>
      rw [q] at h4
      exact ⟨o, rfl, h4⟩
  exact ⟨⟨e1, h1, fun p hp => (key p hp).1, fun p hp => by
    obtain ⟨_, o, q, z⟩ := key p hp
    exact He.frT_none q z, fun p hp => by
    obtain ⟨_, o, q, z⟩ := key p hp
    rw [q, He.emptyTab_eq z]⟩, fun d hd' => List.all_eq_true.mp hd d hd', e3⟩
def hookZ (n : Nat) (fa : List He.Fa) (fn : List He.DefD) (tf : List He.Defn) (da : List He5.DefA) (ex : PySem.W.Frag → Bool) : PySem.W.Hook where
  α := AlZ
  obs s := obsZ n fa fn tf da ex s.heap.get?
  val w := valZ fn da w
  says w h := ∃ K : PySem.W.Frag, K.In h ∧ SaysZ fa fn tf da ex w h K
  of _ s e := ⟨OX.reachY s.heap.get? n, He.frT_in, saysZ e⟩
  keeps _ _ _ z k := by
    obtain ⟨K, hK, c⟩ := z
    exact ⟨K, hK.keeps k, ⟨⟨c.x.t, c.x.more, c.x.hd, c.x.out, fun p hp => k _ _ (c.x.empty p hp)⟩, c.dok, c.dat⟩⟩
theorem obsZ_eq {n : Nat} {fa : List He.Fa} {fn : List He.DefD} {tf : List He.Defn} {da : List He5.DefA} {ex : PySem.W.Frag → Bool} {g : Addr → Option Obj} {s : Shared} (h : ∀ a, g a = s.heap.get? a) : obsZ n fa fn tf da ex g = (hookZ n fa fn tf da ex).obs s := by
  rw [show g = s.heap.get? from funext h]
  rfl
theorem SaysZ.def_ {fa : List He.Fa} {fn : List He.DefD} {tf : List He.Defn} {da : List He5.DefA} {ex : PySem.W.Frag → Bool} {w : World} {h : Heap} {K : PySem.W.Frag} (c : SaysZ fa fn tf da ex w h K) (i : Nat) {d : He5.DefA} (e : da[i]? = some d := by rfl) : ∃ fd, L2.FunD K d.name d.qual d.params d.body d.scope (d.dvs K) (d.kws K) (d.at_ K) fd := by
  have e2 : (da.map fun d => He5.fnA K (d.at_ K))[i]? = (da.map He5.DefA.val)[i]? := by rw [c.dat]
  rw [List.getElem?_map, List.getElem?_map, e] at e2
  exact He5.DefA.funD (Option.some.inj e2) (c.dok d (List.mem_of_getElem? e))
end SM
set_option Elab.async false
set_option linter.all false
set_option maxRecDepth 100000
set_option maxHeartbeats 4000000
/-! methods whose text names super(): they have a cell __class__; told by their body; a hook that sees such defs -/
namespace CF
open PySem PySem.Spec PyProof.Rows L2 CM LamX NdefX
/-- what stands of such a def -/
structure ClsF (K : PySem.W.Frag) (f : Addr) (F : NF) (fd : FuncData) : Prop where
  ex : ∃ (oc : Value) (od : Option Addr) (doc pm ct : Value) (osl : Array (Option Value)) (cc : Addr) (cl : Value) (cld : Option Addr) (csl : Array (Option Value)) (D : Addr),
    fd = F.fd doc pm ct ∧ K.lookup f = some ⟨oc, od, .func (F.fd doc pm ct), osl⟩ ∧ F.cl = [(("__class__" : Str), cc)] ∧ PySem.W.codeIn K (.ref F.c) F.qual = true ∧ K.lookup cc = some ⟨cl, cld, .cell (some (.ref D)), csl⟩
  kp : PySem.W.keepIn K (.ref f) = true
section
variable {P : Program} {w : World} {K : PySem.W.Frag} {mg : Str → Option Value} {base : Heap} {CX : CXT} {k : Nat} {f : Addr} {F : NF} {fd : FuncData} {N ps : List Str} {sp : Sp}
theorem ok_clsF (Z : ClsF K f F fd) (S : NScope N ps ["__class__"] F.scope) (len : ∀ vs H Q E, sp vs H Q E → vs.length = ps.length)
    (hbody : ∀ (A : Around) (outer : List Env) (s : Shared) (H : Hp) (vs : List V) (Q : VK) (E : XK), Room k (A.deeper (envF F f s.heap.objs.size)) → sp vs H Q E →
      ∃ t, PSs (ncx CX P w K mg base N F f A outer s H E) F.body t ∧ t { nx := fun _ H' => Q .non H', rt := Q } (startF N vs [none]) H) : FnOk P w K mg base CX (k + 1) f fd ps sp := by
  obtain ⟨oc, od, doc, pm, ct, osl, cc, cl, cld, csl, D, rfl, lk, hcl, hcd, hcell⟩ := Z.ex
  refine ⟨len, fun A outer s H args us vs Q E hr e0 bt r h => ?_⟩
  have old : ∀ b o, base.get? b = some o → s.heap.get? b = some o := fun b o e => (e0.bs b o e).1
  have X0 : K.In s.heap := e0.mod.kin.keeps old
  have hH : ∀ {b : Addr} {o : Obj}, K.lookup b = some o → H b = none := fun {b o} e => (e0.bs b o (e0.mod.kin b o e)).2
  have look : ∀ {y c}, F.cl.lookup y = some c → y = "__class__" ∧ c = cc := fun {y c} z => by
    rw [hcl] at z
    simp only [List.lookup] at z
    split at z
    · rename_i q
      exact ⟨beq_iff_eq.mp q, (Option.some.inj z).symm⟩
    · cases z
  have Cl : CellsAt F.cl ["__class__"] [none] s.heap H := by
    refine ⟨rfl, fun y c z => ?_, fun x y c z1 z2 => (look z1).1.trans (look z2).1.symm, fun i y z => ?_⟩
    · rw [(look z).2]
      exact ⟨hH hcell, _, _, X0 _ _ hcell, rfl⟩
    · cases i with
      | zero =>
        have e1 : "__class__" = y := Option.some.inj z
        subst e1
        exact ⟨cc, by rw [hcl]; rfl, fun v q => by cases q⟩
      | succ i => cases z
  have lim : s.heap.NoLimit := e0.mod.nolimit.keeps old
  have hl := len _ _ _ _ h
  refine codeAny_call_function hr.depth (X0 _ _ lk) rfl S.co S.gen rfl (PySem.W.codeRec_of X0 hcd) (bt _ _ _ _ ?_)
  refine wpAny_newFunctionEnv S.nocell (fun ⟨n, _⟩ hy => S.par n (List.of_mem_zip hy).1) (fun h₁ hns hsb => ⟨lim.fresh _ hsb, ?_⟩) S.kind
  show codeAny _ _ (.func F.body (envF F f s.heap.objs.size)) _ _
  refine codeAny_func ?_
  have kp : ∀ b o, s.heap.get? b = some o → h₁.get? b = some o := fun b o e => hsb.extBut b o (Nat.ne_of_lt (Heap.lt_size e)) (Heap.get?_push_of_some _ e)
  obtain ⟨t, ht, hq⟩ := hbody A outer s H vs Q E (hr.deeper _) h
  have J : Inv (ncx CX P w K mg base N F f A outer s H E) [] (startF N vs [none]) H { s with heap := h₁, toks := s.toks + (ps.zip us).length } := inv_startN S hr.hd e0 hl r Cl hns kp
  refine wpAny_mono (ht.run [] _ _ _ _ J hq) (fun fl s' hs => ?_) fun e s' hs => hs
  cases fl with
  | ret u =>
    obtain ⟨v, σ', H', J', rv, q⟩ := hs
    exact ⟨v, H', J'.os, J'.bare, J'.base, J'.hok, rv, q⟩
  | next =>
    obtain ⟨σ', H', J', q⟩ := hs
    exact ⟨V.non, H', J'.os, J'.bare, J'.base, J'.hok, rfl, q⟩
  | brk =>
    obtain ⟨_, _, _, z⟩ := hs
    exact False.elim z
  | cont =>
    obtain ⟨_, _, _, z⟩ := hs
    exact False.elim z
end
/-! ### what a head sees of it -/
abbrev FnC : Type := Option (Str × Str × Arguments × List Stmt × Scope)
def fnC (K : PySem.W.Frag) (f : Addr) : FnC := match SU.fnAt K f with
  | some fd => some (fd.name, fd.qualname, fd.params, SU.bodyOf fd, fd.scope)
  | none => none
structure DefC where
  cls : Str
  name : Str
  qual : Str
  st : Stmt
def DefC.at_ (d : DefC) (K : PySem.W.Frag) : Addr := He.ma K (He.ga K d.cls) d.name
def DefC.val (d : DefC) : FnC := some (d.name, d.qual, defArgs d.st, defBody d.st, defScope d.st)
def DefC.ok (d : DefC) (K : PySem.W.Frag) : Bool := PySem.W.keepIn K (.ref (d.at_ K)) && (match SU.fnAt K (d.at_ K) with
  | some fd => (!(SU.bodyOf fd).isEmpty && (match SU.supEnd fd with
    | some (cc, c) => PySem.W.codeIn K (.ref c) fd.qualname && (SU.cellAt K cc).isSome
    | none => false))
  | none => false)
theorem DefC.get {K : PySem.W.Frag} {d : DefC} (h : d.ok K = true) (e : fnC K (d.at_ K) = d.val) : ∃ (F : NF) (fd : FuncData), ClsF K (d.at_ K) F fd ∧ F.params = defArgs d.st ∧ F.body = defBody d.st ∧ F.scope = defScope d.st ∧ F.name = d.name ∧ F.qual = d.qual := by
  obtain ⟨kp, h⟩ := He.ba h
  unfold fnC DefC.val at e
  split at h
  · rename_i fd e1
    rw [e1] at e
    obtain ⟨h1, h⟩ := He.ba h
    split at h
    · rename_i cc c e2
      obtain ⟨h2, h3⟩ := He.ba h
      obtain ⟨D, hD⟩ := Option.isSome_iff_exists.mp h3
      obtain ⟨cl, cld, csl, lcell⟩ := SU.cellAt_ok hD
      obtain ⟨oc, od, osl, lk⟩ := SU.fnAt_ok e1
      have nb : SU.bodyOf fd ≠ [] := fun z => by
        rw [z] at h1
        cases h1
      obtain ⟨doc, pm, ct, ef⟩ := SU.supEnd_ok e2 nb
      simp only [Option.some.injEq, Prod.mk.injEq] at e
      obtain ⟨n1, n2, n3, n4, n5⟩ := e
      refine ⟨⟨fd.name, fd.qualname, fd.params, SU.bodyOf fd, fd.scope, [(("__class__" : Str), cc)], c⟩, fd, ⟨⟨oc, od, doc, pm, ct, osl, cc, cl, cld, csl, D, ef, ?_, rfl, h2, lcell⟩, kp⟩, n3, n4, n5, n1, n2⟩
      rw [lk]
      exact congrArg (fun z => some (⟨oc, od, .func z, osl⟩ : Obj)) ef
    · cases h
  · cases h
/-! ### a hook that sees such defs too -/
abbrev AlW : Type := SM.AlZ × (Bool × List FnC)
def obsW (n : Nat) (fa : List He.Fa) (fn : List He.DefD) (tf : List He.Defn) (da : List He5.DefA) (dc : List DefC) (ex : PySem.W.Frag → Bool) (g : Addr → Option Obj) : AlW :=
  (SM.obsZ n fa fn tf da ex g, dc.all (fun d => d.ok (OX.reachY g n)), dc.map fun d => fnC (OX.reachY g n) (d.at_ (OX.reachY g n)))
def valW (fn : List He.DefD) (da : List He5.DefA) (dc : List DefC) (w : World) : AlW := (SM.valZ fn da w, true, dc.map DefC.val)
structure SaysW (fa : List He.Fa) (fn : List He.DefD) (tf : List He.Defn) (da : List He5.DefA) (dc : List DefC) (ex : PySem.W.Frag → Bool) (w : World) (h : Heap) (K : PySem.W.Frag) : Prop where
  z : SM.SaysZ fa fn tf da ex w h K
  ok : ∀ d ∈ dc, d.ok K = true
  dat : dc.map (fun d => fnC K (d.at_ K)) = dc.map DefC.val
theorem saysW {n : Nat} {fa : List He.Fa} {fn : List He.DefD} {tf : List He.Defn} {da : List He5.DefA} {dc : List DefC} {ex : PySem.W.Frag → Bool} {w : World} {h : Heap} (e : obsW n fa fn tf da dc ex h.get? = valW fn da dc w) : SaysW fa fn tf da dc ex w h (OX.reachY h.get? n) := by
  have e1 := congrArg (fun z : AlW => z.1) e
  have e2 := congrArg (fun z : AlW => z.2.1) e
  have e3 := congrArg (fun z : AlW => z.2.2) e
  exact ⟨SM.saysZ e1, fun d hd => List.all_eq_true.mp e2 d hd, e3⟩
def hookW (n : Nat) (fa : List He.Fa) (fn : List He.DefD) (tf : List He.Defn) (da : List He5.DefA) (dc : List DefC) (ex : PySem.W.Frag → Bool) : PySem.W.Hook where
  α := AlW
  obs s := obsW n fa fn tf da dc ex s.heap.get?
  val w := valW fn da dc w
  says w h := ∃ K : PySem.W.Frag, K.In h ∧ SaysW fa fn tf da dc ex w h K
  of _ s e := ⟨OX.reachY s.heap.get? n, He.frT_in, saysW e⟩
  keeps _ _ _ y k := by
    obtain ⟨K, hK, c⟩ := y
    exact ⟨K, hK.keeps k, ⟨⟨⟨c.z.x.t, c.z.x.more, c.z.x.hd, c.z.x.out, fun p hp => k _ _ (c.z.x.empty p hp)⟩, c.z.dok, c.z.dat⟩, c.ok, c.dat⟩⟩
theorem obsW_eq {n : Nat} {fa : List He.Fa} {fn : List He.DefD} {tf : List He.Defn} {da : List He5.DefA} {dc : List DefC} {ex : PySem.W.Frag → Bool} {g : Addr → Option Obj} {s : Shared} (h : ∀ a, g a = s.heap.get? a) : obsW n fa fn tf da dc ex g = (hookW n fa fn tf da dc ex).obs s := by
  rw [show g = s.heap.get? from funext h]
  rfl
theorem SaysW.cls_ {fa : List He.Fa} {fn : List He.DefD} {tf : List He.Defn} {da : List He5.DefA} {dc : List DefC} {ex : PySem.W.Frag → Bool} {w : World} {h : Heap} {K : PySem.W.Frag} (c : SaysW fa fn tf da dc ex w h K) (i : Nat) {d : DefC} (e : dc[i]? = some d := by rfl) :
    ∃ (F : NF) (fd : FuncData), ClsF K (d.at_ K) F fd ∧ F.params = defArgs d.st ∧ F.body = defBody d.st ∧ F.scope = defScope d.st ∧ F.name = d.name ∧ F.qual = d.qual := by
  have e2 : (dc.map fun d => fnC K (d.at_ K))[i]? = (dc.map DefC.val)[i]? := by rw [c.dat]
  rw [List.getElem?_map, List.getElem?_map, e] at e2
  exact DefC.get (c.ok d (List.mem_of_getElem? e)) (Option.some.inj e2)
end CF
set_option Elab.async false
set_option linter.all false
set_option maxRecDepth 100000
set_option maxHeartbeats 4000000
/-! a reach that costs little: what has been seen is a number's bits; hooks over it -/
namespace RC
open PySem PySem.Spec PyProof.Rows L2 CM
@[inline] def force {α : Type} (n : Nat) (f : Nat → α) : α := match n with
  | 0 => f 0
  | .succ p => f (.succ p)
/-- those of the addresses that m has not, each once -/
def fresh {α : Type} : List Addr → Nat → List Addr → (Nat → List Addr → α) → α
  | [], m, acc, k => k m acc
  | a :: as, m, acc, k => match Nat.land (Nat.shiftRight m a) 1 with
    | 0 => force (Nat.lor m (Nat.shiftLeft 1 a)) fun m2 => fresh as m2 (a :: acc) k
    | _ => fresh as m acc k
def refsA (g : Addr → Option Obj) (as : List Addr) : List Addr := as.flatMap fun a => match g a with
  | some o => He.refsD o
  | none => []
def levels (g : Addr → Option Obj) : Nat → List Addr → Nat → List Addr
  | 0, _, _ => []
  | n + 1, fr, m => fresh (refsA g fr) m [] fun m2 nw => nw ++ levels g n nw m2
def asB (g : Addr → Option Obj) (n : Nat) : List Addr := mainGlobals :: cStatics :: sysModules :: levels g n [mainGlobals] (Nat.lor (Nat.shiftLeft 1 mainGlobals) (Nat.lor (Nat.shiftLeft 1 cStatics) (Nat.shiftLeft 1 sysModules)))
def reach (g : Addr → Option Obj) (n : Nat) : PySem.W.Frag := He.frT g (asB g n)
def obsZ (n : Nat) (fa : List He.Fa) (fn : List He.DefD) (tf : List He.Defn) (da : List He5.DefA) (ex : PySem.W.Frag → Bool) (g : Addr → Option Obj) : SM.AlZ :=
  ((He.obsT fa fn [] (reach g n), (ex (reach g n) && da.all fun d => d.ok (reach g n)) && He.tabsB g tf (reach g n)), da.map fun d => He5.fnA (reach g n) (d.at_ (reach g n)))
theorem saysZ {n : Nat} {fa : List He.Fa} {fn : List He.DefD} {tf : List He.Defn} {da : List He5.DefA} {ex : PySem.W.Frag → Bool} {w : World} {h : Heap} (e : obsZ n fa fn tf da ex h.get? = SM.valZ fn da w) : SM.SaysZ fa fn tf da ex w h (reach h.get? n) := by
  have e1 : He.obsT fa fn [] (reach h.get? n) = He.valT fn [] w := congrArg (fun z : SM.AlZ => z.1.1) e
  have e2 : ((ex (reach h.get? n) && da.all fun d => d.ok (reach h.get? n)) && He.tabsB h.get? tf (reach h.get? n)) = true := congrArg (fun z : SM.AlZ => z.1.2) e
  have e3 : da.map (fun d => He5.fnA (reach h.get? n) (d.at_ (reach h.get? n))) = da.map He5.DefA.val := congrArg (fun z : SM.AlZ => z.2) e
  obtain ⟨h0, h2⟩ := He.ba e2
  obtain ⟨h1, hd⟩ := He.ba h0
  have key : ∀ p ∈ tf, PySem.W.codeHdIn (reach h.get? n) (He.cT (reach h.get? n) p).1 (He.cT (reach h.get? n) p).2 = true ∧ ∃ o, h.get? (He.cT (reach h.get? n) p).2 = some o ∧ He.emptyTab o = true := fun p hp => by
    obtain ⟨h3, h4⟩ := He.ba (List.all_eq_true.mp h2 p hp)
    refine ⟨h3, ?_⟩
    cases q : h.get? (He.cT (reach h.get? n) p).2 with
    | none =>
      rw [q] at h4
      cases h4
    | some o =>
      rw [q] at h4
      exact ⟨o, rfl, h4⟩
  exact ⟨⟨e1, h1, fun p hp => (key p hp).1, fun p hp => by
    obtain ⟨_, o, q, z⟩ := key p hp
    exact He.frT_none q z, fun p hp => by
    obtain ⟨_, o, q, z⟩ := key p hp
    rw [q, He.emptyTab_eq z]⟩, fun d hd' => List.all_eq_true.mp hd d hd', e3⟩
def hookZ (n : Nat) (fa : List He.Fa) (fn : List He.DefD) (tf : List He.Defn) (da : List He5.DefA) (ex : PySem.W.Frag → Bool) : PySem.W.Hook where
  α := SM.AlZ
  obs s := obsZ n fa fn tf da ex s.heap.get?
  val w := SM.valZ fn da w
  says w h := ∃ K : PySem.W.Frag, K.In h ∧ SM.SaysZ fa fn tf da ex w h K
  of _ s e := ⟨reach s.heap.get? n, He.frT_in, saysZ e⟩
  keeps _ _ _ z k := by
    obtain ⟨K, hK, c⟩ := z
    exact ⟨K, hK.keeps k, ⟨⟨c.x.t, c.x.more, c.x.hd, c.x.out, fun p hp => k _ _ (c.x.empty p hp)⟩, c.dok, c.dat⟩⟩
theorem obsZ_eq {n : Nat} {fa : List He.Fa} {fn : List He.DefD} {tf : List He.Defn} {da : List He5.DefA} {ex : PySem.W.Frag → Bool} {g : Addr → Option Obj} {s : Shared} (h : ∀ a, g a = s.heap.get? a) : obsZ n fa fn tf da ex g = (hookZ n fa fn tf da ex).obs s := by
  rw [show g = s.heap.get? from funext h]
  rfl
def obsW (n : Nat) (fa : List He.Fa) (fn : List He.DefD) (tf : List He.Defn) (da : List He5.DefA) (dc : List CF.DefC) (ex : PySem.W.Frag → Bool) (g : Addr → Option Obj) : CF.AlW :=
  (obsZ n fa fn tf da ex g, dc.all (fun d => d.ok (reach g n)), dc.map fun d => CF.fnC (reach g n) (d.at_ (reach g n)))
theorem saysW {n : Nat} {fa : List He.Fa} {fn : List He.DefD} {tf : List He.Defn} {da : List He5.DefA} {dc : List CF.DefC} {ex : PySem.W.Frag → Bool} {w : World} {h : Heap} (e : obsW n fa fn tf da dc ex h.get? = CF.valW fn da dc w) : CF.SaysW fa fn tf da dc ex w h (reach h.get? n) := by
  have e1 := congrArg (fun z : CF.AlW => z.1) e
  have e2 := congrArg (fun z : CF.AlW => z.2.1) e
  have e3 := congrArg (fun z : CF.AlW => z.2.2) e
  exact ⟨saysZ e1, fun d hd => List.all_eq_true.mp e2 d hd, e3⟩
def hookW (n : Nat) (fa : List He.Fa) (fn : List He.DefD) (tf : List He.Defn) (da : List He5.DefA) (dc : List CF.DefC) (ex : PySem.W.Frag → Bool) : PySem.W.Hook where
  α := CF.AlW
  obs s := obsW n fa fn tf da dc ex s.heap.get?
  val w := CF.valW fn da dc w
  says w h := ∃ K : PySem.W.Frag, K.In h ∧ CF.SaysW fa fn tf da dc ex w h K
  of _ s e := ⟨reach s.heap.get? n, He.frT_in, saysW e⟩
  keeps _ _ _ y k := by
    obtain ⟨K, hK, c⟩ := y
    exact ⟨K, hK.keeps k, ⟨⟨⟨c.z.x.t, c.z.x.more, c.z.x.hd, c.z.x.out, fun p hp => k _ _ (c.z.x.empty p hp)⟩, c.z.dok, c.z.dat⟩, c.ok, c.dat⟩⟩
theorem obsW_eq {n : Nat} {fa : List He.Fa} {fn : List He.DefD} {tf : List He.Defn} {da : List He5.DefA} {dc : List CF.DefC} {ex : PySem.W.Frag → Bool} {g : Addr → Option Obj} {s : Shared} (h : ∀ a, g a = s.heap.get? a) : obsW n fa fn tf da dc ex g = (hookW n fa fn tf da dc ex).obs s := by
  rw [show g = s.heap.get? from funext h]
  rfl
/-- how a def with a cell __class__ binds -/
theorem _root_.CF.ClsF.bindsN {K : PySem.W.Frag} {f : Addr} {F : NdefX.NF} {fd : FuncData} {pr : Arguments} {ps : List Str} (Z : CF.ClsF K f F fd) (hp : F.params = pr)
    (h : ∀ (nm ql : Str) (bo : List Stmt) (sc : Scope) (cl : List (Str × Addr)) (doc pm cdv ct : Value) (us : List Value), us.length = ps.length → bindArgs (PySem.W.fnX nm ql pr bo sc cl .none .none doc pm none cdv ct) ⟨us, []⟩ = pure (ps.zip us)) : Binds K fd ps [] := by
  obtain ⟨oc, od, doc, pm, ct, osl, cc, cl, cld, csl, D, rfl, _⟩ := Z.ex
  subst hp
  exact .all fun us hl => h _ _ _ _ _ _ _ _ _ us hl
end RC
set_option Elab.async false
set_option linter.all false
set_option maxRecDepth 100000
set_option maxHeartbeats 4000000
namespace EQ
open PySem PySem.Spec PyProof.Rows L2 CM
/-- a == b of two pairs of ints -/
def rEqI2 (K : PySem.W.Frag) : R2 := fun x y H Q => ∃ (a b : Addr) (i j k l : Int), x = .ref a ∧ y = .ref b ∧ SqT K H a [.int i, .int j] ∧ SqT K H b [.int k, .int l] ∧ Q (.bl (decide (i = k ∧ j = l))) H
theorem op_eqI2 {X : Cx} (hu : X.A.units + 64 < cLine) : OpR X (compareOp .Eq) (rEqI2 X.K) := by
  intro pns s σ H x y v u Q I rx ry h
  obtain ⟨a, b, i, j, k, l, rfl, rfl, ha, hb, q⟩ := h
  cases (show v = Value.ref a from rx)
  cases (show u = Value.ref b from ry)
  obtain ⟨us, r1, p1, _⟩ := I.tuple ha
  obtain ⟨ws, r2, p2, _⟩ := I.tuple hb
  obtain ⟨u1, u2, rfl, ⟨t1, rfl⟩, ⟨t2, rfl⟩⟩ := vals2 r1
  obtain ⟨w1, w2, rfl, ⟨t3, rfl⟩, ⟨t4, rfl⟩⟩ := vals2 r2
  refine SeqAt.eq_tupleAt (e := fun n => if n = 0 then i == k else j == l) p1 p2 (by omega) (fun n h1 h2 => ?_) ?_
  · match n, h1, h2 with
    | 0, _, _ => exact SeqAt.EqAt.int_int i t1 k t3
    | 1, _, _ => exact SeqAt.EqAt.int_int j t2 l t4
    | n + 2, h1, _ => exact absurd h1 (by simp)
  · refine ⟨.bl _, H, I, rfl, ?_⟩
    have e : ((List.range 2).all (fun n => if n = 0 then i == k else j == l) && true) = decide (i = k ∧ j = l) := by
      rw [show List.range 2 = [0, 1] from rfl]
      by_cases e1 : i = k <;> by_cases e2 : j = l <;> simp [e1, e2]
    rw [← e] at q
    exact q
end EQ
set_option Elab.async false
set_option linter.all false
set_option maxRecDepth 100000
set_option maxHeartbeats 2000000
namespace K16
open PySem PySem.Spec PyProof.Rows L2 CM DN GR
def topS (i : Nat) : Stmt := PySem.Challenge.pw_kindgrove_k16_both_and_coarse.main.body.getD i (.Pass ⟨0, 0, 0, 0⟩)
abbrev s_wall : Stmt := topS 0
abbrev n_wall : List Str := ["k"]
theorem sc_wall : FnScope n_wall ["k"] (defScope s_wall) := ⟨rfl, rfl, rfl, by decide +kernel, rfl, by decide +kernel, by decide +kernel⟩
abbrev s_BadValue___init : Stmt := inClass (topS 3) 0
abbrev n_BadValue___init : List Str := ["self", "value"]
theorem sc_BadValue___init : FnScope n_BadValue___init ["self", "value"] (defScope s_BadValue___init) := ⟨rfl, rfl, rfl, by decide +kernel, rfl, by decide +kernel, by decide +kernel⟩
abbrev s_NotGiven___init : Stmt := inClass (topS 4) 0
abbrev n_NotGiven___init : List Str := ["self", "name"]
theorem sc_NotGiven___init : FnScope n_NotGiven___init ["self", "name"] (defScope s_NotGiven___init) := ⟨rfl, rfl, rfl, by decide +kernel, rfl, by decide +kernel, by decide +kernel⟩
abbrev s_Kind_own : Stmt := inClass (topS 6) 0
abbrev n_Kind_own : List Str := ["self", "key"]
theorem sc_Kind_own : FnScope n_Kind_own ["self", "key"] (defScope s_Kind_own) := ⟨rfl, rfl, rfl, by decide +kernel, rfl, by decide +kernel, by decide +kernel⟩
abbrev s_Kind_join : Stmt := inClass (topS 6) 1
abbrev n_Kind_join : List Str := ["self", "one", "other"]
theorem sc_Kind_join : FnScope n_Kind_join ["self", "one", "other"] (defScope s_Kind_join) := ⟨rfl, rfl, rfl, by decide +kernel, rfl, by decide +kernel, by decide +kernel⟩
abbrev s_Kind_consistent : Stmt := inClass (topS 6) 2
abbrev n_Kind_consistent : List Str := ["self", "label", "question"]
theorem sc_Kind_consistent : FnScope n_Kind_consistent ["self", "label", "question"] (defScope s_Kind_consistent) := ⟨rfl, rfl, rfl, by decide +kernel, rfl, by decide +kernel, by decide +kernel⟩
abbrev s_Kind_matches : Stmt := inClass (topS 6) 3
abbrev n_Kind_matches : List Str := ["self", "key", "question"]
theorem sc_Kind_matches : FnScope n_Kind_matches ["self", "key", "question"] (defScope s_Kind_matches) := ⟨rfl, rfl, rfl, by decide +kernel, rfl, by decide +kernel, by decide +kernel⟩
abbrev s_Kind_penalty : Stmt := inClass (topS 6) 4
abbrev n_Kind_penalty : List Str := ["self", "label", "key"]
theorem sc_Kind_penalty : FnScope n_Kind_penalty ["self", "label", "key"] (defScope s_Kind_penalty) := ⟨rfl, rfl, rfl, by decide +kernel, rfl, by decide +kernel, by decide +kernel⟩
abbrev s_Kind_sides : Stmt := inClass (topS 6) 5
abbrev n_Kind_sides : List Str := ["self", "labels", "half"]
theorem sc_Kind_sides : FnScope n_Kind_sides ["self", "labels"] (defScope s_Kind_sides) := ⟨rfl, rfl, rfl, by decide +kernel, rfl, by decide +kernel, by decide +kernel⟩
abbrev s_Measured_distance : Stmt := inClass (topS 7) 0
abbrev n_Measured_distance : List Str := ["self", "key", "point"]
theorem sc_Measured_distance : FnScope n_Measured_distance ["self", "key", "point"] (defScope s_Measured_distance) := ⟨rfl, rfl, rfl, by decide +kernel, rfl, by decide +kernel, by decide +kernel⟩
abbrev s_Measured_bound : Stmt := inClass (topS 7) 1
abbrev n_Measured_bound : List Str := ["self", "label", "point"]
theorem sc_Measured_bound : FnScope n_Measured_bound ["self", "label", "point"] (defScope s_Measured_bound) := ⟨rfl, rfl, rfl, by decide +kernel, rfl, by decide +kernel, by decide +kernel⟩
abbrev s_Calls___init : Stmt := inClass (topS 8) 0
abbrev n_Calls___init : List Str := ["self", "own", "join", "consistent", "matches", "penalty", "sides", "distance", "bound"]
theorem sc_Calls___init : FnScope n_Calls___init ["self", "own", "join", "consistent", "matches", "penalty", "sides", "distance", "bound"] (defScope s_Calls___init) := ⟨rfl, rfl, rfl, by decide +kernel, rfl, by decide +kernel, by decide +kernel⟩
abbrev s_Calls_own : Stmt := inClass (topS 8) 1
abbrev n_Calls_own : List Str := ["self", "key"]
theorem sc_Calls_own : FnScope n_Calls_own ["self", "key"] (defScope s_Calls_own) := ⟨rfl, rfl, rfl, by decide +kernel, rfl, by decide +kernel, by decide +kernel⟩
abbrev s_Calls_join : Stmt := inClass (topS 8) 2
abbrev n_Calls_join : List Str := ["self", "one", "other"]
theorem sc_Calls_join : FnScope n_Calls_join ["self", "one", "other"] (defScope s_Calls_join) := ⟨rfl, rfl, rfl, by decide +kernel, rfl, by decide +kernel, by decide +kernel⟩
abbrev s_Calls_consistent : Stmt := inClass (topS 8) 3
abbrev n_Calls_consistent : List Str := ["self", "label", "question"]
theorem sc_Calls_consistent : FnScope n_Calls_consistent ["self", "label", "question"] (defScope s_Calls_consistent) := ⟨rfl, rfl, rfl, by decide +kernel, rfl, by decide +kernel, by decide +kernel⟩
abbrev s_Calls_matches : Stmt := inClass (topS 8) 4
abbrev n_Calls_matches : List Str := ["self", "key", "question"]
theorem sc_Calls_matches : FnScope n_Calls_matches ["self", "key", "question"] (defScope s_Calls_matches) := ⟨rfl, rfl, rfl, by decide +kernel, rfl, by decide +kernel, by decide +kernel⟩
abbrev s_Calls_penalty : Stmt := inClass (topS 8) 5
abbrev n_Calls_penalty : List Str := ["self", "label", "key", "__class__"]
theorem nsc_Calls_penalty : NdefX.NScope n_Calls_penalty ["self", "label", "key"] ["__class__"] (defScope s_Calls_penalty) := NdefX.nscope_by (by decide +kernel)
abbrev s_Calls_sides : Stmt := inClass (topS 8) 6
abbrev n_Calls_sides : List Str := ["self", "labels", "__class__"]
theorem nsc_Calls_sides : NdefX.NScope n_Calls_sides ["self", "labels"] ["__class__"] (defScope s_Calls_sides) := NdefX.nscope_by (by decide +kernel)
abbrev s_Calls_distance : Stmt := inClass (topS 8) 7
abbrev n_Calls_distance : List Str := ["self", "key", "point", "__class__"]
theorem nsc_Calls_distance : NdefX.NScope n_Calls_distance ["self", "key", "point"] ["__class__"] (defScope s_Calls_distance) := NdefX.nscope_by (by decide +kernel)
abbrev s_Calls_bound : Stmt := inClass (topS 8) 8
abbrev n_Calls_bound : List Str := ["self", "label", "point", "__class__"]
theorem nsc_Calls_bound : NdefX.NScope n_Calls_bound ["self", "label", "point"] ["__class__"] (defScope s_Calls_bound) := NdefX.nscope_by (by decide +kernel)
abbrev s_is_int : Stmt := topS 11
abbrev n_is_int : List Str := ["thing"]
theorem sc_is_int : FnScope n_is_int ["thing"] (defScope s_is_int) := ⟨rfl, rfl, rfl, by decide +kernel, rfl, by decide +kernel, by decide +kernel⟩
abbrev s_is_plain : Stmt := topS 12
abbrev n_is_plain : List Str := ["thing"]
theorem sc_is_plain : FnScope n_is_plain ["thing"] (defScope s_is_plain) := ⟨rfl, rfl, rfl, by decide +kernel, rfl, by decide +kernel, by decide +kernel⟩
abbrev s_is_plain_within : Stmt := topS 13
abbrev n_is_plain_within : List Str := ["thing", "deepest", "part"]
theorem sc_is_plain_within : FnScope n_is_plain_within ["thing", "deepest"] (defScope s_is_plain_within) := ⟨rfl, rfl, rfl, by decide +kernel, rfl, by decide +kernel, by decide +kernel⟩
abbrev s_own_label : Stmt := topS 15
abbrev n_own_label : List Str := ["kind", "key"]
theorem sc_own_label : FnScope n_own_label ["kind", "key"] (defScope s_own_label) := ⟨rfl, rfl, rfl, by decide +kernel, rfl, by decide +kernel, by decide +kernel⟩
abbrev s_joined : Stmt := topS 16
abbrev n_joined : List Str := ["kind", "one", "other"]
theorem sc_joined : FnScope n_joined ["kind", "one", "other"] (defScope s_joined) := ⟨rfl, rfl, rfl, by decide +kernel, rfl, by decide +kernel, by decide +kernel⟩
abbrev s_checked : Stmt := topS 17
abbrev n_checked : List Str := ["label"]
theorem sc_checked : FnScope n_checked ["label"] (defScope s_checked) := ⟨rfl, rfl, rfl, by decide +kernel, rfl, by decide +kernel, by decide +kernel⟩
abbrev s_Both___init : Stmt := inClass (topS 19) 0
abbrev n_Both___init : List Str := ["self", "one", "other"]
theorem sc_Both___init : FnScope n_Both___init ["self", "one", "other"] (defScope s_Both___init) := ⟨rfl, rfl, rfl, by decide +kernel, rfl, by decide +kernel, by decide +kernel⟩
abbrev s_Both_one : Stmt := inClass (topS 19) 1
abbrev n_Both_one : List Str := ["self"]
theorem sc_Both_one : FnScope n_Both_one ["self"] (defScope s_Both_one) := ⟨rfl, rfl, rfl, by decide +kernel, rfl, by decide +kernel, by decide +kernel⟩
abbrev s_Both_other : Stmt := inClass (topS 19) 2
abbrev n_Both_other : List Str := ["self"]
theorem sc_Both_other : FnScope n_Both_other ["self"] (defScope s_Both_other) := ⟨rfl, rfl, rfl, by decide +kernel, rfl, by decide +kernel, by decide +kernel⟩
abbrev s_Both_own : Stmt := inClass (topS 19) 3
abbrev n_Both_own : List Str := ["self", "key"]
theorem sc_Both_own : FnScope n_Both_own ["self", "key"] (defScope s_Both_own) := ⟨rfl, rfl, rfl, by decide +kernel, rfl, by decide +kernel, by decide +kernel⟩
abbrev s_Both_join : Stmt := inClass (topS 19) 4
abbrev n_Both_join : List Str := ["self", "one", "other"]
theorem sc_Both_join : FnScope n_Both_join ["self", "one", "other"] (defScope s_Both_join) := ⟨rfl, rfl, rfl, by decide +kernel, rfl, by decide +kernel, by decide +kernel⟩
abbrev s_Both_consistent : Stmt := inClass (topS 19) 5
abbrev n_Both_consistent : List Str := ["self", "label", "question"]
theorem sc_Both_consistent : FnScope n_Both_consistent ["self", "label", "question"] (defScope s_Both_consistent) := ⟨rfl, rfl, rfl, by decide +kernel, rfl, by decide +kernel, by decide +kernel⟩
abbrev s_Both_matches : Stmt := inClass (topS 19) 6
abbrev n_Both_matches : List Str := ["self", "key", "question"]
theorem sc_Both_matches : FnScope n_Both_matches ["self", "key", "question"] (defScope s_Both_matches) := ⟨rfl, rfl, rfl, by decide +kernel, rfl, by decide +kernel, by decide +kernel⟩
abbrev s_Both_penalty : Stmt := inClass (topS 19) 7
abbrev n_Both_penalty : List Str := ["self", "label", "key"]
theorem sc_Both_penalty : FnScope n_Both_penalty ["self", "label", "key"] (defScope s_Both_penalty) := ⟨rfl, rfl, rfl, by decide +kernel, rfl, by decide +kernel, by decide +kernel⟩
abbrev s_Both_sides : Stmt := inClass (topS 19) 8
abbrev n_Both_sides : List Str := ["self", "labels", "label"]
theorem sc_Both_sides : FnScope n_Both_sides ["self", "labels"] (defScope s_Both_sides) := ⟨rfl, rfl, rfl, by decide +kernel, rfl, by decide +kernel, by decide +kernel⟩
abbrev s_Both_distance : Stmt := inClass (topS 19) 9
abbrev n_Both_distance : List Str := ["self", "key", "point"]
theorem sc_Both_distance : FnScope n_Both_distance ["self", "key", "point"] (defScope s_Both_distance) := ⟨rfl, rfl, rfl, by decide +kernel, rfl, by decide +kernel, by decide +kernel⟩
abbrev s_Both_bound : Stmt := inClass (topS 19) 10
abbrev n_Both_bound : List Str := ["self", "label", "point"]
theorem sc_Both_bound : FnScope n_Both_bound ["self", "label", "point"] (defScope s_Both_bound) := ⟨rfl, rfl, rfl, by decide +kernel, rfl, by decide +kernel, by decide +kernel⟩
abbrev s_Coarse___init : Stmt := inClass (topS 20) 0
abbrev n_Coarse___init : List Str := ["self", "kind", "squeeze"]
theorem sc_Coarse___init : FnScope n_Coarse___init ["self", "kind", "squeeze"] (defScope s_Coarse___init) := ⟨rfl, rfl, rfl, by decide +kernel, rfl, by decide +kernel, by decide +kernel⟩
abbrev s_Coarse_own : Stmt := inClass (topS 20) 1
abbrev n_Coarse_own : List Str := ["self", "key"]
theorem sc_Coarse_own : FnScope n_Coarse_own ["self", "key"] (defScope s_Coarse_own) := ⟨rfl, rfl, rfl, by decide +kernel, rfl, by decide +kernel, by decide +kernel⟩
abbrev s_Coarse_join : Stmt := inClass (topS 20) 2
abbrev n_Coarse_join : List Str := ["self", "one", "other"]
theorem sc_Coarse_join : FnScope n_Coarse_join ["self", "one", "other"] (defScope s_Coarse_join) := ⟨rfl, rfl, rfl, by decide +kernel, rfl, by decide +kernel, by decide +kernel⟩
abbrev s_Coarse_consistent : Stmt := inClass (topS 20) 3
abbrev n_Coarse_consistent : List Str := ["self", "label", "question"]
theorem sc_Coarse_consistent : FnScope n_Coarse_consistent ["self", "label", "question"] (defScope s_Coarse_consistent) := ⟨rfl, rfl, rfl, by decide +kernel, rfl, by decide +kernel, by decide +kernel⟩
abbrev s_Coarse_matches : Stmt := inClass (topS 20) 4
abbrev n_Coarse_matches : List Str := ["self", "key", "question"]
theorem sc_Coarse_matches : FnScope n_Coarse_matches ["self", "key", "question"] (defScope s_Coarse_matches) := ⟨rfl, rfl, rfl, by decide +kernel, rfl, by decide +kernel, by decide +kernel⟩
abbrev s_Coarse_penalty : Stmt := inClass (topS 20) 5
abbrev n_Coarse_penalty : List Str := ["self", "label", "key"]
theorem sc_Coarse_penalty : FnScope n_Coarse_penalty ["self", "label", "key"] (defScope s_Coarse_penalty) := ⟨rfl, rfl, rfl, by decide +kernel, rfl, by decide +kernel, by decide +kernel⟩
abbrev s_Coarse_sides : Stmt := inClass (topS 20) 6
abbrev n_Coarse_sides : List Str := ["self", "labels"]
theorem sc_Coarse_sides : FnScope n_Coarse_sides ["self", "labels"] (defScope s_Coarse_sides) := ⟨rfl, rfl, rfl, by decide +kernel, rfl, by decide +kernel, by decide +kernel⟩
abbrev s_Coarse_distance : Stmt := inClass (topS 20) 7
abbrev n_Coarse_distance : List Str := ["self", "key", "point"]
theorem sc_Coarse_distance : FnScope n_Coarse_distance ["self", "key", "point"] (defScope s_Coarse_distance) := ⟨rfl, rfl, rfl, by decide +kernel, rfl, by decide +kernel, by decide +kernel⟩
abbrev s_Coarse_bound : Stmt := inClass (topS 20) 8
abbrev n_Coarse_bound : List Str := ["self", "label", "point"]
theorem sc_Coarse_bound : FnScope n_Coarse_bound ["self", "label", "point"] (defScope s_Coarse_bound) := ⟨rfl, rfl, rfl, by decide +kernel, rfl, by decide +kernel, by decide +kernel⟩
abbrev s_distance_by : Stmt := topS 21
abbrev n_distance_by : List Str := ["kind", "key", "point"]
theorem sc_distance_by : FnScope n_distance_by ["kind", "key", "point"] (defScope s_distance_by) := ⟨rfl, rfl, rfl, by decide +kernel, rfl, by decide +kernel, by decide +kernel⟩
abbrev s_bound_by : Stmt := topS 22
abbrev n_bound_by : List Str := ["kind", "label", "point"]
theorem sc_bound_by : FnScope n_bound_by ["kind", "label", "point"] (defScope s_bound_by) := ⟨rfl, rfl, rfl, by decide +kernel, rfl, by decide +kernel, by decide +kernel⟩
abbrev s_Counted___init : Stmt := inClass (topS 24) 0
abbrev n_Counted___init : List Str := ["self", "function", "arguments"]
theorem sc_Counted___init : FnScope n_Counted___init ["self", "function", "arguments"] (defScope s_Counted___init) := ⟨rfl, rfl, rfl, by decide +kernel, rfl, by decide +kernel, by decide +kernel⟩
abbrev s_Counted___call : Stmt := inClass (topS 24) 1
abbrev n_Counted___call : List Str := ["self", "one", "other"]
theorem sc_Counted___call : FnScope n_Counted___call ["self", "one", "other"] (defScope s_Counted___call) := ⟨rfl, rfl, rfl, by decide +kernel, rfl, by decide +kernel, by decide +kernel⟩
abbrev s_Counted_calls : Stmt := inClass (topS 24) 2
abbrev n_Counted_calls : List Str := ["self"]
theorem sc_Counted_calls : FnScope n_Counted_calls ["self"] (defScope s_Counted_calls) := ⟨rfl, rfl, rfl, by decide +kernel, rfl, by decide +kernel, by decide +kernel⟩
abbrev s_Counted_clear : Stmt := inClass (topS 24) 3
abbrev n_Counted_clear : List Str := ["self"]
theorem sc_Counted_clear : FnScope n_Counted_clear ["self"] (defScope s_Counted_clear) := ⟨rfl, rfl, rfl, by decide +kernel, rfl, by decide +kernel, by decide +kernel⟩
abbrev s_halves_by : Stmt := topS 26
abbrev n_halves_by : List Str := ["marks", "order", "first", "at"]
theorem sc_halves_by : FnScope n_halves_by ["marks"] (defScope s_halves_by) := ⟨rfl, rfl, rfl, by decide +kernel, rfl, by decide +kernel, by decide +kernel⟩
abbrev s_Ranges_own : Stmt := inClass (topS 28) 0
abbrev n_Ranges_own : List Str := ["self", "key"]
theorem sc_Ranges_own : FnScope n_Ranges_own ["self", "key"] (defScope s_Ranges_own) := ⟨rfl, rfl, rfl, by decide +kernel, rfl, by decide +kernel, by decide +kernel⟩
abbrev s_Ranges_join : Stmt := inClass (topS 28) 1
abbrev n_Ranges_join : List Str := ["self", "one", "other"]
theorem sc_Ranges_join : FnScope n_Ranges_join ["self", "one", "other"] (defScope s_Ranges_join) := ⟨rfl, rfl, rfl, by decide +kernel, rfl, by decide +kernel, by decide +kernel⟩
abbrev s_Ranges_consistent : Stmt := inClass (topS 28) 2
abbrev n_Ranges_consistent : List Str := ["self", "label", "question"]
theorem sc_Ranges_consistent : FnScope n_Ranges_consistent ["self", "label", "question"] (defScope s_Ranges_consistent) := ⟨rfl, rfl, rfl, by decide +kernel, rfl, by decide +kernel, by decide +kernel⟩
abbrev s_Ranges_matches : Stmt := inClass (topS 28) 3
abbrev n_Ranges_matches : List Str := ["self", "key", "question"]
theorem sc_Ranges_matches : FnScope n_Ranges_matches ["self", "key", "question"] (defScope s_Ranges_matches) := ⟨rfl, rfl, rfl, by decide +kernel, rfl, by decide +kernel, by decide +kernel⟩
abbrev s_Ranges_penalty : Stmt := inClass (topS 28) 4
abbrev n_Ranges_penalty : List Str := ["self", "label", "key"]
theorem sc_Ranges_penalty : FnScope n_Ranges_penalty ["self", "label", "key"] (defScope s_Ranges_penalty) := ⟨rfl, rfl, rfl, by decide +kernel, rfl, by decide +kernel, by decide +kernel⟩
abbrev s_Ranges_sides : Stmt := inClass (topS 28) 5
abbrev n_Ranges_sides : List Str := ["self", "labels", "low", "high"]
theorem sc_Ranges_sides : FnScope n_Ranges_sides ["self", "labels"] (defScope s_Ranges_sides) := ⟨rfl, rfl, rfl, by decide +kernel, rfl, by decide +kernel, by decide +kernel⟩
abbrev s_Ranges_distance : Stmt := inClass (topS 28) 6
abbrev n_Ranges_distance : List Str := ["self", "key", "point"]
theorem sc_Ranges_distance : FnScope n_Ranges_distance ["self", "key", "point"] (defScope s_Ranges_distance) := ⟨rfl, rfl, rfl, by decide +kernel, rfl, by decide +kernel, by decide +kernel⟩
abbrev s_Ranges_bound : Stmt := inClass (topS 28) 7
abbrev n_Ranges_bound : List Str := ["self", "label", "point"]
theorem sc_Ranges_bound : FnScope n_Ranges_bound ["self", "label", "point"] (defScope s_Ranges_bound) := ⟨rfl, rfl, rfl, by decide +kernel, rfl, by decide +kernel, by decide +kernel⟩
abbrev s_hull : Stmt := topS 29
abbrev n_hull : List Str := ["one", "other"]
theorem sc_hull : FnScope n_hull ["one", "other"] (defScope s_hull) := ⟨rfl, rfl, rfl, by decide +kernel, rfl, by decide +kernel, by decide +kernel⟩
abbrev s_share_integer : Stmt := topS 30
abbrev n_share_integer : List Str := ["one", "other"]
theorem sc_share_integer : FnScope n_share_integer ["one", "other"] (defScope s_share_integer) := ⟨rfl, rfl, rfl, by decide +kernel, rfl, by decide +kernel, by decide +kernel⟩
abbrev s_width_of : Stmt := topS 31
abbrev n_width_of : List Str := ["span"]
theorem sc_width_of : FnScope n_width_of ["span"] (defScope s_width_of) := ⟨rfl, rfl, rfl, by decide +kernel, rfl, by decide +kernel, by decide +kernel⟩
abbrev s_gap : Stmt := topS 32
abbrev n_gap : List Str := ["span", "number"]
theorem sc_gap : FnScope n_gap ["span", "number"] (defScope s_gap) := ⟨rfl, rfl, rfl, by decide +kernel, rfl, by decide +kernel, by decide +kernel⟩
abbrev s_Rests_own : Stmt := inClass (topS 35) 0
abbrev n_Rests_own : List Str := ["self", "key"]
theorem sc_Rests_own : FnScope n_Rests_own ["self", "key"] (defScope s_Rests_own) := ⟨rfl, rfl, rfl, by decide +kernel, rfl, by decide +kernel, by decide +kernel⟩
abbrev s_Rests_join : Stmt := inClass (topS 35) 1
abbrev n_Rests_join : List Str := ["self", "one", "other"]
theorem sc_Rests_join : FnScope n_Rests_join ["self", "one", "other"] (defScope s_Rests_join) := ⟨rfl, rfl, rfl, by decide +kernel, rfl, by decide +kernel, by decide +kernel⟩
abbrev s_Rests_consistent : Stmt := inClass (topS 35) 2
abbrev n_Rests_consistent : List Str := ["self", "label", "question", "step"]
theorem sc_Rests_consistent : FnScope n_Rests_consistent ["self", "label", "question"] (defScope s_Rests_consistent) := ⟨rfl, rfl, rfl, by decide +kernel, rfl, by decide +kernel, by decide +kernel⟩
abbrev s_Rests_matches : Stmt := inClass (topS 35) 3
abbrev n_Rests_matches : List Str := ["self", "key", "question"]
theorem sc_Rests_matches : FnScope n_Rests_matches ["self", "key", "question"] (defScope s_Rests_matches) := ⟨rfl, rfl, rfl, by decide +kernel, rfl, by decide +kernel, by decide +kernel⟩
abbrev s_Rests_penalty : Stmt := inClass (topS 35) 4
abbrev n_Rests_penalty : List Str := ["self", "label", "key"]
theorem sc_Rests_penalty : FnScope n_Rests_penalty ["self", "label", "key"] (defScope s_Rests_penalty) := ⟨rfl, rfl, rfl, by decide +kernel, rfl, by decide +kernel, by decide +kernel⟩
abbrev s_Rests_sides : Stmt := inClass (topS 35) 5
abbrev n_Rests_sides : List Str := ["self", "labels", "__class__"]
theorem nsc_Rests_sides : NdefX.NScope n_Rests_sides ["self", "labels"] ["__class__"] (defScope s_Rests_sides) := NdefX.nscope_by (by decide +kernel)
abbrev s_Stems_own : Stmt := inClass (topS 36) 0
abbrev n_Stems_own : List Str := ["self", "key"]
theorem sc_Stems_own : FnScope n_Stems_own ["self", "key"] (defScope s_Stems_own) := ⟨rfl, rfl, rfl, by decide +kernel, rfl, by decide +kernel, by decide +kernel⟩
abbrev s_Stems_join : Stmt := inClass (topS 36) 1
abbrev n_Stems_join : List Str := ["self", "one", "other"]
theorem sc_Stems_join : FnScope n_Stems_join ["self", "one", "other"] (defScope s_Stems_join) := ⟨rfl, rfl, rfl, by decide +kernel, rfl, by decide +kernel, by decide +kernel⟩
abbrev s_Stems_consistent : Stmt := inClass (topS 36) 2
abbrev n_Stems_consistent : List Str := ["self", "label", "question"]
theorem sc_Stems_consistent : FnScope n_Stems_consistent ["self", "label", "question"] (defScope s_Stems_consistent) := ⟨rfl, rfl, rfl, by decide +kernel, rfl, by decide +kernel, by decide +kernel⟩
abbrev s_Stems_matches : Stmt := inClass (topS 36) 3
abbrev n_Stems_matches : List Str := ["self", "key", "question"]
theorem sc_Stems_matches : FnScope n_Stems_matches ["self", "key", "question"] (defScope s_Stems_matches) := ⟨rfl, rfl, rfl, by decide +kernel, rfl, by decide +kernel, by decide +kernel⟩
abbrev s_Stems_penalty : Stmt := inClass (topS 36) 4
abbrev n_Stems_penalty : List Str := ["self", "label", "key"]
theorem sc_Stems_penalty : FnScope n_Stems_penalty ["self", "label", "key"] (defScope s_Stems_penalty) := ⟨rfl, rfl, rfl, by decide +kernel, rfl, by decide +kernel, by decide +kernel⟩
abbrev s_Stems_sides : Stmt := inClass (topS 36) 5
abbrev n_Stems_sides : List Str := ["self", "labels"]
theorem sc_Stems_sides : FnScope n_Stems_sides ["self", "labels"] (defScope s_Stems_sides) := ⟨rfl, rfl, rfl, by decide +kernel, rfl, by decide +kernel, by decide +kernel⟩
abbrev s_Signs___init : Stmt := inClass (topS 37) 0
abbrev n_Signs___init : List Str := ["self", "width"]
theorem sc_Signs___init : FnScope n_Signs___init ["self", "width"] (defScope s_Signs___init) := ⟨rfl, rfl, rfl, by decide +kernel, rfl, by decide +kernel, by decide +kernel⟩
abbrev s_Signs_width : Stmt := inClass (topS 37) 1
abbrev n_Signs_width : List Str := ["self"]
theorem sc_Signs_width : FnScope n_Signs_width ["self"] (defScope s_Signs_width) := ⟨rfl, rfl, rfl, by decide +kernel, rfl, by decide +kernel, by decide +kernel⟩
abbrev s_Signs_own : Stmt := inClass (topS 37) 2
abbrev n_Signs_own : List Str := ["self", "key"]
theorem sc_Signs_own : FnScope n_Signs_own ["self", "key"] (defScope s_Signs_own) := ⟨rfl, rfl, rfl, by decide +kernel, rfl, by decide +kernel, by decide +kernel⟩
abbrev s_Signs_join : Stmt := inClass (topS 37) 3
abbrev n_Signs_join : List Str := ["self", "one", "other"]
theorem sc_Signs_join : FnScope n_Signs_join ["self", "one", "other"] (defScope s_Signs_join) := ⟨rfl, rfl, rfl, by decide +kernel, rfl, by decide +kernel, by decide +kernel⟩
abbrev s_Signs_consistent : Stmt := inClass (topS 37) 4
abbrev n_Signs_consistent : List Str := ["self", "label", "question", "signs"]
theorem sc_Signs_consistent : FnScope n_Signs_consistent ["self", "label", "question"] (defScope s_Signs_consistent) := ⟨rfl, rfl, rfl, by decide +kernel, rfl, by decide +kernel, by decide +kernel⟩
abbrev s_Signs_matches : Stmt := inClass (topS 37) 5
abbrev n_Signs_matches : List Str := ["self", "key", "question", "number"]
theorem sc_Signs_matches : FnScope n_Signs_matches ["self", "key", "question"] (defScope s_Signs_matches) := ⟨rfl, rfl, rfl, by decide +kernel, rfl, by decide +kernel, by decide +kernel⟩
abbrev s_Signs_penalty : Stmt := inClass (topS 37) 6
abbrev n_Signs_penalty : List Str := ["self", "label", "key"]
theorem sc_Signs_penalty : FnScope n_Signs_penalty ["self", "label", "key"] (defScope s_Signs_penalty) := ⟨rfl, rfl, rfl, by decide +kernel, rfl, by decide +kernel, by decide +kernel⟩
abbrev s_Signs_sides : Stmt := inClass (topS 37) 7
abbrev n_Signs_sides : List Str := ["self", "labels", "__class__"]
theorem nsc_Signs_sides : NdefX.NScope n_Signs_sides ["self", "labels"] ["__class__"] (defScope s_Signs_sides) := NdefX.nscope_by (by decide +kernel)
abbrev s_common_rest : Stmt := topS 38
abbrev n_common_rest : List Str := ["one", "other", "modulus", "rest", "step"]
theorem sc_common_rest : FnScope n_common_rest ["one", "other"] (defScope s_common_rest) := ⟨rfl, rfl, rfl, by decide +kernel, rfl, by decide +kernel, by decide +kernel⟩
abbrev s_common_divisor : Stmt := topS 39
abbrev n_common_divisor : List Str := ["one", "other"]
theorem sc_common_divisor : FnScope n_common_divisor ["one", "other"] (defScope s_common_divisor) := ⟨rfl, rfl, rfl, by decide +kernel, rfl, by decide +kernel, by decide +kernel⟩
abbrev s_common_stem : Stmt := topS 40
abbrev n_common_stem : List Str := ["one", "other", "many", "longest"]
theorem sc_common_stem : FnScope n_common_stem ["one", "other"] (defScope s_common_stem) := ⟨rfl, rfl, rfl, by decide +kernel, rfl, by decide +kernel, by decide +kernel⟩
abbrev s_signs_of : Stmt := topS 41
abbrev n_signs_of : List Str := ["numbers", "bits", "signs", "number"]
theorem sc_signs_of : FnScope n_signs_of ["numbers", "bits"] (defScope s_signs_of) := ⟨rfl, rfl, rfl, by decide +kernel, rfl, by decide +kernel, by decide +kernel⟩
abbrev s_bits_in : Stmt := topS 42
abbrev n_bits_in : List Str := ["number", "at"]
theorem sc_bits_in : FnScope n_bits_in ["number"] (defScope s_bits_in) := ⟨rfl, rfl, rfl, by decide +kernel, rfl, by decide +kernel, by decide +kernel⟩
abbrev s_law_well : Stmt := topS 44
abbrev n_law_well : List Str := ["_law_cell"]
theorem sc_law_well : FnScope n_law_well ["_law_cell"] (defScope s_law_well) := ⟨rfl, rfl, rfl, by decide +kernel, rfl, by decide +kernel, by decide +kernel⟩
abbrev s_law_draw : Stmt := topS 45
abbrev n_law_draw : List Str := ["_law_well_here", "_law_many", "_law_digit", "_law_number", "_law_more"]
theorem sc_law_draw : FnScope n_law_draw ["_law_well_here", "_law_many"] (defScope s_law_draw) := ⟨rfl, rfl, rfl, by decide +kernel, rfl, by decide +kernel, by decide +kernel⟩
abbrev s_law_one : Stmt := topS 46
abbrev n_law_one : List Str := ["_law_well_here", "_law_some"]
theorem sc_law_one : FnScope n_law_one ["_law_well_here", "_law_some"] (defScope s_law_one) := ⟨rfl, rfl, rfl, by decide +kernel, rfl, by decide +kernel, by decide +kernel⟩
abbrev s_law_span : Stmt := topS 47
abbrev n_law_span : List Str := ["_law_well_here", "_law_low"]
theorem sc_law_span : FnScope n_law_span ["_law_well_here"] (defScope s_law_span) := ⟨rfl, rfl, rfl, by decide +kernel, rfl, by decide +kernel, by decide +kernel⟩
abbrev s_law_name_of : Stmt := topS 48
abbrev n_law_name_of : List Str := ["_law_ask_here", "e"]
theorem sc_law_name_of : FnScope n_law_name_of ["_law_ask_here"] (defScope s_law_name_of) := ⟨rfl, rfl, rfl, by decide +kernel, rfl, by decide +kernel, by decide +kernel⟩
abbrev s_law_parts_right : Stmt := topS 49
abbrev n_law_parts_right : List Str := ["_law_well_here", "_law_left", "_law_right", "_law_pair", "_law_more", "_law_asked", "_law_found", "_law_due", "_law_spans", "_law_names", "_law_item", "_law_made", "_law_spot", "_law_tag"]
theorem sc_law_parts_right : FnScope n_law_parts_right ["_law_well_here"] (defScope s_law_parts_right) := ⟨rfl, rfl, rfl, by decide +kernel, rfl, by decide +kernel, by decide +kernel⟩
abbrev s_law_order_right : Stmt := topS 50
abbrev n_law_order_right : List Str := ["_law_well_here", "_law_counted", "_law_made", "_law_told", "_law_counts", "_law_is_first", "_law_is_second", "_law_k", "_law_it"]
theorem sc_law_order_right : FnScope n_law_order_right ["_law_well_here"] (defScope s_law_order_right) := ⟨rfl, rfl, rfl, by decide +kernel, rfl, by decide +kernel, by decide +kernel⟩
abbrev s_law_noted : Stmt := topS 51
abbrev n_law_noted : List Str := ["_law_notes", "_law_word", "_law_number", "_law_ask"]
theorem sc_law_noted : FnScope n_law_noted ["_law_notes", "_law_word", "_law_number"] (defScope s_law_noted) := ⟨rfl, rfl, rfl, by decide +kernel, rfl, by decide +kernel, by decide +kernel⟩
abbrev s_law_noting : Stmt := topS 52
abbrev n_law_noting : List Str := ["_law_notes", "_law_word", "_law_number", "_law_ask_here"]
theorem sc_law_noting : FnScope n_law_noting ["_law_notes", "_law_word", "_law_number"] (defScope s_law_noting) := ⟨rfl, rfl, rfl, by decide +kernel, rfl, by decide +kernel, by decide +kernel⟩
abbrev s_law_sums_right : Stmt := topS 53
abbrev n_law_sums_right : List Str := ["_law_well_here", "_law_notes", "_law_a", "_law_b", "_law_made", "_law_told"]
theorem sc_law_sums_right : FnScope n_law_sums_right ["_law_well_here"] (defScope s_law_sums_right) := ⟨rfl, rfl, rfl, by decide +kernel, rfl, by decide +kernel, by decide +kernel⟩
abbrev s_law_wider : Stmt := topS 54
abbrev n_law_wider : List Str := ["_law_step"]
theorem sc_law_wider : FnScope n_law_wider ["_law_step"] (defScope s_law_wider) := ⟨rfl, rfl, rfl, by decide +kernel, rfl, by decide +kernel, by decide +kernel⟩
abbrev s_law_coarse_right : Stmt := topS 55
abbrev n_law_coarse_right : List Str := ["_law_well_here", "_law_step", "_law_base", "_law_made", "_law_tag", "_law_more", "_law_item", "_law_spot", "_law_wide", "_law_names", "_law_words", "_law_bits"]
theorem sc_law_coarse_right : FnScope n_law_coarse_right ["_law_well_here"] (defScope s_law_coarse_right) := ⟨rfl, rfl, rfl, by decide +kernel, rfl, by decide +kernel, by decide +kernel⟩
abbrev s_law : Stmt := topS 56
abbrev n_law : List Str := ["_law_script", "_law_cell", "_law_well_here", "_law_turn"]
theorem sc_law : FnScope n_law ["_law_script"] (defScope s_law) := ⟨rfl, rfl, rfl, by decide +kernel, rfl, by decide +kernel, by decide +kernel⟩
abbrev FnP (K : PySem.W.Frag) (x q : Str) (st : Stmt) (f : Addr) (fd : FuncData) : Prop := FunD K x q (defArgs st) (defBody st) (defScope st) [] [] f fd
section
variable {P : Program} {w : World} {K : PySem.W.Frag} {mg : Str → Option Value} {base : Heap}
/-- a number of draws to be divided by -/
structure Sz (m : Int) : Prop where
  lt : m.natAbs.log2 < 9000
theorem Sz.of {m : Int} {k : Nat} (h : m.natAbs < 2 ^ k) (hk : k ≤ 9000) : Sz m := by
  refine ⟨?_⟩
  cases k with
  | zero =>
    have : m.natAbs = 0 := by omega
    rw [this]
    decide
  | succ k => exact Nat.lt_of_lt_of_le (PySem.Flt.log2_lt_of (Nat.succ_pos k) h) hk
def spWell : Sp := fun vs H Q _ => ∃ i : Int, vs = [.int i] ∧ ∀ p, H p = none → Q (.ref p) (upd H p (.lst [.int i, .int 0]))
def spDraw : Sp := fun vs H Q _ => ∃ (a : Addr) (x c m : Int), vs = [.ref a, .int m] ∧ H a = some (.lst [.int x, .int c]) ∧ 0 < m ∧ Sz m ∧
  ∀ r x' c' : Int, 0 ≤ r → r < m → Q (.int r) (upd H a (.lst [.int x', .int c']))
theorem ok_well {f : Addr} {fd : FuncData} {k : Nat} (F : FnP K "_law_well" "_law_well" s_law_well f fd) (m_int : mg "int" = none) : FnOk P w K mg base CX0 (k + 1) f fd ["_law_cell"] spWell := by
  refine F.ok sc_law_well (fun vs H Q E h => ?_) (fun cdv A outer s H vs Q E hr h => ?_)
  · obtain ⟨i, rfl, _⟩ := h
    rfl
  · obtain ⟨i, rfl, q⟩ := h
    refine ⟨_, pss_one (ps_ret (pe_lst (pa_cons (pe_callTy call_int1 (by rfl) m_int boot_int (pa_cons (pv 0) pa_nil)) (pa_cons pe_int pa_nil)))), ?_⟩
    exact ⟨_, rfl, .inl ⟨i, rfl, ⟨by show 2 ≤ sizeLine; decide, fun p hp => q p hp⟩⟩⟩
theorem ok_draw {f : Addr} {fd : FuncData} {k : Nat} (F : FnP K "_law_draw" "_law_draw" s_law_draw f fd) (m_int : mg "int" = none) : FnOk P w K mg base CX0 (k + 1) f fd ["_law_well_here", "_law_many"] spDraw := by
  refine F.ok sc_law_draw (fun vs H Q E h => ?_) (fun cdv A outer s H vs Q E hr h => ?_)
  · obtain ⟨a, x, c, m, rfl, _⟩ := h
    rfl
  · obtain ⟨a, x, c, m, rfl, ha, m0, m1, q⟩ := h
    refine ⟨_, pss_cons (ps_if (pt_cmpR op_ge (pe_ix ix_list (pv 0) pe_int (fun _ _ => rfl)) (pe_op op_pow pe_int pe_int) (nomark _)) (pss_cons (ps_set (i := 2) sc_law_draw.nd rfl (.inl rfl) (pe_op op_mod (pe_callTy call_int1 (by rfl) m_int boot_int (pa_cons (pe_ix ix_list (pv 0) pe_int (fun _ _ => rfl)) pa_nil)) (pv 1)))
      (pss_cons (ps_asg (pe_op op_fdivW (pe_ix ix_list (pv 0) pe_int (fun _ _ => rfl)) (pv 1)) (pg_sub (pv 0) pe_int set_list))
      (pss_one (ps_ret (pv 2))))) (pss_nil))
    (pss_cons (ps_asg (pe_op op_add (pe_ix ix_list (pv 0) pe_int (fun _ _ => rfl)) pe_int) (pg_sub (pv 0) pe_int set_list))
    (pss_cons (ps_set (i := 3) sc_law_draw.nd rfl (.inl rfl) (pe_op op_mod (pe_callTy call_int1 (by rfl) m_int boot_int (pa_cons (pe_op op_mul (pe_callTy call_int1 (by rfl) m_int boot_int (pa_cons (pe_op op_add (pe_op op_add (pe_op op_mod (pe_callTy call_int1 (by rfl) m_int boot_int (pa_cons (pe_ix ix_list (pv 0) pe_int (fun _ _ => rfl)) pa_nil)) pe_int) (pe_op op_mul pe_int (pe_ix ix_list (pv 0) pe_int (fun _ _ => rfl)))) pe_int) pa_nil)) pe_int) pa_nil)) pe_int))
    (pss_cons (ps_set (i := 4) sc_law_draw.nd rfl (.inl rfl) (pe_op op_mod (pe_callTy call_int1 (by rfl) m_int boot_int (pa_cons (pe_op op_fdivW (pe_ix ix_list (pv 0) pe_int (fun _ _ => rfl)) pe_int) pa_nil)) pe_int))
    (pss_cons (ps_set (i := 3) sc_law_draw.nd rfl (.inl rfl) (pe_op op_mod (pe_callTy call_int1 (by rfl) m_int boot_int (pa_cons (pe_op op_mul (pv 3) (pe_op op_add (pe_op op_add (pe_op op_fdiv (pv 3) pe_int) pe_int) (pv 4))) pa_nil)) pe_int))
    (pss_one (ps_ret (pe_op op_mod (pe_callTy call_int1 (by rfl) m_int boot_int (pa_cons (pe_op op_fdiv (pe_op op_mod (pe_callTy call_int1 (by rfl) m_int boot_int (pa_cons (pe_op op_mul (pv 3) (pe_op op_add (pe_op op_fdiv (pv 3) pe_int) pe_int)) pa_nil)) pe_int) pe_int) pa_nil)) (pv 1)))))))), ?_⟩
    have hA : SqL K H a [.int x, .int c] := .inl (.inl ha)
    -- if well[0] >= 10 ** 18
    refine ⟨_, rfl, a, _, 0, _, rfl, rfl, hA, rfl, ?_⟩
    refine ⟨10, 18, rfl, rfl, ⟨by decide, by decide, by decide⟩, ?_⟩
    refine ⟨x, _, rfl, rfl, _, rfl, ite2 (fun big => ?_) (fun small => ?_)⟩
    · refine ⟨_, rfl, a, _, 0, _, rfl, rfl, hA, rfl, .inl ⟨x, rfl, _, rfl, x, m, rfl, rfl, m0, ?_⟩⟩
      refine ⟨_, rfl, a, _, 0, _, rfl, rfl, hA, rfl, _, rfl, x, m, rfl, rfl, ⟨m0, m1.lt⟩, ?_⟩
      refine ⟨_, rfl, a, _, 0, 0, rfl, rfl, ha, rfl, ?_⟩
      exact ⟨_, rfl, q (x % m) (x / m) c (Int.emod_nonneg _ (by omega)) (Int.emod_lt_of_pos _ m0)⟩
    · -- well[1] = well[1] + 1
      refine ⟨_, rfl, a, _, 1, _, rfl, rfl, hA, rfl, c, 1, rfl, rfl, _, rfl, a, _, 1, 1, rfl, rfl, ha, rfl, ?_⟩
      have hB : SqL K (upd H a (.lst [.int x, .int (c + 1)])) a [.int x, .int (c + 1)] := .inl (.inl upd_same)
      have e2 : upd H a (.lst ([V.int x, V.int c].set 1 (.int (c + 1)))) = upd H a (.lst [.int x, .int (c + 1)]) := rfl
      rw [e2]
      have k1 : (0 : Int) < 2147483629 := by decide
      refine ⟨_, rfl, a, _, 0, _, rfl, rfl, hB, rfl, .inl ⟨x, rfl, x, 2147483629, rfl, rfl, (by show (0 : Int) < 2147483629; decide), ?_⟩⟩
      refine ⟨_, rfl, a, _, 1, _, rfl, rfl, hB, rfl, 60013, c + 1, rfl, rfl, .inl (by decide), _, _, rfl, rfl, _, _, rfl, rfl, .inl ⟨_, rfl, ?_⟩⟩
      refine ⟨_, _, rfl, rfl, .inr (by decide), .inl ⟨_, rfl, _, _, rfl, rfl, (by show (0 : Int) < 2147483647; decide), ?_⟩⟩
      dsimp only
      generalize hn : ((x % 2147483629 + 60013 * (c + 1) + 11) * 48271) % 2147483647 = n
      have n0 : 0 ≤ n := by rw [← hn]; exact Int.emod_nonneg _ (by decide)
      have n1 : n < 2147483647 := by rw [← hn]; exact Int.emod_lt_of_pos _ (by decide)
      refine ⟨_, rfl, a, _, 0, _, rfl, rfl, hB, rfl, x, _, rfl, rfl, wide_div (b := 40) (by decide) (by decide) (by decide) (by decide), .inl ⟨_, rfl, _, _, rfl, rfl, (by show (0 : Int) < 9973; decide), ?_⟩⟩
      dsimp only
      generalize hz : (x / 2147483629) % 9973 = z
      refine ⟨_, rfl, _, rfl, _, _, rfl, rfl, ⟨by decide, by decide⟩, _, _, rfl, rfl, _, rfl, _, _, rfl, rfl, n, _, rfl, rfl, .inl ⟨by omega, by omega⟩, .inl ⟨_, rfl, _, _, rfl, rfl, (by show (0 : Int) < 2147483587; decide), ?_⟩⟩
      dsimp only
      generalize hg : (n * (n / 1013 + 40692 + z)) % 2147483587 = g
      have g0 : 0 ≤ g := by rw [← hg]; exact Int.emod_nonneg _ (by decide)
      have g1 : g < 2147483587 := by rw [← hg]; exact Int.emod_lt_of_pos _ (by decide)
      refine ⟨_, rfl, _, rfl, _, _, rfl, rfl, ⟨by decide, by decide⟩, _, _, rfl, rfl, g, _, rfl, rfl, .inl ⟨by omega, by omega⟩, .inl ⟨_, rfl, _, _, rfl, rfl, (by show (0 : Int) < 2147483563; decide), ?_⟩⟩
      refine ⟨_, _, rfl, rfl, ⟨by decide, by decide⟩, .inl ⟨_, rfl, _, rfl, _, m, rfl, rfl, m0, ?_⟩⟩
      exact q _ x (c + 1) (Int.emod_nonneg _ (by omega)) (Int.emod_lt_of_pos _ m0)
/-- one of a list's items -/
def spOne (K : PySem.W.Frag) : Sp := fun vs H Q _ => ∃ (a b : Addr) (x c : Int) (xs : List V), vs = [.ref a, .ref b] ∧ H a = some (.lst [.int x, .int c]) ∧ SqL K H b xs ∧ (∀ x' c' : Int, SqL K (upd H a (.lst [.int x', .int c'])) b xs) ∧ 0 < xs.length ∧ xs.length ≤ 1000 ∧
  ∀ (v : V) (x' c' : Int), v ∈ xs → Q v (upd H a (.lst [.int x', .int c']))
theorem ok_one {f : Addr} {fd : FuncData} {k : Nat} (F : FnP K "_law_one" "_law_one" s_law_one f fd) (C_draw : Cal P w K mg base CX0 "_law_draw" (k + 1) ["_law_well_here", "_law_many"] spDraw) (m_len : mg "len" = none) :
    FnOk P w K mg base CX0 (k + 1 + 1) f fd ["_law_well_here", "_law_some"] (spOne K) := by
  obtain ⟨f_law_draw, fd_law_draw, G_law_draw, b_law_draw, m_law_draw, k_law_draw⟩ := C_draw
  refine F.ok sc_law_one (fun vs H Q E h => ?_) (fun cdv A outer s H vs Q E hr h => ?_)
  · obtain ⟨a, b, x, c, xs, rfl, _⟩ := h
    rfl
  · obtain ⟨a, b, x, c, xs, rfl, ha, hb, hb', l0, l1, q⟩ := h
    refine ⟨_, pss_one (ps_ret (pe_ix ix_list (pv 1) (pe_call G_law_draw (hr.mono (by omega)) (by rfl) m_law_draw k_law_draw b_law_draw .nil pass0 (pa_cons (pv 0) (pa_cons (pe_callB call_len_seq (by rfl) m_len PySem.boot_len (pa_cons (pv 1) pa_nil)) pa_nil))) (fun _ _ => rfl))), ?_⟩
    refine ⟨_, rfl, _, rfl, _, rfl, b, xs, rfl, .inl hb, a, x, c, xs.length, rfl, ha, by omega, .of (k := 10) (by show (xs.length : Int).natAbs < 1024; omega) (by decide), fun r x' c' r0 r1 => ?_⟩
    obtain ⟨i, rfl⟩ := Int.eq_ofNat_of_zero_le r0
    have hi : i < xs.length := by omega
    exact ⟨b, xs, _, xs[i], rfl, rfl, hb' x' c', atI_nat (List.getElem?_eq_getElem hi), q _ x' c' (List.getElem_mem hi)⟩

end
end K16
set_option Elab.async false
set_option linter.all false
set_option maxRecDepth 100000
set_option maxHeartbeats 2000000
namespace K16
open PySem PySem.Spec PyProof.Rows L2 CM DN GR
section
variable {P : Program} {w : World} {K : PySem.W.Frag} {mg : Str → Option Value} {base : Heap}
/-! ### values -/
def spInt (K : PySem.W.Frag) : Sp := fun vs H Q _ => ∃ (v : V) (t : Value) (bi bb : Bool), vs = [v] ∧ TyX K H v t ∧ PySem.W.kitOne K t (.type "int") = some bi ∧ (bi = true → PySem.W.kitOne K t (.type "bool") = some bb) ∧ Q (.bl (bi && !bb)) H
theorem ok_int {f : Addr} {fd : FuncData} {k : Nat} (F : FnP K "is_int" "is_int" s_is_int f fd) (m_isinstance : mg "isinstance" = none) (m_int : mg "int" = none) (m_bool : mg "bool" = none) : FnOk P w K mg base CX0 (k + 1) f fd ["thing"] (spInt K) := by
  refine F.ok sc_is_int (fun vs H Q E h => ?_) (fun cdv A outer s H vs Q E hr h => ?_)
  · obtain ⟨v, t, bi, bb, rfl, _⟩ := h
    rfl
  · obtain ⟨v, t, bi, bb, rfl, ty, ki, kb, q⟩ := h
    refine ⟨_, pss_one (ps_ret (pe_and (pe_callB call_isi (by rfl) m_isinstance (by decide +kernel) (pa_cons (pv 0) (pa_cons (pe_bltn (v := .ty "int") (by rfl) m_int (by decide +kernel) rfl) pa_nil))) (pe_one (pe_not (pe_callB call_isi (by rfl) m_isinstance (by decide +kernel) (pa_cons (pv 0) (pa_cons (pe_bltn (v := .ty "bool") (by rfl) m_bool (by decide +kernel) rfl) pa_nil))))))), ?_⟩
    refine ⟨_, rfl, v, _, t, _, bi, rfl, .ty _, ty, ki, bi, rfl, ite2 (fun e => ?_) (fun e => ?_)⟩
    · subst e
      exact ⟨_, rfl, v, _, t, _, bb, rfl, .ty _, ty, kb rfl, bb, rfl, q⟩
    · have e2 : bi = false := by simpa using e
      subst e2
      exact q
/-- what isinstance says of a leaf, of an odd thing, of a tuple -/
theorem odd_kinds {H : Hp} {v : V} (h : Odd K H v) : v ≠ .non ∧ ∃ (t : Value) (bi bb : Bool), TyX K H v t ∧ PySem.W.kitOne K t (.type "str") = some false ∧ PySem.W.kitOne K t (.type "int") = some bi ∧ (bi = true → PySem.W.kitOne K t (.type "bool") = some bb) ∧ (bi && !bb) = false ∧
    PySem.W.kitOne K t (.type "tuple") = some false := by
  rcases h with ⟨b, rfl⟩ | ⟨a, xs, rfl, h⟩ | ⟨a, kvs, rfl, h⟩ | ⟨a, C, dx, fs, rfl, h, k⟩
  · exact ⟨(fun z => by cases z), _, true, true, .base (.bl b), kit_bb (by decide +kernel), kit_bb (by decide +kernel), fun _ => kit_bb (by decide +kernel), rfl, kit_bb (by decide +kernel)⟩
  · exact ⟨(fun z => by cases z), _, false, false, .base (.lst h), kit_bb (by decide +kernel), kit_bb (by decide +kernel), (fun z => by cases z), rfl, kit_bb (by decide +kernel)⟩
  · exact ⟨(fun z => by cases z), _, false, false, .base (.dK h), kit_bb (by decide +kernel), kit_bb (by decide +kernel), (fun z => by cases z), rfl, kit_bb (by decide +kernel)⟩
  · exact ⟨(fun z => by cases z), _, false, false, .base (.ins h k.cl k.ca k.gs k.tk k.mr), k.ks, k.ki, (fun z => by cases z), rfl, k.kt⟩
/-- is_plain_within(thing, d), d below n -/
def spW (K : PySem.W.Frag) (n : Nat) : Sp := fun vs H Q _ => ∃ (v : V) (d : Nat) (b : Bool), vs = [v, .int d] ∧ d < n ∧ PN K H d v b ∧ Q (.bl b) H
theorem ok_within {f : Addr} {fd : FuncData} (F : FnP K "is_plain_within" "is_plain_within" s_is_plain_within f fd) (m_isinstance : mg "isinstance" = none) (m_str : mg "str" = none) (m_tuple : mg "tuple" = none) (m_len : mg "len" = none)
    (C_is_int : Cal P w K mg base CX0 "is_int" 1 ["thing"] (spInt K)) (b_is_plain_within : Binds K fd ["thing", "deepest"] []) (m_is_plain_within : mg "is_plain_within" = some (.ref f)) (k_is_plain_within : PySem.W.keepIn K (.ref f) = true) :
    ∀ n : Nat, FnOk P w K mg base CX0 (n + 1) f fd ["thing", "deepest"] (spW K n)
  | 0 => ⟨fun vs H Q E ⟨_, _, _, _, h, _⟩ => absurd h (Nat.not_lt_zero _), fun A outer s H args us vs Q E _ _ _ _ ⟨_, _, _, _, h, _⟩ => absurd h (Nat.not_lt_zero _)⟩
  | n + 1 => by
    have G_is_plain_within := ok_within F m_isinstance m_str m_tuple m_len C_is_int b_is_plain_within m_is_plain_within k_is_plain_within n
    obtain ⟨f_is_int, fd_is_int, G_is_int, b_is_int, m_is_int, k_is_int⟩ := C_is_int
    refine F.ok sc_is_plain_within (fun vs H Q E h => ?_) (fun cdv A outer s H vs Q E hr h => ?_)
    · obtain ⟨v, d, b, rfl, _⟩ := h
      rfl
    · obtain ⟨v, d, b, rfl, hd, pn, q⟩ := h
      refine ⟨_, PSs.nox (pss_cons (ps_if (PW.pt (pw_or (pt_cmp (pc_isN (pv 0))) (pw_or (pt_val (pe_callB call_isi (by rfl) m_isinstance (by decide +kernel) (pa_cons (pv 0) (pa_cons (pe_bltn (v := .ty "str") (by rfl) m_str (by decide +kernel) rfl) pa_nil)))) (pw_or1 (pt_val (pe_call G_is_int (hr.mono (by omega)) (by rfl) m_is_int k_is_int b_is_int .nil pass0 (pa_cons (pv 0) pa_nil))))))) (pss_one (ps_ret pe_bl)) (pss_nil))
    (pss_cons (ps_if (pt_not (pt_val (pe_callB call_isi (by rfl) m_isinstance (by decide +kernel) (pa_cons (pv 0) (pa_cons (pe_bltn (v := .ty "tuple") (by rfl) m_tuple (by decide +kernel) rfl) pa_nil))))) (pss_one (ps_ret pe_bl)) (pss_nil))
    (pss_cons (ps_if (pt_cmpR op_eq (pv 1) pe_int (nomark _)) (pss_one (ps_ret (pe_cmpR op_eq (pe_callB call_len_seq (by rfl) m_len PySem.boot_len (pa_cons (pv 0) pa_nil)) pe_int (nomark _)))) (pss_nil))
    (pss_cons (ps_for PassesOwn.never rfl (pi_tup (pv 0)) (pg_name (i := 2) sc_is_plain_within.nd rfl (.inl rfl))
      (pss_one (ps_if (pt_not (pt_val (pe_call G_is_plain_within (hr.mono (by omega)) (by rfl) m_is_plain_within k_is_plain_within b_is_plain_within .nil pass0 (pa_cons (pv 2) (pa_cons (pe_op op_sub (pv 1) pe_int) pa_nil))))) (pss_one (ps_ret pe_bl)) (pss_nil))))
    (pss_one (ps_ret pe_bl)))))), ?_⟩
      have hk : (leafB v = true ∧ b = true) ∨ (Odd K H v ∧ b = false) ∨ ∃ a xs, v = .ref a ∧ H a = some (.tup xs) ∧ (d = 0 → b = xs.isEmpty) ∧ (∀ e, d = e + 1 → (b = true ∧ ∀ x ∈ xs, PN K H e x true) ∨ (b = false ∧ ∃ (i : Nat) (x : V), xs[i]? = some x ∧ PN K H e x false ∧ ∀ (j : Nat) (y : V), j < i → xs[j]? = some y → PN K H e y true)) := by
        cases d with
        | zero =>
          rcases pn with h | h | ⟨a, xs, e1, e2, e3⟩
          · exact .inl h
          · exact .inr (.inl h)
          · exact .inr (.inr ⟨a, xs, e1, e2, fun _ => e3, fun e z => by cases z⟩)
        | succ d =>
          rcases pn with h | h | ⟨a, xs, e1, e2, e3⟩
          · exact .inl h
          · exact .inr (.inl h)
          · exact .inr (.inr ⟨a, xs, e1, e2, (fun z => by cases z), fun e z => by cases z; exact e3⟩)
      rcases hk with ⟨hv, rfl⟩ | ⟨ho, rfl⟩ | ⟨a, xs, rfl, ha, h0, h1⟩
      · cases v with
        | non =>
          refine ⟨_, rfl, _, rfl, iteT (iteT ?_)⟩
          exact q
        | str z =>
          refine ⟨_, rfl, _, rfl, iteF ⟨_, rfl, .str z, _, _, _, true, rfl, .ty _, .base (.str z), kit_bb (by decide +kernel), true, rfl, iteT (iteT ?_)⟩⟩
          exact q
        | int z =>
          refine ⟨_, rfl, _, rfl, iteF ⟨_, rfl, .int z, _, _, _, false, rfl, .ty _, .base (.int z), kit_bb (by decide +kernel), false, rfl, iteF ?_⟩⟩
          refine ⟨_, rfl, .int z, _, true, false, rfl, .base (.int z), kit_bb (by decide +kernel), fun _ => kit_bb (by decide +kernel), _, rfl, iteT ?_⟩
          exact q
        | _ => cases hv
      · obtain ⟨hn, t, bi, bb, ty, ks, ki, kb, e0, kt⟩ := odd_kinds ho
        have en : decide (v = V.non) = false := decide_eq_false hn
        refine ⟨v, rfl, decide (v = V.non), rfl, ?_⟩
        rw [en]
        refine iteF ⟨_, rfl, v, _, t, _, false, rfl, .ty _, ty, ks, false, rfl, iteF ?_⟩
        refine ⟨_, rfl, v, t, bi, bb, rfl, ty, ki, kb, _, rfl, ?_⟩
        rw [e0]
        refine iteF ⟨_, rfl, v, _, t, _, false, rfl, .ty _, ty, kt, false, rfl, iteT ?_⟩
        exact q
      · have ty : TyX K H (.ref a) (.type "tuple") := .base (.tup ha)
        refine ⟨_, rfl, _, rfl, iteF ⟨_, rfl, .ref a, _, _, _, false, rfl, .ty _, ty, kit_bb (by decide +kernel), false, rfl, iteF ?_⟩⟩
        refine ⟨_, rfl, .ref a, _, false, false, rfl, ty, kit_bb (by decide +kernel), (fun z => by cases z), _, rfl, iteF ?_⟩
        refine ⟨_, rfl, .ref a, _, _, _, true, rfl, .ty _, ty, kit_bb (by decide +kernel), true, rfl, iteF ?_⟩
        -- deepest == 0
        refine ⟨_, rfl, rfl, _, rfl, ite2 (fun e => ?_) (fun e => ?_)⟩
        · have d0 : d = 0 := by
            have z := V.int.inj (of_decide_eq_true e)
            omega
          refine ⟨_, rfl, a, xs, rfl, .inr (.inl (.inl ha)), rfl, ?_⟩
          have eb := h0 d0
          have e2 : decide (V.int (xs.length : Int) = V.int 0) = b := by
            rw [eb]
            cases xs with
            | nil => rfl
            | cons x r =>
              refine decide_eq_false fun z => ?_
              have z2 := V.int.inj z
              rw [List.length_cons] at z2
              omega
          rw [e2]
          exact q
        · obtain ⟨e', rfl⟩ : ∃ e', d = e' + 1 := by
            cases d with
            | zero => exact absurd (decide_eq_true rfl) e
            | succ m => exact ⟨m, rfl⟩
          have hm := h1 e' rfl
          have earg : ∀ x : V, [x, V.int (((e' + 1 : Nat) : Int) - 1)] = [x, V.int (e' : Int)] := fun x => by
            rw [show ((e' + 1 : Nat) : Int) - 1 = (e' : Int) by omega]
          rcases hm with ⟨rfl, hall⟩ | ⟨rfl, i0, x0, hx0, k0, kt⟩
          · refine ⟨_, rfl, a, rfl, ⟨xs, .inl (.inl ha)⟩, for_tup (K := K) (a := a) (xs := xs) (fun i σ H' => H' = H ∧ ∃ v2, σ = [some (.ref a), some (.int ((e' + 1 : Nat) : Int)), v2])
              ⟨rfl, none, rfl⟩ (fun i σ H' _ ⟨z, _⟩ => by rw [z]; exact .inl (.inl ha)) ?_ ?_⟩
            · rintro i x σ H' hx ⟨rfl, v2, rfl⟩
              refine ⟨_, rfl, _, rfl, _, 1, rfl, rfl, x, e', true, earg _, by omega, hall x (List.mem_of_getElem? hx), true, rfl, iteF ?_⟩
              exact ⟨rfl, _, rfl⟩
            · rintro σ H' ⟨rfl, v2, rfl⟩
              exact q
          · have hi0 := (List.getElem?_eq_some_iff.mp hx0).1
            refine ⟨_, rfl, a, rfl, ⟨xs, .inl (.inl ha)⟩, for_tup (K := K) (a := a) (xs := xs) (fun i σ H' => i ≤ i0 ∧ H' = H ∧ ∃ v2, σ = [some (.ref a), some (.int ((e' + 1 : Nat) : Int)), v2])
              ⟨Nat.zero_le _, rfl, none, rfl⟩ (fun i σ H' _ ⟨_, z, _⟩ => by rw [z]; exact .inl (.inl ha)) ?_ ?_⟩
            · rintro i x σ H' hx ⟨hi, rfl, v2, rfl⟩
              by_cases hlt : i < i0
              · refine ⟨_, rfl, _, rfl, _, 1, rfl, rfl, x, e', true, earg _, by omega, kt i x hlt hx, true, rfl, iteF ?_⟩
                exact ⟨hlt, rfl, _, rfl⟩
              · obtain rfl : i = i0 := by omega
                rw [hx0] at hx
                cases hx
                refine ⟨_, rfl, _, rfl, _, 1, rfl, rfl, _, e', false, earg _, by omega, k0, false, rfl, iteT ?_⟩
                exact q
            · rintro σ H' ⟨hi, _⟩
              exact absurd hi0 (by omega)
def spPlain (K : PySem.W.Frag) : Sp := fun vs H Q _ => ∃ (v : V) (b : Bool), vs = [v] ∧ PN K H 4 v b ∧ Q (.bl b) H
theorem ok_plain {f : Addr} {fd : FuncData} {k : Nat} {t : Tok} (F : FnP K "is_plain" "is_plain" s_is_plain f fd) (m_DEEPEST : mg "DEEPEST" = some (.int 4 t)) (C_w : Cal P w K mg base CX0 "is_plain_within" k ["thing", "deepest"] (spW K 5)) :
    FnOk P w K mg base CX0 (k + 1) f fd ["thing"] (spPlain K) := by
  obtain ⟨f_is_plain_within, fd_is_plain_within, G_is_plain_within, b_is_plain_within, m_is_plain_within, k_is_plain_within⟩ := C_w
  refine F.ok sc_is_plain (fun vs H Q E h => ?_) (fun cdv A outer s H vs Q E hr h => ?_)
  · obtain ⟨v, b, rfl, _⟩ := h
    rfl
  · obtain ⟨v, b, rfl, pn, q⟩ := h
    refine ⟨_, pss_one (ps_ret (pe_call G_is_plain_within (hr.mono (by omega)) (by rfl) m_is_plain_within k_is_plain_within b_is_plain_within .nil pass0 (pa_cons (pv 0) (pa_cons (pe_glob (v := .int 4) (by rfl) m_DEEPEST ⟨_, rfl⟩) pa_nil)))), ?_⟩
    exact ⟨_, rfl, v, 4, b, rfl, by decide, pn, q⟩
end
end K16
set_option Elab.async false
set_option linter.all false
set_option maxRecDepth 100000
set_option maxHeartbeats 2000000
namespace K16
open PySem PySem.Spec PyProof.Rows L2 CM DN GR
section
variable {P : Program} {w : World} {K : PySem.W.Frag} {mg : Str → Option Value} {base : Heap}
/-! ### a kind is asked -/
def Ask (P : Program) (w : World) (K : PySem.W.Frag) (mg : Str → Option Value) (base : Heap) (n : Nat) (k : Addr) (m : Str) (args : List V) (H : Hp) (Q : VK) : Prop :=
  ∃ C dx fs f, H k = some (.ins C dx fs) ∧ fs.lookup m = none ∧ Cls K C ∧ Meth K C m f ∧ CLO.RunsTo P w K mg base CX0 n f (.ref k :: args) H Q E0
theorem Ask.imp {n : Nat} {k : Addr} {m : Str} {args : List V} {H : Hp} {Q Q' : VK} (a : Ask P w K mg base n k m args H Q) (h : ∀ v H', Q v H' → Q' v H') : Ask P w K mg base n k m args H Q' :=
  let ⟨C, dx, fs, f, h1, h2, h3, h4, r⟩ := a; ⟨C, dx, fs, f, h1, h2, h3, h4, r.imp h⟩
/-- a method of a class, by its promise -/
theorem ask_of {C k : Addr} {dx : Addr} {fs : List (Str × V)} {m : Str} {j n : Nat} {ps : List Str} {sp : Sp} {args : List V} {H : Hp} {Q : VK} (c : CalM P w K mg base CX0 C m j ps sp) (cl : Cls K C) (hn : j ≤ n) (hk : H k = some (.ins C dx fs)) (hl : fs.lookup m = none) (q : sp (.ref k :: args) H Q E0) : Ask P w K mg base n k m args H Q := by
  obtain ⟨f, fd, G, b, me⟩ := c
  exact ⟨C, dx, fs, f, hk, hl, cl, me, CLO.RunsTo.mk ((raw0 G b).mono hn) q⟩
def spChecked (K : PySem.W.Frag) : Sp := fun vs H Q _ => ∃ v, vs = [v] ∧ PN K H 4 v true ∧ Q v H
theorem ok_checked {f : Addr} {fd : FuncData} {k : Nat} (F : FnP K "checked" "checked" s_checked f fd) (C_plain : Cal P w K mg base CX0 "is_plain" k ["thing"] (spPlain K)) : FnOk P w K mg base CX0 (k + 1) f fd ["label"] (spChecked K) := by
  obtain ⟨f_is_plain, fd_is_plain, G_is_plain, b_is_plain, m_is_plain, k_is_plain⟩ := C_plain
  refine F.ok sc_checked (fun vs H Q E h => ?_) (fun cdv A outer s H vs Q E hr h => ?_)
  · obtain ⟨v, rfl, _⟩ := h
    rfl
  · obtain ⟨v, rfl, pn, q⟩ := h
    refine ⟨_, PSs.nox (pss_cons (ps_if (pt_not (pt_val (pe_call G_is_plain (hr.mono (by omega)) (by rfl) m_is_plain k_is_plain b_is_plain .nil pass0 (pa_cons (pv 0) pa_nil)))) (pss_one (ps_never)) (pss_nil))
    (pss_one (ps_ret (pv 0)))), ?_⟩
    exact ⟨_, rfl, v, true, rfl, pn, true, rfl, iteF ⟨_, rfl, q⟩⟩
/-- what the label of a key is -/
def spOL (P : Program) (w : World) (K : PySem.W.Frag) (mg : Str → Option Value) (base : Heap) : Sp := fun vs H Q _ => ∃ (kd : Addr) (key : V), vs = [.ref kd, key] ∧ Ask P w K mg base 6 kd "own" [key] H fun v H' => PN K H' 4 v true ∧ Q v H'
theorem ok_OL {f : Addr} {fd : FuncData} {k : Nat} (hk : 6 ≤ k) (F : FnP K "own_label" "own_label" s_own_label f fd) (C_checked : Cal P w K mg base CX0 "checked" k ["label"] (spChecked K)) : FnOk P w K mg base CX0 (k + 1) f fd ["kind", "key"] (spOL P w K mg base) := by
  obtain ⟨f_checked, fd_checked, G_checked, b_checked, m_checked, k_checked⟩ := C_checked
  refine F.ok sc_own_label (fun vs H Q E h => ?_) (fun cdv A outer s H vs Q E hr h => ?_)
  · obtain ⟨kd, key, rfl, _⟩ := h
    rfl
  · obtain ⟨kd, key, rfl, C, dx, fs, g, h1, h2, h3, h4, run⟩ := h
    refine ⟨_, pss_one (ps_ret (pe_call G_checked (hr.mono (by omega)) (by rfl) m_checked k_checked b_checked .nil pass0 (pa_cons (CLO.pe_methV (P := P) (w := w) (K := K) (mg := mg) (base := base) (CX := CX0) (n := 6) (pv 0) (hr.mono (by omega)) pass0 (pa_cons (pv 1) pa_nil)) pa_nil))), ?_⟩
    exact ⟨_, rfl, kd, C, dx, fs, g, rfl, h1, h2, h3, h4, _, rfl, run.imp fun v H' ⟨pn, q⟩ => ⟨v, rfl, pn, q⟩⟩
def spJL (P : Program) (w : World) (K : PySem.W.Frag) (mg : Str → Option Value) (base : Heap) : Sp := fun vs H Q _ => ∃ (kd : Addr) (x y : V), vs = [.ref kd, x, y] ∧ Ask P w K mg base 6 kd "join" [x, y] H fun v H' => PN K H' 4 v true ∧ Q v H'
theorem ok_JL {f : Addr} {fd : FuncData} {k : Nat} (hk : 6 ≤ k) (F : FnP K "joined" "joined" s_joined f fd) (C_checked : Cal P w K mg base CX0 "checked" k ["label"] (spChecked K)) : FnOk P w K mg base CX0 (k + 1) f fd ["kind", "one", "other"] (spJL P w K mg base) := by
  obtain ⟨f_checked, fd_checked, G_checked, b_checked, m_checked, k_checked⟩ := C_checked
  refine F.ok sc_joined (fun vs H Q E h => ?_) (fun cdv A outer s H vs Q E hr h => ?_)
  · obtain ⟨kd, x, y, rfl, _⟩ := h
    rfl
  · obtain ⟨kd, x, y, rfl, C, dx, fs, g, h1, h2, h3, h4, run⟩ := h
    refine ⟨_, pss_one (ps_ret (pe_call G_checked (hr.mono (by omega)) (by rfl) m_checked k_checked b_checked .nil pass0 (pa_cons (CLO.pe_methV (P := P) (w := w) (K := K) (mg := mg) (base := base) (CX := CX0) (n := 6) (pv 0) (hr.mono (by omega)) pass0 (pa_cons (pv 1) (pa_cons (pv 2) pa_nil))) pa_nil))), ?_⟩
    exact ⟨_, rfl, kd, C, dx, fs, g, rfl, h1, h2, h3, h4, _, rfl, _, rfl, run.imp fun v H' ⟨pn, q⟩ => ⟨v, rfl, pn, q⟩⟩
/-- NotGiven is raised with the name -/
def Ng (CN : Addr) (E : XK) (H : Hp) (nm : Str) : Prop := ∀ (d : Addr) (H' : Hp), H d = none → Same H H' → H' d = some (.xd [("name", .str nm)]) → E (.ref CN) (some d) H'
def spNG (CN : Addr) : Sp := fun vs H Q _ => ∃ (e : Addr) (v : V), vs = [.ref e, v] ∧ H e = some (exo e CN none) ∧ ∀ dx, H dx = none → dx ≠ e → Q .non (upd (upd H dx (exd dx [("name", v)])) e (exo e CN (some dx)))
theorem ok_NG {CN f : Addr} {fd : FuncData} {k : Nat} (F : FnP K "__init__" "NotGiven.__init__" s_NotGiven___init f fd) (T : OexC K CN) (nv : PySem.W.findIn K (.ref CN) "name" = some none) : FnOk P w K mg base CX0 (k + 1) f fd ["self", "name"] (spNG CN) := by
  refine F.ok sc_NotGiven___init (fun vs H Q E h => ?_) (fun cdv A outer s H vs Q E hr h => ?_)
  · obtain ⟨e, v, rfl, _⟩ := h
    rfl
  · obtain ⟨e, v, rfl, he, q⟩ := h
    refine ⟨_, pss_one (ps_ost (pv 0) (pv 1)), ?_⟩
    exact ⟨_, rfl, _, rfl, e, CN, rfl, T, nv, .inl ⟨he, fun dx n ne => q dx n ne⟩⟩
theorem passF {X : Cx} : Passes (L2.CX X.prog X.w) X (fun _ _ _ => False) := fun _ _ _ _ _ _ _ h => by
  obtain ⟨_, _, _, _, _, _, _, _, _, _, _, _, z⟩ := h
  exact z.elim
/-- what NotGiven asks, to be raised -/
structure Er (P : Program) (w : World) (K : PySem.W.Frag) (mg : Str → Option Value) (base : Heap) (CN : Addr) (f_N : Addr) (fd_N : FuncData) : Prop where
  m : mg "NotGiven" = some (.ref CN)
  T : OexC K CN
  iC : PySem.W.findIn K (.ref CN) "__init__" = some (some (.ref f_N))
  tI : PySem.W.typeIn K (.ref f_N) = some (.type "function")
  G : FnOk P w K mg base CX0 1 f_N fd_N ["self", "name"] (spNG CN)
  b : Binds K fd_N ["self", "name"] []
theorem go_err {CN : Addr} {E : XK} {H : Hp} {σ : L2.St} {nm : Str} (q : Ng CN E H nm) : tMkO CN (spNG CN) [] (tCons (tC (.str nm)) tNil) σ H fun cls d H' => E cls d H' := by
  refine ⟨by show 1 ≤ 1000; decide, fun a na => ⟨a, .str nm, rfl, upd_same, fun d nd ne => ?_⟩⟩
  have hd : H d = none := by
    rw [upd_ne ne] at nd
    exact nd
  refine ⟨rfl, d, [("name", .str nm)], upd_same, by rw [upd_ne ne]; exact upd_same, hd, q d _ hd (fun b o e => ?_) upd_same⟩
  have bd : b ≠ d := ne_of_none e hd
  have ba : b ≠ a := ne_of_none e na
  rw [upd_ne bd, del_ne ba, upd_ne ba, upd_ne bd, upd_ne ba]
  exact e
/-- a kind's distance, or that it has none -/
def spDB (P : Program) (w : World) (K : PySem.W.Frag) (mg : Str → Option Value) (base : Heap) (CM CN : Addr) (m : Str) : Sp := fun vs H Q E => ∃ (kd C dx : Addr) (fs : List (Str × V)) (x y : V), vs = [.ref kd, x, y] ∧ H kd = some (.ins C dx fs) ∧ InsK K C ∧
  ((PySem.W.kitOne K (.ref C) (.ref CM) = some true ∧ Ask P w K mg base 6 kd m [x, y] H Q) ∨ (PySem.W.kitOne K (.ref C) (.ref CM) = some false ∧ Ng CN E H m))
theorem ok_DB {CM CN f f_N : Addr} {fd fd_N : FuncData} {k : Nat} (hk : 6 ≤ k) (F : FnP K "distance_by" "distance_by" s_distance_by f fd) (m_isinstance : mg "isinstance" = none) (m_Measured : mg "Measured" = some (.ref CM)) (N : Er P w K mg base CN f_N fd_N) :
    FnOk P w K mg base (L2.CX P w) (k + 1) f fd ["kind", "key", "point"] (spDB P w K mg base CM CN "distance") := by
  obtain ⟨m_NotGiven, T_N, iC_N, tI_N, G_N, b_N⟩ := N
  refine F.ok sc_distance_by (fun vs H Q E h => ?_) (fun cdv A outer s H vs Q E hr h => ?_)
  · obtain ⟨kd, C, dx, fs, x, y, rfl, _⟩ := h
    rfl
  · obtain ⟨kd, C, dx, fs, x, y, rfl, hkd, ik, q⟩ := h
    refine ⟨_, pss_cons (ps_if (pt_not (pt_val (pe_callB call_isi (by rfl) m_isinstance (by decide +kernel) (pa_cons (pv 0) (pa_cons (pe_gref (by rfl) m_Measured) pa_nil))))) (pss_one (ps_raise rfl (takes_of rfl rfl rfl rfl) (pmk_oex T_N iC_N tI_N G_N (hr.mono (by omega)) b_N .nil pass0 (by rfl) m_NotGiven (pa_cons pe_str pa_nil)))) (pss_nil))
    (pss_one (ps_ret (CLO.pe_methV (P := P) (w := w) (K := K) (mg := mg) (base := base) (CX := CX0) (n := 6) (pv 0) (hr.mono (by omega)) pass0 (pa_cons (pv 1) (pa_cons (pv 2) pa_nil))))), ?_⟩
    have ty : TyX K H (.ref kd) (.ref C) := .base (.ins hkd ik.cl ik.ca ik.gs ik.tk ik.mr)
    rcases q with ⟨kt, C', dx', fs', g, h1, h2, h3, h4, run⟩ | ⟨kt, q⟩
    · exact ⟨_, rfl, .ref kd, _, _, _, true, rfl, .own CM, ty, kt, true, rfl, iteF ⟨_, rfl, kd, C', dx', fs', g, rfl, h1, h2, h3, h4, _, rfl, _, rfl, run⟩⟩
    · exact ⟨_, rfl, .ref kd, _, _, _, false, rfl, .own CM, ty, kt, false, rfl, iteT (go_err q)⟩
theorem ok_BB {CM CN f f_N : Addr} {fd fd_N : FuncData} {k : Nat} (hk : 6 ≤ k) (F : FnP K "bound_by" "bound_by" s_bound_by f fd) (m_isinstance : mg "isinstance" = none) (m_Measured : mg "Measured" = some (.ref CM)) (N : Er P w K mg base CN f_N fd_N) :
    FnOk P w K mg base (L2.CX P w) (k + 1) f fd ["kind", "label", "point"] (spDB P w K mg base CM CN "bound") := by
  obtain ⟨m_NotGiven, T_N, iC_N, tI_N, G_N, b_N⟩ := N
  refine F.ok sc_bound_by (fun vs H Q E h => ?_) (fun cdv A outer s H vs Q E hr h => ?_)
  · obtain ⟨kd, C, dx, fs, x, y, rfl, _⟩ := h
    rfl
  · obtain ⟨kd, C, dx, fs, x, y, rfl, hkd, ik, q⟩ := h
    refine ⟨_, pss_cons (ps_if (pt_not (pt_val (pe_callB call_isi (by rfl) m_isinstance (by decide +kernel) (pa_cons (pv 0) (pa_cons (pe_gref (by rfl) m_Measured) pa_nil))))) (pss_one (ps_raise rfl (takes_of rfl rfl rfl rfl) (pmk_oex T_N iC_N tI_N G_N (hr.mono (by omega)) b_N .nil pass0 (by rfl) m_NotGiven (pa_cons pe_str pa_nil)))) (pss_nil))
    (pss_one (ps_ret (CLO.pe_methV (P := P) (w := w) (K := K) (mg := mg) (base := base) (CX := CX0) (n := 6) (pv 0) (hr.mono (by omega)) pass0 (pa_cons (pv 1) (pa_cons (pv 2) pa_nil))))), ?_⟩
    have ty : TyX K H (.ref kd) (.ref C) := .base (.ins hkd ik.cl ik.ca ik.gs ik.tk ik.mr)
    rcases q with ⟨kt, C', dx', fs', g, h1, h2, h3, h4, run⟩ | ⟨kt, q⟩
    · exact ⟨_, rfl, .ref kd, _, _, _, true, rfl, .own CM, ty, kt, true, rfl, iteF ⟨_, rfl, kd, C', dx', fs', g, rfl, h1, h2, h3, h4, _, rfl, _, rfl, run⟩⟩
    · exact ⟨_, rfl, .ref kd, _, _, _, false, rfl, .own CM, ty, kt, false, rfl, iteT (go_err q)⟩
end
end K16
set_option Elab.async false
set_option linter.all false
set_option maxRecDepth 100000
set_option maxHeartbeats 2000000
namespace K16
open PySem PySem.Spec PyProof.Rows L2 CM DN GR
section
variable {P : Program} {w : World} {K : PySem.W.Frag} {mg : Str → Option Value} {base : Heap}
/-! ### Both -/
structure BC (K : PySem.W.Frag) (C : Addr) : Prop where
  cl : Cls K C
  n1 : NoAttr K C "first"
  n2 : NoAttr K C "second"
def BothAt (C : Addr) (H : Hp) (b k1 k2 : Addr) : Prop := ∃ dx, H b = some (.ins C dx [("first", .ref k1), ("second", .ref k2)])
theorem BothAt.ext {C b k1 k2 : Addr} {H H' : Hp} (h : BothAt C H b k1 k2) (s : LamX.ExtN H H') : BothAt C H' b k1 k2 := let ⟨dx, e⟩ := h; ⟨dx, s _ _ e fun _ z => by cases z⟩
def spBInit (C : Addr) : Sp := fun vs H Q _ => ∃ (b dx : Addr) (k1 k2 : V), vs = [.ref b, k1, k2] ∧ H b = some (.ins C dx []) ∧ Q .non (upd H b (.ins C dx [("first", k1), ("second", k2)]))
theorem ok_Binit {C f : Addr} {fd : FuncData} {k : Nat} (F : FnP K "__init__" "Both.__init__" s_Both___init f fd) (c : BC K C) : FnOk P w K mg base CX0 (k + 1) f fd ["self", "one", "other"] (spBInit C) := by
  refine F.ok sc_Both___init (fun vs H Q E h => ?_) (fun cdv A outer s H vs Q E hr h => ?_)
  · obtain ⟨b, dx, k1, k2, rfl, _⟩ := h
    rfl
  · obtain ⟨b, dx, k1, k2, rfl, hb, q⟩ := h
    refine ⟨_, pss_cons (ps_fld (pv 0) (pv 1) rfl)
    (pss_one (ps_fld (pv 0) (pv 2) rfl)), ?_⟩
    refine ⟨_, rfl, _, rfl, b, C, dx, [], rfl, hb, c.cl, c.n1, (by show 0 < 1000; decide), ?_⟩
    refine ⟨_, rfl, _, rfl, b, C, dx, [("first", k1)], rfl, upd_same, c.cl, c.n2, (by show 1 < 1000; decide), ?_⟩
    rw [upd_upd]
    exact q
def spBOwn (P : Program) (w : World) (K : PySem.W.Frag) (mg : Str → Option Value) (base : Heap) (C : Addr) : Sp := fun vs H Q _ => ∃ (b k1 k2 t : Addr) (x y : V), vs = [.ref b, .ref t] ∧ BothAt C H b k1 k2 ∧ H t = some (.tup [x, y]) ∧ Ask P w K mg base 6 k1 "own" [x] H fun v1 H1 => PN K H1 4 v1 true ∧ BothAt C H1 b k1 k2 ∧ H1 t = some (.tup [x, y]) ∧
  Ask P w K mg base 6 k2 "own" [y] H1 fun v2 H2 => PN K H2 4 v2 true ∧ ∀ p, H2 p = none → Q (.ref p) (upd H2 p (.tup [v1, v2]))
theorem at0 {x y : V} : atI [x, y] 0 = some x := rfl
theorem at1 {x y : V} : atI [x, y] 1 = some y := rfl
theorem ok_Bown {C f : Addr} {fd : FuncData} {k : Nat} (F : FnP K "own" "Both.own" s_Both_own f fd) (c : BC K C) (C_own_label : Cal P w K mg base CX0 "own_label" k ["kind", "key"] (spOL P w K mg base)) : FnOk P w K mg base CX0 (k + 1) f fd ["self", "key"] (spBOwn P w K mg base C) := by
  obtain ⟨f_own_label, fd_own_label, G_own_label, b_own_label, m_own_label, k_own_label⟩ := C_own_label
  refine F.ok sc_Both_own (fun vs H Q E h => ?_) (fun cdv A outer s H vs Q E hr h => ?_)
  · obtain ⟨b, k1, k2, t, x, y, rfl, _⟩ := h
    rfl
  · obtain ⟨b, k1, k2, t, x, y, rfl, ⟨dx, hb⟩, ht, a⟩ := h
    refine ⟨_, pss_one (ps_ret (pe_tup (pa_cons (pe_call G_own_label (hr.mono (by omega)) (by rfl) m_own_label k_own_label b_own_label .nil pass0 (pa_cons (pe_fld (pv 0) rfl) (pa_cons (pe_ix ix_tup (pv 1) pe_int (fun _ _ => rfl)) pa_nil))) (pa_cons (pe_call G_own_label (hr.mono (by omega)) (by rfl) m_own_label k_own_label b_own_label .nil pass0 (pa_cons (pe_fld (pv 0) rfl) (pa_cons (pe_ix ix_tup (pv 1) pe_int (fun _ _ => rfl)) pa_nil))) pa_nil)))), ?_⟩
    refine ⟨_, rfl, b, C, dx, _, _, rfl, hb, c.cl, c.n1, rfl, _, rfl, t, _, 0, x, rfl, rfl, .inl (.inl ht), at0, k1, x, rfl, a.imp fun v1 H1 ⟨pn, ⟨dx1, hb1⟩, ht1, a2⟩ => ⟨pn, ?_⟩⟩
    refine ⟨_, rfl, b, C, dx1, _, _, rfl, hb1, c.cl, c.n2, rfl, _, rfl, t, _, 1, y, rfl, rfl, .inl (.inl ht1), at1, k2, y, rfl, a2.imp fun v2 H2 ⟨pn2, q⟩ => ⟨pn2, by show 2 ≤ sizeLine; decide, q⟩⟩
def spBJoin (P : Program) (w : World) (K : PySem.W.Frag) (mg : Str → Option Value) (base : Heap) (C : Addr) : Sp := fun vs H Q _ => ∃ (b k1 k2 t r : Addr) (x y x' y' : V), vs = [.ref b, .ref t, .ref r] ∧ BothAt C H b k1 k2 ∧ H t = some (.tup [x, y]) ∧ H r = some (.tup [x', y']) ∧
  Ask P w K mg base 6 k1 "join" [x, x'] H fun v1 H1 => PN K H1 4 v1 true ∧ BothAt C H1 b k1 k2 ∧ H1 t = some (.tup [x, y]) ∧ H1 r = some (.tup [x', y']) ∧ Ask P w K mg base 6 k2 "join" [y, y'] H1 fun v2 H2 => PN K H2 4 v2 true ∧ ∀ p, H2 p = none → Q (.ref p) (upd H2 p (.tup [v1, v2]))
theorem ok_Bjoin {C f : Addr} {fd : FuncData} {k : Nat} (F : FnP K "join" "Both.join" s_Both_join f fd) (c : BC K C) (C_joined : Cal P w K mg base CX0 "joined" k ["kind", "one", "other"] (spJL P w K mg base)) : FnOk P w K mg base CX0 (k + 1) f fd ["self", "one", "other"] (spBJoin P w K mg base C) := by
  obtain ⟨f_joined, fd_joined, G_joined, b_joined, m_joined, k_joined⟩ := C_joined
  refine F.ok sc_Both_join (fun vs H Q E h => ?_) (fun cdv A outer s H vs Q E hr h => ?_)
  · obtain ⟨b, k1, k2, t, r, x, y, x', y', rfl, _⟩ := h
    rfl
  · obtain ⟨b, k1, k2, t, r, x, y, x', y', rfl, ⟨dx, hb⟩, ht, hr', a⟩ := h
    refine ⟨_, pss_one (ps_ret (pe_tup (pa_cons (pe_call G_joined (hr.mono (by omega)) (by rfl) m_joined k_joined b_joined .nil pass0 (pa_cons (pe_fld (pv 0) rfl) (pa_cons (pe_ix ix_tup (pv 1) pe_int (fun _ _ => rfl)) (pa_cons (pe_ix ix_tup (pv 2) pe_int (fun _ _ => rfl)) pa_nil)))) (pa_cons (pe_call G_joined (hr.mono (by omega)) (by rfl) m_joined k_joined b_joined .nil pass0 (pa_cons (pe_fld (pv 0) rfl) (pa_cons (pe_ix ix_tup (pv 1) pe_int (fun _ _ => rfl)) (pa_cons (pe_ix ix_tup (pv 2) pe_int (fun _ _ => rfl)) pa_nil)))) pa_nil)))), ?_⟩
    refine ⟨_, rfl, b, C, dx, _, _, rfl, hb, c.cl, c.n1, rfl, _, rfl, t, _, 0, x, rfl, rfl, .inl (.inl ht), at0, _, rfl, r, _, 0, x', rfl, rfl, .inl (.inl hr'), at0, k1, x, x', rfl, a.imp fun v1 H1 ⟨pn, ⟨dx1, hb1⟩, ht1, hr1, a2⟩ => ⟨pn, ?_⟩⟩
    refine ⟨_, rfl, b, C, dx1, _, _, rfl, hb1, c.cl, c.n2, rfl, _, rfl, t, _, 1, y, rfl, rfl, .inl (.inl ht1), at1, _, rfl, r, _, 1, y', rfl, rfl, .inl (.inl hr1), at1, k2, y, y', rfl, a2.imp fun v2 H2 ⟨pn2, q⟩ => ⟨pn2, by show 2 ≤ sizeLine; decide, q⟩⟩
/-- consistent, matches -/
def spBAnd (P : Program) (w : World) (K : PySem.W.Frag) (mg : Str → Option Value) (base : Heap) (C : Addr) (m : Str) : Sp := fun vs H Q _ => ∃ (b k1 k2 t r : Addr) (x y x' y' : V), vs = [.ref b, .ref t, .ref r] ∧ BothAt C H b k1 k2 ∧ H t = some (.tup [x, y]) ∧ H r = some (.tup [x', y']) ∧
  Ask P w K mg base 6 k1 m [x, x'] H fun v1 H1 => ∃ c : Bool, v1 = .bl c ∧ (c = false → Q (.bl false) H1) ∧ (c = true → BothAt C H1 b k1 k2 ∧ H1 t = some (.tup [x, y]) ∧ H1 r = some (.tup [x', y']) ∧ Ask P w K mg base 6 k2 m [y, y'] H1 Q)
theorem ok_Bcons {C f : Addr} {fd : FuncData} {k : Nat} (hk : 6 ≤ k) (F : FnP K "consistent" "Both.consistent" s_Both_consistent f fd) (c : BC K C) : FnOk P w K mg base CX0 (k + 1) f fd ["self", "label", "question"] (spBAnd P w K mg base C "consistent") := by
  refine F.ok sc_Both_consistent (fun vs H Q E h => ?_) (fun cdv A outer s H vs Q E hr h => ?_)
  · obtain ⟨b, k1, k2, t, r, x, y, x', y', rfl, _⟩ := h
    rfl
  · obtain ⟨b, k1, k2, t, r, x, y, x', y', rfl, ⟨dx, hb⟩, ht, hr', C1, dx1, fs1, g1, h1, h2, h3, h4, run⟩ := h
    refine ⟨_, pss_one (ps_ret (pe_and (CLO.pe_methV (P := P) (w := w) (K := K) (mg := mg) (base := base) (CX := CX0) (n := 6) (pe_fld (pv 0) rfl) (hr.mono (by omega)) pass0 (pa_cons (pe_ix ix_tup (pv 1) pe_int (fun _ _ => rfl)) (pa_cons (pe_ix ix_tup (pv 2) pe_int (fun _ _ => rfl)) pa_nil))) (pe_one (CLO.pe_methV (P := P) (w := w) (K := K) (mg := mg) (base := base) (CX := CX0) (n := 6) (pe_fld (pv 0) rfl) (hr.mono (by omega)) pass0 (pa_cons (pe_ix ix_tup (pv 1) pe_int (fun _ _ => rfl)) (pa_cons (pe_ix ix_tup (pv 2) pe_int (fun _ _ => rfl)) pa_nil)))))), ?_⟩
    refine ⟨_, rfl, b, C, dx, _, _, rfl, hb, c.cl, c.n1, rfl, k1, C1, dx1, fs1, g1, rfl, h1, h2, h3, h4, _, rfl, t, _, 0, x, rfl, rfl, .inl (.inl ht), at0, _, rfl, r, _, 0, x', rfl, rfl, .inl (.inl hr'), at0, run.imp fun v1 H1 ⟨cc, e, q1, q2⟩ => ⟨cc, e, ?_⟩⟩
    cases cc with
    | false => exact iteF (q1 rfl)
    | true =>
      obtain ⟨⟨dx2, hb2⟩, ht2, hr2, C2, dx3, fs2, g2, i1, i2, i3, i4, run2⟩ := q2 rfl
      exact iteT ⟨_, rfl, b, C, dx2, _, _, rfl, hb2, c.cl, c.n2, rfl, k2, C2, dx3, fs2, g2, rfl, i1, i2, i3, i4, _, rfl, t, _, 1, y, rfl, rfl, .inl (.inl ht2), at1, _, rfl, r, _, 1, y', rfl, rfl, .inl (.inl hr2), at1, run2⟩
theorem ok_Bmat {C f : Addr} {fd : FuncData} {k : Nat} (hk : 6 ≤ k) (F : FnP K "matches" "Both.matches" s_Both_matches f fd) (c : BC K C) : FnOk P w K mg base CX0 (k + 1) f fd ["self", "key", "question"] (spBAnd P w K mg base C "matches") := by
  refine F.ok sc_Both_matches (fun vs H Q E h => ?_) (fun cdv A outer s H vs Q E hr h => ?_)
  · obtain ⟨b, k1, k2, t, r, x, y, x', y', rfl, _⟩ := h
    rfl
  · obtain ⟨b, k1, k2, t, r, x, y, x', y', rfl, ⟨dx, hb⟩, ht, hr', C1, dx1, fs1, g1, h1, h2, h3, h4, run⟩ := h
    refine ⟨_, pss_one (ps_ret (pe_and (CLO.pe_methV (P := P) (w := w) (K := K) (mg := mg) (base := base) (CX := CX0) (n := 6) (pe_fld (pv 0) rfl) (hr.mono (by omega)) pass0 (pa_cons (pe_ix ix_tup (pv 1) pe_int (fun _ _ => rfl)) (pa_cons (pe_ix ix_tup (pv 2) pe_int (fun _ _ => rfl)) pa_nil))) (pe_one (CLO.pe_methV (P := P) (w := w) (K := K) (mg := mg) (base := base) (CX := CX0) (n := 6) (pe_fld (pv 0) rfl) (hr.mono (by omega)) pass0 (pa_cons (pe_ix ix_tup (pv 1) pe_int (fun _ _ => rfl)) (pa_cons (pe_ix ix_tup (pv 2) pe_int (fun _ _ => rfl)) pa_nil)))))), ?_⟩
    refine ⟨_, rfl, b, C, dx, _, _, rfl, hb, c.cl, c.n1, rfl, k1, C1, dx1, fs1, g1, rfl, h1, h2, h3, h4, _, rfl, t, _, 0, x, rfl, rfl, .inl (.inl ht), at0, _, rfl, r, _, 0, x', rfl, rfl, .inl (.inl hr'), at0, run.imp fun v1 H1 ⟨cc, e, q1, q2⟩ => ⟨cc, e, ?_⟩⟩
    cases cc with
    | false => exact iteF (q1 rfl)
    | true =>
      obtain ⟨⟨dx2, hb2⟩, ht2, hr2, C2, dx3, fs2, g2, i1, i2, i3, i4, run2⟩ := q2 rfl
      exact iteT ⟨_, rfl, b, C, dx2, _, _, rfl, hb2, c.cl, c.n2, rfl, k2, C2, dx3, fs2, g2, rfl, i1, i2, i3, i4, _, rfl, t, _, 1, y, rfl, rfl, .inl (.inl ht2), at1, _, rfl, r, _, 1, y', rfl, rfl, .inl (.inl hr2), at1, run2⟩
/-- penalty -/
def spBPen (P : Program) (w : World) (K : PySem.W.Frag) (mg : Str → Option Value) (base : Heap) (C : Addr) : Sp := fun vs H Q _ => ∃ (b k1 k2 t r : Addr) (x y x' y' : V), vs = [.ref b, .ref t, .ref r] ∧ BothAt C H b k1 k2 ∧ H t = some (.tup [x, y]) ∧ H r = some (.tup [x', y']) ∧
  Ask P w K mg base 6 k1 "penalty" [x, x'] H fun v1 H1 => ∃ i : Int, v1 = .int i ∧ BothAt C H1 b k1 k2 ∧ H1 t = some (.tup [x, y]) ∧ H1 r = some (.tup [x', y']) ∧ Ask P w K mg base 6 k2 "penalty" [y, y'] H1 fun v2 H2 => ∃ j : Int, v2 = .int j ∧ Q (.int (i + j)) H2
theorem ok_Bpen {C f : Addr} {fd : FuncData} {k : Nat} (hk : 6 ≤ k) (F : FnP K "penalty" "Both.penalty" s_Both_penalty f fd) (c : BC K C) : FnOk P w K mg base CX0 (k + 1) f fd ["self", "label", "key"] (spBPen P w K mg base C) := by
  refine F.ok sc_Both_penalty (fun vs H Q E h => ?_) (fun cdv A outer s H vs Q E hr h => ?_)
  · obtain ⟨b, k1, k2, t, r, x, y, x', y', rfl, _⟩ := h
    rfl
  · obtain ⟨b, k1, k2, t, r, x, y, x', y', rfl, ⟨dx, hb⟩, ht, hr', C1, dx1, fs1, g1, h1, h2, h3, h4, run⟩ := h
    refine ⟨_, pss_one (ps_ret (pe_op op_add (CLO.pe_methV (P := P) (w := w) (K := K) (mg := mg) (base := base) (CX := CX0) (n := 6) (pe_fld (pv 0) rfl) (hr.mono (by omega)) pass0 (pa_cons (pe_ix ix_tup (pv 1) pe_int (fun _ _ => rfl)) (pa_cons (pe_ix ix_tup (pv 2) pe_int (fun _ _ => rfl)) pa_nil))) (CLO.pe_methV (P := P) (w := w) (K := K) (mg := mg) (base := base) (CX := CX0) (n := 6) (pe_fld (pv 0) rfl) (hr.mono (by omega)) pass0 (pa_cons (pe_ix ix_tup (pv 1) pe_int (fun _ _ => rfl)) (pa_cons (pe_ix ix_tup (pv 2) pe_int (fun _ _ => rfl)) pa_nil))))), ?_⟩
    refine ⟨_, rfl, b, C, dx, _, _, rfl, hb, c.cl, c.n1, rfl, k1, C1, dx1, fs1, g1, rfl, h1, h2, h3, h4, _, rfl, t, _, 0, x, rfl, rfl, .inl (.inl ht), at0, _, rfl, r, _, 0, x', rfl, rfl, .inl (.inl hr'), at0, run.imp fun v1 H1 ⟨i, e, ⟨dx2, hb2⟩, ht2, hr2, C2, dx3, fs2, g2, i1, i2, i3, i4, run2⟩ => ?_⟩
    exact ⟨_, rfl, b, C, dx2, _, _, rfl, hb2, c.cl, c.n2, rfl, k2, C2, dx3, fs2, g2, rfl, i1, i2, i3, i4, _, rfl, t, _, 1, y, rfl, rfl, .inl (.inl ht2), at1, _, rfl, r, _, 1, y', rfl, rfl, .inl (.inl hr2), at1, run2.imp fun v2 H2 ⟨j, e2, q⟩ => ⟨i, j, e, e2, q⟩⟩
end
end K16
set_option Elab.async false
set_option linter.all false
set_option maxRecDepth 100000
set_option maxHeartbeats 2000000
namespace K16
open PySem PySem.Spec PyProof.Rows L2 CM DN GR
section
variable {P : Program} {w : World} {K : PySem.W.Frag} {mg : Str → Option Value} {base : Heap}
/-- the first parts of a list of pairs -/
def Firsts (H : Hp) (ts : List Addr) (xs : List V) : Prop := ts.length = xs.length ∧ ∀ (i : Nat) (t : Addr), ts[i]? = some t → ∃ x y, xs[i]? = some x ∧ H t = some (.tup [x, y])
def spBSides (P : Program) (w : World) (K : PySem.W.Frag) (mg : Str → Option Value) (base : Heap) (C : Addr) : Sp := fun vs H Q _ => ∃ (b k1 k2 l : Addr) (ts : List Addr) (xs : List V), vs = [.ref b, .ref l] ∧ BothAt C H b k1 k2 ∧ H l = some (.lst (ts.map V.ref)) ∧ Firsts H ts xs ∧ xs.length ≤ 1000 ∧
  ∃ (C1 dx1 : Addr) (fs1 : List (Str × V)) (g1 : Addr), H k1 = some (.ins C1 dx1 fs1) ∧ fs1.lookup ("sides" : Str) = none ∧ Cls K C1 ∧ Meth K C1 "sides" g1 ∧ ∀ D H', Same H H' → H' D = some (.lst xs) → CLO.RunsTo P w K mg base CX0 6 g1 [.ref k1, .ref D] H' Q E0
theorem ok_Bsides {C f : Addr} {fd : FuncData} {k : Nat} (hk : 6 ≤ k) (F : FnP K "sides" "Both.sides" s_Both_sides f fd) (c : BC K C) : FnOk P w K mg base CX0 (k + 1) f fd ["self", "labels"] (spBSides P w K mg base C) := by
  refine F.ok sc_Both_sides (fun vs H Q E h => ?_) (fun cdv A outer s H vs Q E hr h => ?_)
  · obtain ⟨b, k1, k2, l, ts, xs, rfl, _⟩ := h
    rfl
  · obtain ⟨b, k1, k2, l, ts, xs, rfl, ⟨dx, hb⟩, hl, ⟨hlen, hf⟩, hz, C1, dx1, fs1, g1, h1, h2, h3, h4, q⟩ := h
    refine ⟨_, PSs.nox (pss_one (ps_ret (CLO.pe_methV (P := P) (w := w) (K := K) (mg := mg) (base := base) (CX := CX0) (n := 6) (pe_fld (pv 0) rfl) (hr.mono (by omega)) pass0 (pa_cons (pe_lc (own := [("label", 2)]) rfl sc_Both_sides.nd (pi_list (pv 1)) (blkOk_by (N := n_Both_sides) (sc := defScope s_Both_sides) (by decide +kernel)) (fun _ _ _ _ _ => pg_name (i := 2) sc_Both_sides.nd rfl (.inl rfl)) (fun _ _ _ _ _ => pts_nil) (fun _ _ _ _ _ => (pe_ix ix_tupK (pv 2) pe_int (fun _ _ => rfl)))) pa_nil)))), ?_⟩
    refine ⟨_, rfl, b, C, dx, _, _, rfl, hb, c.cl, c.n1, rfl, k1, C1, dx1, fs1, g1, rfl, h1, h2, h3, h4, ?_⟩
    refine ⟨_, rfl, l, rfl, ⟨ts.map V.ref, .inl (.inl hl)⟩, fun D nD => ?_⟩
    refine lc_list (xs := ts.map V.ref) (fun t H' => Same H H' ∧ H' D = some (.lst (xs.take t))) ⟨same_upd nD, upd_same⟩ (fun t H' _ z => .inl (.inl (z.1 _ _ hl))) ?_ ?_
    · rintro i v H4 hv ⟨s4, hD4⟩
      rw [List.getElem?_map] at hv
      cases ht : ts[i]? with
      | none =>
        rw [ht] at hv
        cases hv
      | some t =>
        rw [ht] at hv
        cases hv
        obtain ⟨x, y, hx, e⟩ := hf i t ht
        refine ⟨rfl, _, rfl, t, _, 0, x, rfl, rfl, .inl (.inl (s4 _ _ e)), at0, _, hD4, ?_, same_put s4 nD, ?_⟩
        · rw [List.length_take]
          exact small1000 (by omega)
        · rw [upd_same, List.take_add_one, hx]
          rfl
    · rintro H4 ⟨s4, hD4⟩
      rw [List.length_map, List.take_of_length_le (by omega)] at hD4
      exact q D H4 s4 hD4
theorem spDB_imp {CM CN : Addr} {m : Str} {vs : List V} {H : Hp} {Q Q' : VK} {E : XK} (h : spDB P w K mg base CM CN m vs H Q E) (hq : ∀ v H', Q v H' → Q' v H') : spDB P w K mg base CM CN m vs H Q' E := by
  obtain ⟨kd, C, dx, fs, x, y, e, h1, h2, h3⟩ := h
  exact ⟨kd, C, dx, fs, x, y, e, h1, h2, h3.imp (fun ⟨a, b⟩ => ⟨a, b.imp hq⟩) id⟩
/-- distance, bound -/
def spBDist (P : Program) (w : World) (K : PySem.W.Frag) (mg : Str → Option Value) (base : Heap) (C CM CN : Addr) (m : Str) : Sp := fun vs H Q E => ∃ (b k1 k2 t r : Addr) (x y x' y' : V), vs = [.ref b, .ref t, .ref r] ∧ BothAt C H b k1 k2 ∧ H t = some (.tup [x, y]) ∧ H r = some (.tup [x', y']) ∧
  spDB P w K mg base CM CN m [.ref k1, x, x'] H (fun v1 H1 => ∃ i : Int, v1 = .int i ∧ BothAt C H1 b k1 k2 ∧ H1 t = some (.tup [x, y]) ∧ H1 r = some (.tup [x', y']) ∧ spDB P w K mg base CM CN m [.ref k2, y, y'] H1 (fun v2 H2 => ∃ j : Int, v2 = .int j ∧ Q (.int (i + j)) H2) E) E
theorem ok_Bdist {C CM CN f : Addr} {fd : FuncData} {k : Nat} (F : FnP K "distance" "Both.distance" s_Both_distance f fd) (c : BC K C) (C_distance_by : Cal P w K mg base (L2.CX P w) "distance_by" k ["kind", "key", "point"] (spDB P w K mg base CM CN "distance")) : FnOk P w K mg base (L2.CX P w) (k + 1) f fd ["self", "key", "point"] (spBDist P w K mg base C CM CN "distance") := by
  obtain ⟨f_distance_by, fd_distance_by, G_distance_by, b_distance_by, m_distance_by, k_distance_by⟩ := C_distance_by
  refine F.ok sc_Both_distance (fun vs H Q E h => ?_) (fun cdv A outer s H vs Q E hr h => ?_)
  · obtain ⟨b, k1, k2, t, r, x, y, x', y', rfl, _⟩ := h
    rfl
  · obtain ⟨b, k1, k2, t, r, x, y, x', y', rfl, ⟨dx, hb⟩, ht, hr', a⟩ := h
    refine ⟨_, pss_one (ps_ret (pe_op op_add (pe_call G_distance_by (hr.mono (by omega)) (by rfl) m_distance_by k_distance_by b_distance_by .nil (passes_call (takes_of rfl rfl rfl rfl) (fun _ _ _ _ h => h)) (pa_cons (pe_fld (pv 0) rfl) (pa_cons (pe_ix ix_tup (pv 1) pe_int (fun _ _ => rfl)) (pa_cons (pe_ix ix_tup (pv 2) pe_int (fun _ _ => rfl)) pa_nil)))) (pe_call G_distance_by (hr.mono (by omega)) (by rfl) m_distance_by k_distance_by b_distance_by .nil (passes_call (takes_of rfl rfl rfl rfl) (fun _ _ _ _ h => h)) (pa_cons (pe_fld (pv 0) rfl) (pa_cons (pe_ix ix_tup (pv 1) pe_int (fun _ _ => rfl)) (pa_cons (pe_ix ix_tup (pv 2) pe_int (fun _ _ => rfl)) pa_nil)))))), ?_⟩
    refine ⟨_, rfl, b, C, dx, _, _, rfl, hb, c.cl, c.n1, rfl, _, rfl, t, _, 0, x, rfl, rfl, .inl (.inl ht), at0, _, rfl, r, _, 0, x', rfl, rfl, .inl (.inl hr'), at0, spDB_imp a fun v1 H1 ⟨i, e, ⟨dx1, hb1⟩, ht1, hr1, a2⟩ => ?_⟩
    exact ⟨_, rfl, b, C, dx1, _, _, rfl, hb1, c.cl, c.n2, rfl, _, rfl, t, _, 1, y, rfl, rfl, .inl (.inl ht1), at1, _, rfl, r, _, 1, y', rfl, rfl, .inl (.inl hr1), at1, spDB_imp a2 fun v2 H2 ⟨j, e2, q⟩ => ⟨i, j, e, e2, q⟩⟩
theorem ok_Bbound {C CM CN f : Addr} {fd : FuncData} {k : Nat} (F : FnP K "bound" "Both.bound" s_Both_bound f fd) (c : BC K C) (C_bound_by : Cal P w K mg base (L2.CX P w) "bound_by" k ["kind", "label", "point"] (spDB P w K mg base CM CN "bound")) : FnOk P w K mg base (L2.CX P w) (k + 1) f fd ["self", "label", "point"] (spBDist P w K mg base C CM CN "bound") := by
  obtain ⟨f_bound_by, fd_bound_by, G_bound_by, b_bound_by, m_bound_by, k_bound_by⟩ := C_bound_by
  refine F.ok sc_Both_bound (fun vs H Q E h => ?_) (fun cdv A outer s H vs Q E hr h => ?_)
  · obtain ⟨b, k1, k2, t, r, x, y, x', y', rfl, _⟩ := h
    rfl
  · obtain ⟨b, k1, k2, t, r, x, y, x', y', rfl, ⟨dx, hb⟩, ht, hr', a⟩ := h
    refine ⟨_, pss_one (ps_ret (pe_op op_add (pe_call G_bound_by (hr.mono (by omega)) (by rfl) m_bound_by k_bound_by b_bound_by .nil (passes_call (takes_of rfl rfl rfl rfl) (fun _ _ _ _ h => h)) (pa_cons (pe_fld (pv 0) rfl) (pa_cons (pe_ix ix_tup (pv 1) pe_int (fun _ _ => rfl)) (pa_cons (pe_ix ix_tup (pv 2) pe_int (fun _ _ => rfl)) pa_nil)))) (pe_call G_bound_by (hr.mono (by omega)) (by rfl) m_bound_by k_bound_by b_bound_by .nil (passes_call (takes_of rfl rfl rfl rfl) (fun _ _ _ _ h => h)) (pa_cons (pe_fld (pv 0) rfl) (pa_cons (pe_ix ix_tup (pv 1) pe_int (fun _ _ => rfl)) (pa_cons (pe_ix ix_tup (pv 2) pe_int (fun _ _ => rfl)) pa_nil)))))), ?_⟩
    refine ⟨_, rfl, b, C, dx, _, _, rfl, hb, c.cl, c.n1, rfl, _, rfl, t, _, 0, x, rfl, rfl, .inl (.inl ht), at0, _, rfl, r, _, 0, x', rfl, rfl, .inl (.inl hr'), at0, spDB_imp a fun v1 H1 ⟨i, e, ⟨dx1, hb1⟩, ht1, hr1, a2⟩ => ?_⟩
    exact ⟨_, rfl, b, C, dx1, _, _, rfl, hb1, c.cl, c.n2, rfl, _, rfl, t, _, 1, y, rfl, rfl, .inl (.inl ht1), at1, _, rfl, r, _, 1, y', rfl, rfl, .inl (.inl hr1), at1, spDB_imp a2 fun v2 H2 ⟨j, e2, q⟩ => ⟨i, j, e, e2, q⟩⟩
end
end K16
set_option Elab.async false
set_option linter.all false
set_option maxRecDepth 100000
set_option maxHeartbeats 2000000
namespace K16
open PySem PySem.Spec PyProof.Rows L2 CM DN GR
section
variable {P : Program} {w : World} {K : PySem.W.Frag} {mg : Str → Option Value} {base : Heap}
/-! ### Coarse -/
structure CC (K : PySem.W.Frag) (C : Addr) : Prop where
  cl : Cls K C
  n1 : NoAttr K C "kind"
  n2 : NoAttr K C "squeeze"
def CoaAt (C : Addr) (H : Hp) (b k : Addr) (f : V) : Prop := ∃ dx, H b = some (.ins C dx [("kind", .ref k), ("squeeze", f)])
theorem CoaAt.ext {C b k : Addr} {f : V} {H H' : Hp} (h : CoaAt C H b k f) (s : LamX.ExtN H H') : CoaAt C H' b k f := let ⟨dx, e⟩ := h; ⟨dx, s _ _ e fun _ z => by cases z⟩
def spCInit (C : Addr) : Sp := fun vs H Q _ => ∃ (b dx : Addr) (k1 k2 : V), vs = [.ref b, k1, k2] ∧ H b = some (.ins C dx []) ∧ Q .non (upd H b (.ins C dx [("kind", k1), ("squeeze", k2)]))
theorem ok_Cinit {C f : Addr} {fd : FuncData} {k : Nat} (F : FnP K "__init__" "Coarse.__init__" s_Coarse___init f fd) (c : CC K C) : FnOk P w K mg base CX0 (k + 1) f fd ["self", "kind", "squeeze"] (spCInit C) := by
  refine F.ok sc_Coarse___init (fun vs H Q E h => ?_) (fun cdv A outer s H vs Q E hr h => ?_)
  · obtain ⟨b, dx, k1, k2, rfl, _⟩ := h
    rfl
  · obtain ⟨b, dx, k1, k2, rfl, hb, q⟩ := h
    refine ⟨_, pss_cons (ps_fld (pv 0) (pv 1) rfl)
    (pss_one (ps_fld (pv 0) (pv 2) rfl)), ?_⟩
    refine ⟨_, rfl, _, rfl, b, C, dx, [], rfl, hb, c.cl, c.n1, (by show 0 < 1000; decide), ?_⟩
    refine ⟨_, rfl, _, rfl, b, C, dx, [("kind", k1)], rfl, upd_same, c.cl, c.n2, (by show 1 < 1000; decide), ?_⟩
    rw [upd_upd]
    exact q
def spCOwn (P : Program) (w : World) (K : PySem.W.Frag) (mg : Str → Option Value) (base : Heap) (C : Addr) : Sp := fun vs H Q _ => ∃ (b kd f : Addr) (bo : Bool) (key : V), vs = [.ref b, key] ∧ CoaAt C H b kd (.ref f) ∧ (bo = true → CLO.Fnk H f) ∧ Ask P w K mg base 6 kd "own" [key] H fun v H' => PN K H' 4 v true ∧ CLO.CallsTo P w K mg base CX0 3 bo f [v] H' Q E0
theorem ok_Cown {C f : Addr} {fd : FuncData} {k : Nat} (hk : 6 ≤ k) (F : FnP K "own" "Coarse.own" s_Coarse_own f fd) (c : CC K C) (C_own_label : Cal P w K mg base CX0 "own_label" k ["kind", "key"] (spOL P w K mg base)) : FnOk P w K mg base CX0 (k + 1) f fd ["self", "key"] (spCOwn P w K mg base C) := by
  obtain ⟨f_own_label, fd_own_label, G_own_label, b_own_label, m_own_label, k_own_label⟩ := C_own_label
  refine F.ok sc_Coarse_own (fun vs H Q E h => ?_) (fun cdv A outer s H vs Q E hr h => ?_)
  · obtain ⟨b, kd, g, bo, key, rfl, _⟩ := h
    rfl
  · obtain ⟨b, kd, g, bo, key, rfl, ⟨dx, hb⟩, hf, a⟩ := h
    refine ⟨_, pss_one (ps_ret (CLO.pe_fcall (P := P) (w := w) (K := K) (mg := mg) (base := base) (CX := CX0) (n := 3) (pv 0) (hr.mono (by omega)) pass0 (pa_cons (pe_call G_own_label (hr.mono (by omega)) (by rfl) m_own_label k_own_label b_own_label .nil pass0 (pa_cons (pe_fld (pv 0) rfl) (pa_cons (pv 1) pa_nil))) pa_nil))), ?_⟩
    exact ⟨_, rfl, b, C, dx, _, g, bo, rfl, hb, c.cl, c.n2, rfl, hf, _, rfl, b, C, dx, _, _, rfl, hb, c.cl, c.n1, rfl, _, rfl, kd, key, rfl, a⟩
def spCJoin (P : Program) (w : World) (K : PySem.W.Frag) (mg : Str → Option Value) (base : Heap) (C : Addr) : Sp := fun vs H Q _ => ∃ (b kd f : Addr) (bo : Bool) (x y : V), vs = [.ref b, x, y] ∧ CoaAt C H b kd (.ref f) ∧ (bo = true → CLO.Fnk H f) ∧ Ask P w K mg base 6 kd "join" [x, y] H fun v H' => PN K H' 4 v true ∧ CLO.CallsTo P w K mg base CX0 3 bo f [v] H' Q E0
theorem ok_Cjoin {C f : Addr} {fd : FuncData} {k : Nat} (hk : 6 ≤ k) (F : FnP K "join" "Coarse.join" s_Coarse_join f fd) (c : CC K C) (C_joined : Cal P w K mg base CX0 "joined" k ["kind", "one", "other"] (spJL P w K mg base)) : FnOk P w K mg base CX0 (k + 1) f fd ["self", "one", "other"] (spCJoin P w K mg base C) := by
  obtain ⟨f_joined, fd_joined, G_joined, b_joined, m_joined, k_joined⟩ := C_joined
  refine F.ok sc_Coarse_join (fun vs H Q E h => ?_) (fun cdv A outer s H vs Q E hr h => ?_)
  · obtain ⟨b, kd, g, bo, x, y, rfl, _⟩ := h
    rfl
  · obtain ⟨b, kd, g, bo, x, y, rfl, ⟨dx, hb⟩, hf, a⟩ := h
    refine ⟨_, pss_one (ps_ret (CLO.pe_fcall (P := P) (w := w) (K := K) (mg := mg) (base := base) (CX := CX0) (n := 3) (pv 0) (hr.mono (by omega)) pass0 (pa_cons (pe_call G_joined (hr.mono (by omega)) (by rfl) m_joined k_joined b_joined .nil pass0 (pa_cons (pe_fld (pv 0) rfl) (pa_cons (pv 1) (pa_cons (pv 2) pa_nil)))) pa_nil))), ?_⟩
    exact ⟨_, rfl, b, C, dx, _, g, bo, rfl, hb, c.cl, c.n2, rfl, hf, _, rfl, b, C, dx, _, _, rfl, hb, c.cl, c.n1, rfl, _, rfl, _, rfl, kd, x, y, rfl, a⟩
/-- what is handed on to the kind -/
def spCAsk (P : Program) (w : World) (K : PySem.W.Frag) (mg : Str → Option Value) (base : Heap) (C : Addr) (m : Str) : Sp := fun vs H Q _ => ∃ (b kd : Addr) (f x y : V), vs = [.ref b, x, y] ∧ CoaAt C H b kd f ∧ Ask P w K mg base 6 kd m [x, y] H Q
theorem ok_Ccons {C f : Addr} {fd : FuncData} {k : Nat} (hk : 6 ≤ k) (F : FnP K "consistent" "Coarse.consistent" s_Coarse_consistent f fd) (c : CC K C) : FnOk P w K mg base CX0 (k + 1) f fd ["self", "label", "question"] (spCAsk P w K mg base C "consistent") := by
  refine F.ok sc_Coarse_consistent (fun vs H Q E h => ?_) (fun cdv A outer s H vs Q E hr h => ?_)
  · obtain ⟨b, kd, g, x, y, rfl, _⟩ := h
    rfl
  · obtain ⟨b, kd, g, x, y, rfl, ⟨dx, hb⟩, C1, dx1, fs1, g1, h1, h2, h3, h4, run⟩ := h
    refine ⟨_, pss_one (ps_ret (CLO.pe_methV (P := P) (w := w) (K := K) (mg := mg) (base := base) (CX := CX0) (n := 6) (pe_fld (pv 0) rfl) (hr.mono (by omega)) pass0 (pa_cons (pv 1) (pa_cons (pv 2) pa_nil)))), ?_⟩
    exact ⟨_, rfl, b, C, dx, _, _, rfl, hb, c.cl, c.n1, rfl, kd, C1, dx1, fs1, g1, rfl, h1, h2, h3, h4, _, rfl, _, rfl, run⟩
theorem ok_Cmat {C f : Addr} {fd : FuncData} {k : Nat} (hk : 6 ≤ k) (F : FnP K "matches" "Coarse.matches" s_Coarse_matches f fd) (c : CC K C) : FnOk P w K mg base CX0 (k + 1) f fd ["self", "key", "question"] (spCAsk P w K mg base C "matches") := by
  refine F.ok sc_Coarse_matches (fun vs H Q E h => ?_) (fun cdv A outer s H vs Q E hr h => ?_)
  · obtain ⟨b, kd, g, x, y, rfl, _⟩ := h
    rfl
  · obtain ⟨b, kd, g, x, y, rfl, ⟨dx, hb⟩, C1, dx1, fs1, g1, h1, h2, h3, h4, run⟩ := h
    refine ⟨_, pss_one (ps_ret (CLO.pe_methV (P := P) (w := w) (K := K) (mg := mg) (base := base) (CX := CX0) (n := 6) (pe_fld (pv 0) rfl) (hr.mono (by omega)) pass0 (pa_cons (pv 1) (pa_cons (pv 2) pa_nil)))), ?_⟩
    exact ⟨_, rfl, b, C, dx, _, _, rfl, hb, c.cl, c.n1, rfl, kd, C1, dx1, fs1, g1, rfl, h1, h2, h3, h4, _, rfl, _, rfl, run⟩
theorem ok_Cpen {C f : Addr} {fd : FuncData} {k : Nat} (hk : 6 ≤ k) (F : FnP K "penalty" "Coarse.penalty" s_Coarse_penalty f fd) (c : CC K C) : FnOk P w K mg base CX0 (k + 1) f fd ["self", "label", "key"] (spCAsk P w K mg base C "penalty") := by
  refine F.ok sc_Coarse_penalty (fun vs H Q E h => ?_) (fun cdv A outer s H vs Q E hr h => ?_)
  · obtain ⟨b, kd, g, x, y, rfl, _⟩ := h
    rfl
  · obtain ⟨b, kd, g, x, y, rfl, ⟨dx, hb⟩, C1, dx1, fs1, g1, h1, h2, h3, h4, run⟩ := h
    refine ⟨_, pss_one (ps_ret (CLO.pe_methV (P := P) (w := w) (K := K) (mg := mg) (base := base) (CX := CX0) (n := 6) (pe_fld (pv 0) rfl) (hr.mono (by omega)) pass0 (pa_cons (pv 1) (pa_cons (pv 2) pa_nil)))), ?_⟩
    exact ⟨_, rfl, b, C, dx, _, _, rfl, hb, c.cl, c.n1, rfl, kd, C1, dx1, fs1, g1, rfl, h1, h2, h3, h4, _, rfl, _, rfl, run⟩
def spCSides (P : Program) (w : World) (K : PySem.W.Frag) (mg : Str → Option Value) (base : Heap) (C : Addr) : Sp := fun vs H Q _ => ∃ (b kd : Addr) (f x : V), vs = [.ref b, x] ∧ CoaAt C H b kd f ∧ Ask P w K mg base 6 kd "sides" [x] H Q
theorem ok_Csides {C f : Addr} {fd : FuncData} {k : Nat} (hk : 6 ≤ k) (F : FnP K "sides" "Coarse.sides" s_Coarse_sides f fd) (c : CC K C) : FnOk P w K mg base CX0 (k + 1) f fd ["self", "labels"] (spCSides P w K mg base C) := by
  refine F.ok sc_Coarse_sides (fun vs H Q E h => ?_) (fun cdv A outer s H vs Q E hr h => ?_)
  · obtain ⟨b, kd, g, x, rfl, _⟩ := h
    rfl
  · obtain ⟨b, kd, g, x, rfl, ⟨dx, hb⟩, C1, dx1, fs1, g1, h1, h2, h3, h4, run⟩ := h
    refine ⟨_, pss_one (ps_ret (CLO.pe_methV (P := P) (w := w) (K := K) (mg := mg) (base := base) (CX := CX0) (n := 6) (pe_fld (pv 0) rfl) (hr.mono (by omega)) pass0 (pa_cons (pv 1) pa_nil))), ?_⟩
    exact ⟨_, rfl, b, C, dx, _, _, rfl, hb, c.cl, c.n1, rfl, kd, C1, dx1, fs1, g1, rfl, h1, h2, h3, h4, _, rfl, run⟩
def spCDist (P : Program) (w : World) (K : PySem.W.Frag) (mg : Str → Option Value) (base : Heap) (C CM CN : Addr) (m : Str) : Sp := fun vs H Q E => ∃ (b kd : Addr) (f x y : V), vs = [.ref b, x, y] ∧ CoaAt C H b kd f ∧ spDB P w K mg base CM CN m [.ref kd, x, y] H Q E
theorem ok_Cdist {C CM CN f : Addr} {fd : FuncData} {k : Nat} (F : FnP K "distance" "Coarse.distance" s_Coarse_distance f fd) (c : CC K C) (C_distance_by : Cal P w K mg base (L2.CX P w) "distance_by" k ["kind", "key", "point"] (spDB P w K mg base CM CN "distance")) : FnOk P w K mg base (L2.CX P w) (k + 1) f fd ["self", "key", "point"] (spCDist P w K mg base C CM CN "distance") := by
  obtain ⟨f_distance_by, fd_distance_by, G_distance_by, b_distance_by, m_distance_by, k_distance_by⟩ := C_distance_by
  refine F.ok sc_Coarse_distance (fun vs H Q E h => ?_) (fun cdv A outer s H vs Q E hr h => ?_)
  · obtain ⟨b, kd, g, x, y, rfl, _⟩ := h
    rfl
  · obtain ⟨b, kd, g, x, y, rfl, ⟨dx, hb⟩, a⟩ := h
    refine ⟨_, pss_one (ps_ret (pe_call G_distance_by (hr.mono (by omega)) (by rfl) m_distance_by k_distance_by b_distance_by .nil (passes_call (takes_of rfl rfl rfl rfl) (fun _ _ _ _ h => h)) (pa_cons (pe_fld (pv 0) rfl) (pa_cons (pv 1) (pa_cons (pv 2) pa_nil))))), ?_⟩
    exact ⟨_, rfl, b, C, dx, _, _, rfl, hb, c.cl, c.n1, rfl, _, rfl, _, rfl, a⟩
theorem ok_Cbound {C CM CN f : Addr} {fd : FuncData} {k : Nat} (F : FnP K "bound" "Coarse.bound" s_Coarse_bound f fd) (c : CC K C) (C_bound_by : Cal P w K mg base (L2.CX P w) "bound_by" k ["kind", "label", "point"] (spDB P w K mg base CM CN "bound")) : FnOk P w K mg base (L2.CX P w) (k + 1) f fd ["self", "label", "point"] (spCDist P w K mg base C CM CN "bound") := by
  obtain ⟨f_bound_by, fd_bound_by, G_bound_by, b_bound_by, m_bound_by, k_bound_by⟩ := C_bound_by
  refine F.ok sc_Coarse_bound (fun vs H Q E h => ?_) (fun cdv A outer s H vs Q E hr h => ?_)
  · obtain ⟨b, kd, g, x, y, rfl, _⟩ := h
    rfl
  · obtain ⟨b, kd, g, x, y, rfl, ⟨dx, hb⟩, a⟩ := h
    refine ⟨_, pss_one (ps_ret (pe_call G_bound_by (hr.mono (by omega)) (by rfl) m_bound_by k_bound_by b_bound_by .nil (passes_call (takes_of rfl rfl rfl rfl) (fun _ _ _ _ h => h)) (pa_cons (pe_fld (pv 0) rfl) (pa_cons (pv 1) (pa_cons (pv 2) pa_nil))))), ?_⟩
    exact ⟨_, rfl, b, C, dx, _, _, rfl, hb, c.cl, c.n1, rfl, _, rfl, _, rfl, a⟩
end
end K16
set_option Elab.async false
set_option linter.all false
set_option maxRecDepth 100000
set_option maxHeartbeats 2000000
namespace K16
open PySem PySem.Spec PyProof.Rows L2 CM DN GR
section
variable {P : Program} {w : World} {K : PySem.W.Frag} {mg : Str → Option Value} {base : Heap}
/-! ### Calls -/
abbrev kNames : List Str := ["own_function", "join_function", "consistent_function", "matches_function", "penalty_function", "sides_function", "distance_function", "bound_function"]
structure KC (K : PySem.W.Frag) (C : Addr) : Prop where
  cl : Cls K C
  na : ∀ x ∈ kNames, NoAttr K C x
def fs8 (o j c m p s d b : V) : List (Str × V) := [("own_function", o), ("join_function", j), ("consistent_function", c), ("matches_function", m), ("penalty_function", p), ("sides_function", s), ("distance_function", d), ("bound_function", b)]
def spKInit (C : Addr) : Sp := fun vs H Q _ => ∃ (kd dx : Addr) (o j c m p s d b : V), vs = [.ref kd, o, j, c, m, p, s, d, b] ∧ H kd = some (.ins C dx []) ∧ Q .non (upd H kd (.ins C dx (fs8 o j c m p s d b)))
theorem ok_Kinit {C f : Addr} {fd : FuncData} {k : Nat} {kws : List (Str × V)} (F : FunD K "__init__" "Calls.__init__" (defArgs s_Calls___init) (defBody s_Calls___init) (defScope s_Calls___init) [] kws f fd) (c : KC K C) : FnOk P w K mg base CX0 (k + 1) f fd ["self", "own", "join", "consistent", "matches", "penalty", "sides", "distance", "bound"] (spKInit C) := by
  refine F.ok sc_Calls___init (fun vs H Q E h => ?_) (fun cdv A outer s H vs Q E hr h => ?_)
  · obtain ⟨kd, dx, o, j, cc, m, p, s, d, b, rfl, _⟩ := h
    rfl
  · obtain ⟨kd, dx, o, j, cc, m, p, s, d, b, rfl, hb, q⟩ := h
    refine ⟨_, pss_cons (ps_fld (pv 0) (pv 1) rfl)
    (pss_cons (ps_fld (pv 0) (pv 2) rfl)
    (pss_cons (ps_fld (pv 0) (pv 3) rfl)
    (pss_cons (ps_fld (pv 0) (pv 4) rfl)
    (pss_cons (ps_fld (pv 0) (pv 5) rfl)
    (pss_cons (ps_fld (pv 0) (pv 6) rfl)
    (pss_cons (ps_fld (pv 0) (pv 7) rfl)
    (pss_one (ps_fld (pv 0) (pv 8) rfl)))))))), ?_⟩
    refine ⟨_, rfl, _, rfl, kd, C, dx, [], rfl, hb, c.cl, c.na _ (by decide), (by show 0 < 1000; decide), ?_⟩
    refine ⟨_, rfl, _, rfl, kd, C, dx, [("own_function", o)], rfl, upd_same, c.cl, c.na _ (by decide), (by show 1 < 1000; decide), ?_⟩
    rw [upd_upd]
    refine ⟨_, rfl, _, rfl, kd, C, dx, [("own_function", o), ("join_function", j)], rfl, upd_same, c.cl, c.na _ (by decide), (by show 2 < 1000; decide), ?_⟩
    rw [upd_upd]
    refine ⟨_, rfl, _, rfl, kd, C, dx, [("own_function", o), ("join_function", j), ("consistent_function", cc)], rfl, upd_same, c.cl, c.na _ (by decide), (by show 3 < 1000; decide), ?_⟩
    rw [upd_upd]
    refine ⟨_, rfl, _, rfl, kd, C, dx, [("own_function", o), ("join_function", j), ("consistent_function", cc), ("matches_function", m)], rfl, upd_same, c.cl, c.na _ (by decide), (by show 4 < 1000; decide), ?_⟩
    rw [upd_upd]
    refine ⟨_, rfl, _, rfl, kd, C, dx, [("own_function", o), ("join_function", j), ("consistent_function", cc), ("matches_function", m), ("penalty_function", p)], rfl, upd_same, c.cl, c.na _ (by decide), (by show 5 < 1000; decide), ?_⟩
    rw [upd_upd]
    refine ⟨_, rfl, _, rfl, kd, C, dx, [("own_function", o), ("join_function", j), ("consistent_function", cc), ("matches_function", m), ("penalty_function", p), ("sides_function", s)], rfl, upd_same, c.cl, c.na _ (by decide), (by show 6 < 1000; decide), ?_⟩
    rw [upd_upd]
    refine ⟨_, rfl, _, rfl, kd, C, dx, [("own_function", o), ("join_function", j), ("consistent_function", cc), ("matches_function", m), ("penalty_function", p), ("sides_function", s), ("distance_function", d)], rfl, upd_same, c.cl, c.na _ (by decide), (by show 7 < 1000; decide), ?_⟩
    rw [upd_upd]
    exact q
def spKF (P : Program) (w : World) (K : PySem.W.Frag) (mg : Str → Option Value) (base : Heap) (C : Addr) (m : Str) : Sp := fun vs H Q _ => ∃ (kd dx f : Addr) (fs : List (Str × V)) (bo : Bool) (x y : V), vs = [.ref kd, x, y] ∧ H kd = some (.ins C dx fs) ∧ fs.lookup m = some (.ref f) ∧ (bo = true → CLO.Fnk H f) ∧ CLO.CallsTo P w K mg base CX0 3 bo f [x, y] H Q E0
theorem ok_Kconsistent {C f : Addr} {fd : FuncData} {k : Nat} (hk : 3 ≤ k) (F : FnP K "consistent" "Calls.consistent" s_Calls_consistent f fd) (c : KC K C) : FnOk P w K mg base CX0 (k + 1) f fd ["self", "label", "question"] (spKF P w K mg base C "consistent_function") := by
  refine F.ok sc_Calls_consistent (fun vs H Q E h => ?_) (fun cdv A outer s H vs Q E hr h => ?_)
  · obtain ⟨kd, dx, g, fs, bo, x, y, rfl, _⟩ := h
    rfl
  · obtain ⟨kd, dx, g, fs, bo, x, y, rfl, hkd, hl, hf, q⟩ := h
    refine ⟨_, pss_one (ps_ret (CLO.pe_fcall (P := P) (w := w) (K := K) (mg := mg) (base := base) (CX := CX0) (n := 3) (pv 0) (hr.mono (by omega)) pass0 (pa_cons (pv 1) (pa_cons (pv 2) pa_nil)))), ?_⟩
    exact ⟨_, rfl, kd, C, dx, fs, g, bo, rfl, hkd, c.cl, c.na _ (by decide), hl, hf, _, rfl, _, rfl, q⟩
theorem ok_Kmatches {C f : Addr} {fd : FuncData} {k : Nat} (hk : 3 ≤ k) (F : FnP K "matches" "Calls.matches" s_Calls_matches f fd) (c : KC K C) : FnOk P w K mg base CX0 (k + 1) f fd ["self", "key", "question"] (spKF P w K mg base C "matches_function") := by
  refine F.ok sc_Calls_matches (fun vs H Q E h => ?_) (fun cdv A outer s H vs Q E hr h => ?_)
  · obtain ⟨kd, dx, g, fs, bo, x, y, rfl, _⟩ := h
    rfl
  · obtain ⟨kd, dx, g, fs, bo, x, y, rfl, hkd, hl, hf, q⟩ := h
    refine ⟨_, pss_one (ps_ret (CLO.pe_fcall (P := P) (w := w) (K := K) (mg := mg) (base := base) (CX := CX0) (n := 3) (pv 0) (hr.mono (by omega)) pass0 (pa_cons (pv 1) (pa_cons (pv 2) pa_nil)))), ?_⟩
    exact ⟨_, rfl, kd, C, dx, fs, g, bo, rfl, hkd, c.cl, c.na _ (by decide), hl, hf, _, rfl, _, rfl, q⟩
theorem ok_Kpenalty {C f : Addr} {F : NdefX.NF} {fd : FuncData} {k : Nat} (hk : 3 ≤ k) (Z : CF.ClsF K f F fd) (eb : F.body = defBody s_Calls_penalty) (es : F.scope = defScope s_Calls_penalty) (c : KC K C) : FnOk P w K mg base CX0 (k + 1) f fd ["self", "label", "key"] (spKF P w K mg base C "penalty_function") := by
  obtain ⟨nm, qual, params, body, scope, cl, co⟩ := F
  obtain rfl : body = _ := eb
  obtain rfl : scope = _ := es
  refine CF.ok_clsF Z nsc_Calls_penalty (fun vs H Q E h => ?_) (fun A outer s H vs Q E hr h => ?_)
  · obtain ⟨kd, dx, g, fs, bo, x, y, rfl, _⟩ := h
    rfl
  · obtain ⟨kd, dx, g, fs, bo, x, y, rfl, hkd, hl, hf, q⟩ := h
    refine ⟨_, pss_cons (ps_if (pt_cmp (pc_isN (pe_fld (pv 0) rfl))) (pss_one (ps_never)) (pss_nil))
    (pss_one (ps_ret (CLO.pe_fcall (P := P) (w := w) (K := K) (mg := mg) (base := base) (CX := CX0) (n := 3) (pv 0) (hr.mono (by omega)) pass0 (pa_cons (pv 1) (pa_cons (pv 2) pa_nil))))), ?_⟩
    refine ⟨_, rfl, kd, C, dx, fs, _, rfl, hkd, c.cl, c.na _ (by decide), hl, _, rfl, iteF ?_⟩
    exact ⟨_, rfl, kd, C, dx, fs, g, bo, rfl, hkd, c.cl, c.na _ (by decide), hl, hf, _, rfl, _, rfl, q⟩
theorem ok_Kdistance {C f : Addr} {F : NdefX.NF} {fd : FuncData} {k : Nat} (hk : 3 ≤ k) (Z : CF.ClsF K f F fd) (eb : F.body = defBody s_Calls_distance) (es : F.scope = defScope s_Calls_distance) (c : KC K C) : FnOk P w K mg base CX0 (k + 1) f fd ["self", "key", "point"] (spKF P w K mg base C "distance_function") := by
  obtain ⟨nm, qual, params, body, scope, cl, co⟩ := F
  obtain rfl : body = _ := eb
  obtain rfl : scope = _ := es
  refine CF.ok_clsF Z nsc_Calls_distance (fun vs H Q E h => ?_) (fun A outer s H vs Q E hr h => ?_)
  · obtain ⟨kd, dx, g, fs, bo, x, y, rfl, _⟩ := h
    rfl
  · obtain ⟨kd, dx, g, fs, bo, x, y, rfl, hkd, hl, hf, q⟩ := h
    refine ⟨_, pss_cons (ps_if (pt_cmp (pc_isN (pe_fld (pv 0) rfl))) (pss_one (ps_never)) (pss_nil))
    (pss_one (ps_ret (CLO.pe_fcall (P := P) (w := w) (K := K) (mg := mg) (base := base) (CX := CX0) (n := 3) (pv 0) (hr.mono (by omega)) pass0 (pa_cons (pv 1) (pa_cons (pv 2) pa_nil))))), ?_⟩
    refine ⟨_, rfl, kd, C, dx, fs, _, rfl, hkd, c.cl, c.na _ (by decide), hl, _, rfl, iteF ?_⟩
    exact ⟨_, rfl, kd, C, dx, fs, g, bo, rfl, hkd, c.cl, c.na _ (by decide), hl, hf, _, rfl, _, rfl, q⟩
theorem ok_Kbound {C f : Addr} {F : NdefX.NF} {fd : FuncData} {k : Nat} (hk : 3 ≤ k) (Z : CF.ClsF K f F fd) (eb : F.body = defBody s_Calls_bound) (es : F.scope = defScope s_Calls_bound) (c : KC K C) : FnOk P w K mg base CX0 (k + 1) f fd ["self", "label", "point"] (spKF P w K mg base C "bound_function") := by
  obtain ⟨nm, qual, params, body, scope, cl, co⟩ := F
  obtain rfl : body = _ := eb
  obtain rfl : scope = _ := es
  refine CF.ok_clsF Z nsc_Calls_bound (fun vs H Q E h => ?_) (fun A outer s H vs Q E hr h => ?_)
  · obtain ⟨kd, dx, g, fs, bo, x, y, rfl, _⟩ := h
    rfl
  · obtain ⟨kd, dx, g, fs, bo, x, y, rfl, hkd, hl, hf, q⟩ := h
    refine ⟨_, pss_cons (ps_if (pt_cmp (pc_isN (pe_fld (pv 0) rfl))) (pss_one (ps_never)) (pss_nil))
    (pss_one (ps_ret (CLO.pe_fcall (P := P) (w := w) (K := K) (mg := mg) (base := base) (CX := CX0) (n := 3) (pv 0) (hr.mono (by omega)) pass0 (pa_cons (pv 1) (pa_cons (pv 2) pa_nil))))), ?_⟩
    refine ⟨_, rfl, kd, C, dx, fs, _, rfl, hkd, c.cl, c.na _ (by decide), hl, _, rfl, iteF ?_⟩
    exact ⟨_, rfl, kd, C, dx, fs, g, bo, rfl, hkd, c.cl, c.na _ (by decide), hl, hf, _, rfl, _, rfl, q⟩
end
end K16
set_option Elab.async false
set_option linter.all false
set_option maxRecDepth 100000
set_option maxHeartbeats 2000000
namespace K16
open PySem PySem.Spec PyProof.Rows L2 CM DN GR
section
variable {P : Program} {w : World} {K : PySem.W.Frag} {mg : Str → Option Value} {base : Heap}
/-! ### Counted -/
structure NC (K : PySem.W.Frag) (C : Addr) : Prop where
  cl : Cls K C
  n1 : NoAttr K C "function"
  n2 : NoAttr K C "arguments"
  n3 : NoAttr K C "made"
def cnt (f : V) (n : Int) : List (Str × V) := [("function", f), ("arguments", .int 2), ("made", .int n)]
def spNInit (C : Addr) : Sp := fun vs H Q _ => ∃ (b dx : Addr) (f : V), vs = [.ref b, f, .int 2] ∧ H b = some (.ins C dx []) ∧ Q .non (upd H b (.ins C dx (cnt f 0)))
theorem ok_Ninit {C f : Addr} {fd : FuncData} {k : Nat} (F : FunD K "__init__" "Counted.__init__" (defArgs s_Counted___init) (defBody s_Counted___init) (defScope s_Counted___init) [V.int 2] [] f fd) (c : NC K C) (C_is_int : Cal P w K mg base CX0 "is_int" k ["thing"] (spInt K)) : FnOk P w K mg base CX0 (k + 1) f fd ["self", "function", "arguments"] (spNInit C) := by
  obtain ⟨f_is_int, fd_is_int, G_is_int, b_is_int, m_is_int, k_is_int⟩ := C_is_int
  refine F.ok sc_Counted___init (fun vs H Q E h => ?_) (fun cdv A outer s H vs Q E hr h => ?_)
  · obtain ⟨b, dx, g, rfl, _⟩ := h
    rfl
  · obtain ⟨b, dx, g, rfl, hb, q⟩ := h
    refine ⟨_, PSs.nox (pss_cons (ps_if (PW.pt (pw_or (pt_not (pt_val (pe_call G_is_int (hr.mono (by omega)) (by rfl) m_is_int k_is_int b_is_int .nil pass0 (pa_cons (pv 2) pa_nil)))) (pw_or1 (pt_not (pt_chain op_le op_le pe_int (pv 2) pe_int))))) (pss_one (ps_never)) (pss_nil))
    (pss_cons (ps_fld (pv 0) (pv 1) rfl)
    (pss_cons (ps_fld (pv 0) (pv 2) rfl)
    (pss_one (ps_fld (pv 0) pe_int rfl))))), ?_⟩
    refine ⟨_, rfl, .int 2, _, true, false, rfl, .base (.int _), kit_bb (by decide +kernel), fun _ => kit_bb (by decide +kernel), true, rfl, iteF ?_⟩
    refine ⟨_, rfl, 1, 2, rfl, rfl, _, rfl, iteT ⟨2, 2, rfl, rfl, _, rfl, iteF ?_⟩⟩
    refine ⟨_, rfl, _, rfl, b, C, dx, [], rfl, hb, c.cl, c.n1, (by show 0 < 1000; decide), ?_⟩
    refine ⟨_, rfl, _, rfl, b, C, dx, [("function", g)], rfl, upd_same, c.cl, c.n2, (by show 1 < 1000; decide), ?_⟩
    rw [upd_upd]
    refine ⟨_, rfl, b, C, dx, [("function", g), ("arguments", .int 2)], rfl, upd_same, c.cl, c.n3, (by show 2 < 1000; decide), ?_⟩
    rw [upd_upd]
    exact q
def spNCall (P : Program) (w : World) (K : PySem.W.Frag) (mg : Str → Option Value) (base : Heap) (C : Addr) : Sp := fun vs H Q _ => ∃ (b dx f : Addr) (bo : Bool) (n : Int) (x y : V), vs = [.ref b, x, y] ∧ H b = some (.ins C dx (cnt (.ref f) n)) ∧ (bo = true → CLO.Fnk (upd H b (.ins C dx (cnt (.ref f) (n + 1)))) f) ∧ CLO.CallsTo P w K mg base CX0 1 bo f [x, y] (upd H b (.ins C dx (cnt (.ref f) (n + 1)))) Q E0
theorem ok_Ncall {C f : Addr} {fd : FuncData} {k : Nat} (hk : 1 ≤ k) (F : FunD K "__call__" "Counted.__call__" (defArgs s_Counted___call) (defBody s_Counted___call) (defScope s_Counted___call) [V.non] [] f fd) (c : NC K C) : FnOk P w K mg base CX0 (k + 1) f fd ["self", "one", "other"] (spNCall P w K mg base C) := by
  refine F.ok sc_Counted___call (fun vs H Q E h => ?_) (fun cdv A outer s H vs Q E hr h => ?_)
  · obtain ⟨b, dx, g, bo, n, x, y, rfl, _⟩ := h
    rfl
  · obtain ⟨b, dx, g, bo, n, x, y, rfl, hb, hf, q⟩ := h
    refine ⟨_, pss_cons (ps_fldaug (pv 0) pe_int in_add)
    (pss_cons (ps_if (pt_cmpR op_eq (pe_fld (pv 0) rfl) pe_int (nomark _)) (pss_one (ps_ret (CLO.pe_fcall (P := P) (w := w) (K := K) (mg := mg) (base := base) (CX := CX0) (n := 1) (pv 0) (hr.mono (by omega)) pass0 (pa_cons (pv 1) pa_nil)))) (pss_nil))
    (pss_one (ps_ret (CLO.pe_fcall (P := P) (w := w) (K := K) (mg := mg) (base := base) (CX := CX0) (n := 1) (pv 0) (hr.mono (by omega)) pass0 (pa_cons (pv 1) (pa_cons (pv 2) pa_nil)))))), ?_⟩
    refine ⟨_, rfl, b, C, dx, _, .int n, rfl, hb, c.cl, c.n3, rfl, n, 1, rfl, rfl, dx, _, hb, (by show 3 < 1000; decide), ?_⟩
    refine ⟨_, rfl, b, C, dx, cnt (.ref g) (n + 1), .int 2, rfl, upd_same, c.cl, c.n2, rfl, rfl, _, rfl, iteF ?_⟩
    exact ⟨_, rfl, b, C, dx, cnt (.ref g) (n + 1), g, bo, rfl, upd_same, c.cl, c.n1, rfl, hf, _, rfl, _, rfl, q⟩
end
end K16
set_option Elab.async false
set_option linter.all false
set_option maxRecDepth 100000
set_option maxHeartbeats 2000000
namespace K16
open PySem PySem.Spec PyProof.Rows L2 CM DN GR
section
variable {P : Program} {w : World} {K : PySem.W.Frag} {mg : Str → Option Value} {base : Heap}
/-! ### tables of the defs that make functions -/
abbrev TT (K : PySem.W.Frag) : List (Addr × Str) := [((He.cT K ("halves_by", none)).2, ("halves_by" ++ ".<locals>.") ++ "<lambda>"), ((He.cT K ("_law_parts_right", none)).2, ("_law_parts_right" ++ ".<locals>.") ++ "<lambda>"), ((He.cT K ("_law_order_right", none)).2, ("_law_order_right" ++ ".<locals>.") ++ "<lambda>"), ((He.cT K ("_law_noting", none)).2, ("_law_noting" ++ ".<locals>.") ++ "<lambda>"), ((He.cT K ("_law_wider", none)).2, ("_law_wider" ++ ".<locals>.") ++ "<lambda>"), ((He.cT K ("_law_coarse_right", none)).2, ("_law_coarse_right" ++ ".<locals>.") ++ "<lambda>"), ((He.cT K ("_law_noted", none)).2, ("_law_noted" ++ ".<locals>.") ++ "_law_ask")]
def Dst (K : PySem.W.Frag) : Prop := ((TT K).map (·.1)).Nodup
theorem tt_q (d : Dst K) {i : Nat} {p0 : Addr × Str} (h : (TT K)[i]? = some p0) : ∀ p ∈ TT K, p.1 = p0.1 → p.2 = p0.2 := fun p hp e => by
  obtain ⟨j, hj⟩ := List.mem_iff_getElem?.mp hp
  have e1 : ((TT K).map (·.1))[i]? = some p0.1 := by rw [List.getElem?_map, h]; rfl
  have e2 : ((TT K).map (·.1))[j]? = some p0.1 := by rw [List.getElem?_map, hj, ← e]; rfl
  have hi : i < ((TT K).map (·.1)).length := (List.getElem?_eq_some_iff.mp e1).1
  have ij := (List.getElem?_inj hi d).mp (e1.trans e2.symm)
  rw [← ij, h] at hj
  cases hj
  rfl
/-! ### Ranges -/
namespace RG
open LamX
def less (ns : List Int) (x : Int) (i k : Nat) : Bool := HT.lexLt [ns.getD k 0, 0 + (k : Int)] [x, (i : Int)]
def ahead (ns : List Int) (x : Int) (i j : Nat) : List Int := ((List.range j).filter fun (k : Nat) => less ns x i k).map fun (k : Nat) => 0 + ((k : Nat) : Int)
theorem ahead_succ (ns : List Int) (x : Int) (i j : Nat) : ahead ns x i (j + 1) = if less ns x i j = true then ahead ns x i j ++ [0 + (j : Int)] else ahead ns x i j := by
  unfold ahead
  rw [List.range_succ, List.filter_append, List.map_append]
  by_cases h : less ns x i j = true
  · rw [if_pos h, List.filter_cons_of_pos h]
    rfl
  · rw [if_neg h, List.filter_cons_of_neg h]
    simp
theorem ahead_len (ns : List Int) (x : Int) (i j : Nat) : (ahead ns x i j).length ≤ j := by
  unfold ahead
  rw [List.length_map]
  have z := List.length_filter_le (fun (k : Nat) => less ns x i k) (List.range j)
  rw [List.length_range] at z
  exact z
def half (ns : List Int) (x : Int) (i : Nat) : Int := if decide ((ns.length : Int) / 2 ≤ ((ahead ns x i ns.length).length : Int)) = true then 1 else 0
/-- the sides that halves by these numbers tell -/
def halvesOf (ns : List Int) : List Int := (List.range ns.length).map fun i => half ns (ns.getD i 0) i
theorem halves_len (ns : List Int) : (halvesOf ns).length = ns.length := by
  unfold halvesOf
  rw [List.length_map, List.length_range]
theorem halves_at {ns : List Int} {i : Nat} {x : Int} (h : ns[i]? = some x) : (halvesOf ns)[i]? = some (half ns x i) := by
  have hi := (List.getElem?_eq_some_iff.mp h).1
  unfold halvesOf
  rw [List.getElem?_map, List.getElem?_range hi, Option.map_some, List.getD_eq_getElem?_getD, h]
  rfl
def spHB (K : PySem.W.Frag) : Sp := fun vs H Q _ => ∃ (l : Addr) (ns : List Int), vs = [.ref l] ∧ SqL K H l (ns.map V.int) ∧ ns.length ≤ 900 ∧ Tabs (TT K) H ∧
  ∀ (D : Addr) (H' : Hp), ExtN H H' → Tabs (TT K) H' → H' D = some (.lst (SL.halvesL (SL.ltI ns) ns.length)) → Q (.ref D) H'
theorem ok_halvesby {fd : FuncData} {k : Nat} (F : FnP K "halves_by" "halves_by" s_halves_by (He.fAd K ("halves_by", none)) fd) (TB : TabB base mg (He.cT K ("halves_by", none)).1 (He.cT K ("halves_by", none)).2)
    (ds : Dst K) (m_sorted : mg "sorted" = none) (m_list : mg "list" = none) (m_range : mg "range" = none) (m_len : mg "len" = none) : FnOk P w K mg base CX0 (k + 1) (He.fAd K ("halves_by", none)) fd ["marks"] (spHB K) := by
  refine SL.okC F sc_halves_by (fun vs H Q E h => ?_) (fun A outer s H vs Q E hr h => ?_)
  · obtain ⟨l, ns, rfl, _⟩ := h
    rfl
  · obtain ⟨l, ns, rfl, hl, hn, hT, q⟩ := h
    have hq := tt_q ds (i := 0) rfl
    refine ⟨_, PSs.nox (pss_cons (ps_set (i := 1) sc_halves_by.nd rfl (.inl rfl) (SL.pe_sortL (β := Nat) hr TB rfl (List.mem_of_getElem? (i := 0) rfl) hq (SL.lam1_by (sc := defScope s_halves_by) (by decide +kernel)) rfl (fun _ _ _ _ _ _ => rfl) (by rfl) m_sorted (pe_listRg rfl (by rfl) m_list (prg_1 (by rfl) m_range (pe_callB call_len_seq (by rfl) m_len PySem.boot_len (pa_cons (pv 0) pa_nil))))))
    (pss_cons (ps_set (i := 2) sc_halves_by.nd rfl (.inr rfl) (pe_dc (own := [("at", 3)]) rfl sc_halves_by.nd (pi_list (pe_slice sl_list (pv 1) po_none (po_some (pe_op op_fdiv (pe_callB call_len_seq (by rfl) m_len PySem.boot_len (pa_cons (pv 0) pa_nil)) pe_int)))) (blkOk_by (N := n_halves_by) (sc := defScope s_halves_by) (by decide +kernel)) (fun _ _ _ _ _ => pg_name (i := 3) sc_halves_by.nd rfl (.inl rfl)) (fun _ _ _ _ _ => pts_nil) (fun _ _ _ _ _ => (pv 3)) (fun _ _ _ _ _ => pe_bl)))
    (pss_one (ps_ret (pe_lc (own := [("at", 3)]) rfl sc_halves_by.nd (pi_range1 (by rfl) m_range (pa_cons (pe_callB call_len_seq (by rfl) m_len PySem.boot_len (pa_cons (pv 0) pa_nil)) pa_nil)) (blkOk_by (N := n_halves_by) (sc := defScope s_halves_by) (by decide +kernel)) (fun _ _ _ _ _ => pg_name (i := 3) sc_halves_by.nd rfl (.inl rfl)) (fun _ _ _ _ _ => pts_nil) (fun _ _ _ _ _ => (pe_ifExp (pt_cmp (pc_din (hu_of hr) (pv 3) (pv 2))) pe_int pe_int))))))), ?_⟩
    have lm : (ns.map V.int).length = ns.length := List.length_map ..
    refine ⟨_, rfl, l, ns.map V.int, rfl, .inl hl, _, rfl, RgOk.of_le (by omega) (by omega) (by omega) (by omega), fun q0 n0 => ?_⟩
    have eR : rgV 0 ((ns.map V.int).length : Int) = (List.range ns.length).map fun b : Nat => V.int (b : Int) := by
      unfold rgV
      rw [lm]
      refine List.map_congr_left fun b _ => ?_
      simp
    rw [eR]
    refine ⟨SL.Tabs.same hT (same_upd n0), q0, List.range ns.length, fun b : Nat => V.int (b : Int), SL.keyI ns, rfl, .inl (.inl upd_same), fun _ _ _ _ => rfl, PySem.W.Sortable.tuples fun _ => ⟨_, _, rfl⟩, fun _ _ => by show 1 ≤ 60; decide, ?_, ?_⟩
    · intro pins s2 H2 b v I2 eN hb rv
      have hb := List.mem_range.mp hb
      have hb1 : ns[b]? = some (ns.getD b 0) := by
        rw [List.getD_eq_getElem?_getD, List.getElem?_eq_getElem hb]
        rfl
      have hb2 : (ns.map V.int)[b]? = some (V.int (ns.getD b 0)) := by rw [List.getElem?_map, hb1]; rfl
      exact SL.kr_pair (i := 0) I2 rfl rfl rfl rfl rfl (SL.ExtN.seqL eN ((same_upd n0).seq hl)) hb2 (.int _) rv
    · intro O H1 e1 nO t1 hO
      have hl1 := SL.ExtN.seqL e1 ((same_upd (o := .lst ((List.range ns.length).map fun b : Nat => V.int (b : Int))) n0).seq hl)
      have e0 : ExtN H H1 := (SL.ExtN.of_same (same_upd n0)).trans e1
      generalize hord : (List.range ns.length).mergeSort (PySem.W.dataLe false (SL.keyI ns)) = ord at hO
      have lo : ord.length = ns.length := by rw [← hord, List.length_mergeSort, List.length_range]
      -- the first half, a dict
      refine ⟨_, rfl, _, rfl, l, _, rfl, .inl hl1, _, 2, rfl, rfl, ⟨by decide, by decide⟩, _, rfl, O, _, rfl, .inl (.inl hO), fun P0 nP => ⟨P0, rfl, ⟨_, .inl (.inl upd_same)⟩, fun D nD => ?_⟩⟩
      have ec : cutV (ord.map fun b : Nat => V.int (b : Int)) none (some (((ns.map V.int).length : Int) / 2)) = (ord.take (ns.length / 2)).map fun b : Nat => V.int (b : Int) := SL.cut_half lo lm
      rw [ec] at nD ⊢
      generalize hhs : ord.take (ns.length / 2) = hs at nD ⊢
      have lhs : hs.length ≤ 900 := by
        rw [← hhs, List.length_take]
        omega
      have s2 : Same H1 (upd H1 P0 (.lst (hs.map fun b : Nat => V.int (b : Int)))) := same_upd nP
      have hP : (upd H1 P0 (.lst (hs.map fun b : Nat => V.int (b : Int)))) P0 = some (.lst (hs.map fun b : Nat => V.int (b : Int))) := upd_same
      have t2 := SL.Tabs.same t1 s2
      have hl2 := s2.seq hl1
      have e2 := e0.trans (SL.ExtN.of_same s2)
      generalize upd H1 P0 (.lst (hs.map fun b : Nat => V.int (b : Int))) = H2 at nD hP t2 hl2 e2
      refine SL.dc_list (K := K) (a := P0) (xs := hs.map fun b : Nat => V.int (b : Int)) (fun i H' => Same H2 H' ∧ ∃ kvs : List (L2.Key × V), H' D = some (.dK kvs) ∧ kvs.length ≤ i ∧ ∀ b : Nat, (valV kvs (Sum.inl (b : Int))).isSome = decide (b ∈ hs.take i))
        ⟨same_upd nD, [], upd_same, Nat.le_refl _, fun b => by simp [valV]⟩ (fun i H' _ ⟨z, _⟩ => .inl (.inl (z _ _ hP))) ?_ ?_
      · rintro i x H3 hi ⟨s3, kvs, hD, lk, hk⟩
        obtain ⟨b, hb, rfl⟩ : ∃ b, hs[i]? = some b ∧ V.int (b : Int) = x := by
          rw [List.getElem?_map] at hi
          cases e : hs[i]? with
          | none => rw [e] at hi; cases hi
          | some b => rw [e] at hi; exact ⟨b, rfl, Option.some.inj hi⟩
        have li := (List.getElem?_eq_some_iff.mp hb).1
        refine ⟨rfl, _, rfl, kvs, Sum.inl (b : Int), rfl, hD, small1000 (by omega), ?_, _, upd_same, ?_, fun j => ?_⟩
        · exact same_put s3 nD
        · exact Nat.le_trans (length_putK ..) (by omega)
        · rw [valV_put, List.take_add_one, hb]
          by_cases e : j = b
          · subst e
            simp
          · rw [if_neg (fun z => e (by have z := Sum.inl.inj z; omega)), hk j]
            simp [e]
      · rintro H3 ⟨s3, kvs, hD, lk, hk⟩
        rw [List.length_map, List.take_length] at hk
        refine ⟨_, rfl, l, _, rfl, .inl (s3.seq hl2), _, rfl, by omega, by omega, fun R nR => ?_⟩
        rw [lm, Int.toNat_natCast]
        have t3 := SL.Tabs.same t2 s3
        have e3 := e2.trans (SL.ExtN.of_same s3)
        refine lc_range (lo := 0) (n := ns.length) (fun j H' => Same H3 H' ∧ H' R = some (.lst ((SL.halvesL (SL.ltI ns) ns.length).take j))) ⟨same_upd nR, upd_same⟩ ?_ ?_
        · rintro j H4 hj ⟨s4, hR⟩
          have hin : decide (j ∈ hs) = decide (SL.aheadN (SL.ltI ns) ns.length j < ns.length / 2) := by
            rw [← hhs, ← hord]
            have z := SL.in_half (h := ns.length / 2) (SL.ltI_irr ns) (SL.ltI_tr ns) (SL.ltI_tot ns) (fun a b => congrFun (congrFun (SL.leI ns) a) b) hj
            exact decide_eq_decide.mpr z
          refine ⟨rfl, _, rfl, _, rfl, D, valV kvs (Sum.inl (0 + (j : Int))), rfl, DGet.k (k := Sum.inl (0 + (j : Int))) (s4 _ _ hD), _, rfl, ?_⟩
          rw [Int.zero_add, hk j, hin]
          have lr : ((SL.halvesL (SL.ltI ns) ns.length).take j).length < sizeLine := small1000 (by rw [List.length_take]; omega)
          have et : ∀ v : Int, v = (if SL.aheadN (SL.ltI ns) ns.length j < ns.length / 2 then 0 else 1) → (SL.halvesL (SL.ltI ns) ns.length).take j ++ [V.int v] = (SL.halvesL (SL.ltI ns) ns.length).take (j + 1) := fun v ev => by
            rw [ev, List.take_add_one, SL.halvesL_at hj]
            rfl
          refine ite2 (fun e => ?_) (fun e => ?_)
          · refine ⟨_, hR, lr, same_put s4 nR, ?_⟩
            rw [upd_same, et 0 (by rw [if_pos (of_decide_eq_true e)])]
          · refine ⟨_, hR, lr, same_put s4 nR, ?_⟩
            rw [upd_same, et 1 (by rw [if_neg (fun z => e (decide_eq_true z))])]
        · rintro H4 ⟨s4, hR⟩
          refine q R H4 (e3.trans (SL.ExtN.of_same s4)) (SL.Tabs.same t3 s4) ?_
          rw [hR, List.take_of_length_le (by unfold SL.halvesL; rw [List.length_map, List.length_range]; exact Nat.le_refl _)]
def spOwn : Sp := fun vs H Q _ => ∃ (m : Addr) (n : Int), vs = [.ref m, .int n] ∧ ∀ (p : Addr) (H' : Hp), Same H H' → Tup2 H' p n n → Q (.ref p) H'
def spJoin : Sp := fun vs H Q _ => ∃ (m p r : Addr) (l h l' h' : Int), vs = [.ref m, .ref p, .ref r] ∧ Tup2 H p l h ∧ Tup2 H r l' h' ∧ ∀ (t : Addr) (H' : Hp), Same H H' → Tup2 H' t (min l l') (max h h') → Q (.ref t) H'
def spCons : Sp := fun vs H Q _ => ∃ (m p r : Addr) (l h lo hi : Int), vs = [.ref m, .ref p, .ref r] ∧ Tup2 H p l h ∧ Tup2 H r lo hi ∧ l ≤ h ∧ ∀ H' : Hp, Same H H' → Q (.bl (decide (lo ≤ hi ∧ max lo l ≤ min hi h))) H'
def spMat : Sp := fun vs H Q _ => ∃ (m r : Addr) (n lo hi : Int), vs = [.ref m, .int n, .ref r] ∧ Tup2 H r lo hi ∧ ∀ H' : Hp, Same H H' → Q (.bl (decide (lo ≤ n ∧ n ≤ hi))) H'
def spPen (C : Addr) : Sp := fun vs H Q _ => ∃ (m dx p : Addr) (n l h : Int), vs = [.ref m, .ref p, .int n] ∧ H m = some (.ins C dx []) ∧ Tup2 H p l h ∧ ∀ H' : Hp, Same H H' → Q (.int (max h n - min l n - (h - l))) H'
def spDist : Sp := fun vs H Q _ => ∃ (m : Addr) (n k : Int), vs = [.ref m, .int n, .int k] ∧ ∀ H' : Hp, Same H H' → Q (.int (if n - k < 0 then -(n - k) else n - k)) H'
def spBound : Sp := fun vs H Q _ => ∃ (m p : Addr) (l h k : Int), vs = [.ref m, .ref p, .int k] ∧ Tup2 H p l h ∧ l ≤ h ∧ ∀ H' : Hp, Same H H' → Q (.int (max 0 (max (l - k) (k - h)))) H'
/-- the labels at l are spans -/
def Spans (K : PySem.W.Frag) (H : Hp) (l : Addr) (ps : List Addr) (ns : List (Int × Int)) : Prop := SqL K H l (ps.map V.ref) ∧ Paired (fun p n => Tup2 H p n.1 n.2) ps ns
theorem halvesL_eq (ns : List Int) : SL.halvesL (SL.ltI ns) ns.length = (halvesOf ns).map V.int := by
  unfold SL.halvesL halvesOf
  rw [List.map_map]
  refine List.map_congr_left fun i hi => congrArg V.int ?_
  have e : ((ahead ns (ns.getD i 0) i ns.length).length : Int) = (SL.aheadN (SL.ltI ns) ns.length i : Int) := by
    unfold ahead SL.aheadN
    rw [List.length_map]
    refine congrArg (fun l : List Nat => (l.length : Int)) (List.filter_congr fun k hk => ?_)
    unfold less SL.ltI
    generalize ns.getD k 0 = a
    generalize ns.getD i 0 = b
    rw [HT.lexLt_cons, HT.lexLt_cons, HT.lexLt_nil_nil]
    by_cases e1 : a = b
    · rw [if_pos e1]
      by_cases e2 : 0 + (k : Int) = (i : Int)
      · rw [if_pos e2, decide_eq_false (by omega)]
      · rw [if_neg e2]
        exact decide_eq_decide.mpr (by omega)
    · rw [if_neg e1]
      exact decide_eq_decide.mpr (by omega)
  show _ = (if decide ((ns.length : Int) / 2 ≤ ((ahead ns (ns.getD i 0) i ns.length).length : Int)) = true then (1 : Int) else 0)
  rw [e]
  by_cases h : SL.aheadN (SL.ltI ns) ns.length i < ns.length / 2
  · rw [if_pos h, if_neg (fun z => by have z := of_decide_eq_true z; omega)]
  · rw [if_neg h, if_pos (decide_eq_true (by omega))]
def spSides (K : PySem.W.Frag) : Sp := fun vs H Q _ => ∃ (m l : Addr) (ps : List Addr) (ns : List (Int × Int)), vs = [.ref m, .ref l] ∧ Spans K H l ps ns ∧ ns.length ≤ 30 ∧ Tabs (TT K) H ∧
  ∀ (t : Addr) (H' : Hp), ExtN H H' → Tabs (TT K) H' → (SqL K H' t ((halvesOf (ns.map fun n => n.1 + n.2)).map V.int) ∨ SqT K H' t ((halvesOf (ns.map fun n => n.1 + n.2)).map V.int)) → Q (.ref t) H'
theorem pair_at {G : Hp} : ∀ {ps : List Addr} {ns : List (Int × Int)} {t : Nat} {v : V}, Paired (fun p n => Tup2 G p n.1 n.2) ps ns → (ps.map V.ref)[t]? = some v → ∃ (p : Addr) (lo hi : Int), v = .ref p ∧ ns[t]? = some (lo, hi) ∧ Tup2 G p lo hi
  | p :: _, n :: _, 0, _, .cons h _, e => ⟨p, n.1, n.2, (Option.some.inj e).symm, rfl, h⟩
  | _ :: _, _ :: _, t + 1, _, .cons _ h, e => pair_at (t := t) h e
  | [], _, _, _, _, e => by cases e
theorem ok_own {f : Addr} {fd : FuncData} {k : Nat} (F : FnP K "own" "Ranges.own" s_Ranges_own f fd) : FnOk P w K mg base CX0 (k + 1) f fd ["self", "key"] spOwn := by
  refine F.ok sc_Ranges_own (fun vs H Q E h => ?_) (fun cdv A outer s H vs Q E hr h => ?_)
  · obtain ⟨m, n, rfl, _⟩ := h
    rfl
  · obtain ⟨m, n, rfl, q⟩ := h
    refine ⟨_, PSs.nox (pss_one (ps_ret (pe_tup (pa_cons (pv 1) (pa_cons (pv 1) pa_nil))))), ?_⟩
    exact ⟨_, rfl, _, rfl, by show 2 ≤ sizeLine; decide, fun p np => q p _ (same_upd np) upd_same⟩
def spHull : Sp := fun vs H Q _ => ∃ (p r : Addr) (l h l' h' : Int), vs = [.ref p, .ref r] ∧ Tup2 H p l h ∧ Tup2 H r l' h' ∧ ∀ (t : Addr) (H' : Hp), Same H H' → Tup2 H' t (min l l') (max h h') → Q (.ref t) H'
theorem ok_hull {f : Addr} {fd : FuncData} {k : Nat} (F : FnP K "hull" "hull" s_hull f fd) (m_max : mg "max" = none) (m_min : mg "min" = none) : FnOk P w K mg base CX0 (k + 1) f fd ["one", "other"] spHull := by
  refine F.ok sc_hull (fun vs H Q E h => ?_) (fun cdv A outer s H vs Q E hr h => ?_)
  · obtain ⟨p, r, l, h, l', h', rfl, _⟩ := h
    rfl
  · obtain ⟨p, r, l, h, l', h', rfl, hp, hq, q⟩ := h
    refine ⟨_, PSs.nox (pss_one (ps_ret (pe_tup (pa_cons (pe_callB (call_min2 rfl) (by rfl) m_min (by decide +kernel) (pa_cons (pe_ix ix_tup (pv 0) pe_int (fun _ _ => rfl)) (pa_cons (pe_ix ix_tup (pv 1) pe_int (fun _ _ => rfl)) pa_nil))) (pa_cons (pe_callB (call_max2 rfl) (by rfl) m_max (by decide +kernel) (pa_cons (pe_ix ix_tup (pv 0) pe_int (fun _ _ => rfl)) (pa_cons (pe_ix ix_tup (pv 1) pe_int (fun _ _ => rfl)) pa_nil))) pa_nil))))), ?_⟩
    refine ⟨_, rfl, p, _, 0, _, rfl, rfl, .inl (.inl hp), rfl, _, rfl, r, _, 0, _, rfl, rfl, .inl (.inl hq), rfl, l, l', rfl, ?_⟩
    refine ⟨_, rfl, p, _, 1, _, rfl, rfl, .inl (.inl hp), rfl, _, rfl, r, _, 1, _, rfl, rfl, .inl (.inl hq), rfl, h, h', rfl, by show 2 ≤ sizeLine; decide, fun t nt => ?_⟩
    rw [max_if, min_if]
    exact q t _ (same_upd nt) upd_same
def spShI : Sp := fun vs H Q _ => ∃ (p r : Addr) (l h l' h' : Int), vs = [.ref p, .ref r] ∧ Tup2 H p l h ∧ Tup2 H r l' h' ∧ Q (.bl (decide (max l l' ≤ min h h'))) H
theorem ok_shi {f : Addr} {fd : FuncData} {k : Nat} (F : FnP K "share_integer" "share_integer" s_share_integer f fd) (m_max : mg "max" = none) (m_min : mg "min" = none) : FnOk P w K mg base CX0 (k + 1) f fd ["one", "other"] spShI := by
  refine F.ok sc_share_integer (fun vs H Q E h => ?_) (fun cdv A outer s H vs Q E hr h => ?_)
  · obtain ⟨p, r, l, h, l', h', rfl, _⟩ := h
    rfl
  · obtain ⟨p, r, l, h, l', h', rfl, hp, hq, q⟩ := h
    refine ⟨_, PSs.nox (pss_one (ps_ret (pe_cmpR op_le (pe_callB (call_max2 rfl) (by rfl) m_max (by decide +kernel) (pa_cons (pe_ix ix_tup (pv 0) pe_int (fun _ _ => rfl)) (pa_cons (pe_ix ix_tup (pv 1) pe_int (fun _ _ => rfl)) pa_nil))) (pe_callB (call_min2 rfl) (by rfl) m_min (by decide +kernel) (pa_cons (pe_ix ix_tup (pv 0) pe_int (fun _ _ => rfl)) (pa_cons (pe_ix ix_tup (pv 1) pe_int (fun _ _ => rfl)) pa_nil))) (nomark _)))), ?_⟩
    refine ⟨_, rfl, p, _, 0, _, rfl, rfl, .inl (.inl hp), rfl, _, rfl, r, _, 0, _, rfl, rfl, .inl (.inl hq), rfl, l, l', rfl, ?_⟩
    refine ⟨_, rfl, p, _, 1, _, rfl, rfl, .inl (.inl hp), rfl, _, rfl, r, _, 1, _, rfl, rfl, .inl (.inl hq), rfl, h, h', rfl, _, _, rfl, rfl, ?_⟩
    rw [max_if, min_if]
    exact q
def spWid : Sp := fun vs H Q _ => ∃ (p : Addr) (l h : Int), vs = [.ref p] ∧ Tup2 H p l h ∧ Q (.int (h - l)) H
theorem ok_width {f : Addr} {fd : FuncData} {k : Nat} (F : FnP K "width_of" "width_of" s_width_of f fd) : FnOk P w K mg base CX0 (k + 1) f fd ["span"] spWid := by
  refine F.ok sc_width_of (fun vs H Q E h => ?_) (fun cdv A outer s H vs Q E hr h => ?_)
  · obtain ⟨p, l, h, rfl, _⟩ := h
    rfl
  · obtain ⟨p, l, h, rfl, hp, q⟩ := h
    refine ⟨_, PSs.nox (pss_one (ps_ret (pe_op op_sub (pe_ix ix_tup (pv 0) pe_int (fun _ _ => rfl)) (pe_ix ix_tup (pv 0) pe_int (fun _ _ => rfl))))), ?_⟩
    exact ⟨_, rfl, p, _, 1, _, rfl, rfl, .inl (.inl hp), rfl, _, rfl, p, _, 0, _, rfl, rfl, .inl (.inl hp), rfl, _, _, rfl, rfl, q⟩
def spGap : Sp := fun vs H Q _ => ∃ (p : Addr) (l h n : Int), vs = [.ref p, .int n] ∧ Tup2 H p l h ∧ Q (.int (max (max (l - n) (n - h)) 0)) H
theorem ok_gap {f : Addr} {fd : FuncData} {k : Nat} (F : FnP K "gap" "gap" s_gap f fd) (m_max : mg "max" = none) : FnOk P w K mg base CX0 (k + 1) f fd ["span", "number"] spGap := by
  refine F.ok sc_gap (fun vs H Q E h => ?_) (fun cdv A outer s H vs Q E hr h => ?_)
  · obtain ⟨p, l, h, n, rfl, _⟩ := h
    rfl
  · obtain ⟨p, l, h, n, rfl, hp, q⟩ := h
    refine ⟨_, PSs.nox (pss_one (ps_ret (pe_callB (SL.call_max3 rfl) (by rfl) m_max (by decide +kernel) (pa_cons (pe_op op_sub (pe_ix ix_tup (pv 0) pe_int (fun _ _ => rfl)) (pv 1)) (pa_cons (pe_op op_sub (pv 1) (pe_ix ix_tup (pv 0) pe_int (fun _ _ => rfl))) (pa_cons pe_int pa_nil)))))), ?_⟩
    exact ⟨_, rfl, p, _, 0, _, rfl, rfl, .inl (.inl hp), rfl, _, rfl, l, n, rfl, rfl, _, rfl, _, rfl, p, _, 1, _, rfl, rfl, .inl (.inl hp), rfl, n, h, rfl, rfl, l - n, n - h, 0, rfl, q⟩
theorem ok_join {f : Addr} {fd : FuncData} {k : Nat} (F : FnP K "join" "Ranges.join" s_Ranges_join f fd) (C_hull : Cal P w K mg base CX0 "hull" k ["one", "other"] spHull) : FnOk P w K mg base CX0 (k + 1) f fd ["self", "one", "other"] spJoin := by
  obtain ⟨f_hull, fd_hull, G_hull, b_hull, m_hull, k_hull⟩ := C_hull
  refine F.ok sc_Ranges_join (fun vs H Q E h => ?_) (fun cdv A outer s H vs Q E hr h => ?_)
  · obtain ⟨m, p, r, l, h, l', h', rfl, _⟩ := h
    rfl
  · obtain ⟨m, p, r, l, h, l', h', rfl, hp, hq, q⟩ := h
    refine ⟨_, PSs.nox (pss_one (ps_ret (pe_call G_hull (hr.mono (by omega)) (by rfl) m_hull k_hull b_hull .nil pass0 (pa_cons (pv 1) (pa_cons (pv 2) pa_nil))))), ?_⟩
    exact ⟨_, rfl, _, rfl, p, r, l, h, l', h', rfl, hp, hq, q⟩
theorem ok_consistent {f : Addr} {fd : FuncData} {k : Nat} (F : FnP K "consistent" "Ranges.consistent" s_Ranges_consistent f fd) (C_share_integer : Cal P w K mg base CX0 "share_integer" k ["one", "other"] spShI) : FnOk P w K mg base CX0 (k + 1) f fd ["self", "label", "question"] spCons := by
  obtain ⟨f_share_integer, fd_share_integer, G_share_integer, b_share_integer, m_share_integer, k_share_integer⟩ := C_share_integer
  refine F.ok sc_Ranges_consistent (fun vs H Q E h => ?_) (fun cdv A outer s H vs Q E hr h => ?_)
  · obtain ⟨m, p, r, l, h, lo, hi, rfl, _⟩ := h
    rfl
  · obtain ⟨m, p, r, l, h, lo, hi, rfl, hp, hq, le, q⟩ := h
    refine ⟨_, PSs.nox (pss_one (ps_ret (pe_call G_share_integer (hr.mono (by omega)) (by rfl) m_share_integer k_share_integer b_share_integer .nil pass0 (pa_cons (pv 1) (pa_cons (pv 2) pa_nil))))), ?_⟩
    refine ⟨_, rfl, _, rfl, p, r, l, h, lo, hi, rfl, hp, hq, ?_⟩
    have z := q H (Same.refl H)
    have e : decide (max l lo ≤ min h hi) = decide (lo ≤ hi ∧ max lo l ≤ min hi h) := decide_eq_decide.mpr (by omega)
    rw [e]
    exact z
theorem ok_matches {f : Addr} {fd : FuncData} {k : Nat} (F : FnP K "matches" "Ranges.matches" s_Ranges_matches f fd) : FnOk P w K mg base CX0 (k + 1) f fd ["self", "key", "question"] spMat := by
  refine F.ok sc_Ranges_matches (fun vs H Q E h => ?_) (fun cdv A outer s H vs Q E hr h => ?_)
  · obtain ⟨m, r, n, lo, hi, rfl, _⟩ := h
    rfl
  · obtain ⟨m, r, n, lo, hi, rfl, hp, q⟩ := h
    refine ⟨_, PSs.nox (pss_one (ps_ret (pe_chain op_le op_le (pe_ix ix_tup (pv 2) pe_int (fun _ _ => rfl)) (pv 1) (pe_ix ix_tup (pv 2) pe_int (fun _ _ => rfl))))), ?_⟩
    have z := q H (Same.refl H)
    refine ⟨_, rfl, r, _, 0, _, rfl, rfl, .inl (.inl hp), rfl, _, rfl, lo, n, rfl, rfl, _, rfl, ite2 (fun e => ?_) (fun e => ?_)⟩
    · have e1 := of_decide_eq_true e
      refine ⟨_, rfl, r, _, 1, _, rfl, rfl, .inl (.inl hp), rfl, n, hi, rfl, rfl, ?_⟩
      rw [show decide (lo ≤ n ∧ n ≤ hi) = decide (n ≤ hi) from decide_eq_decide.mpr ⟨fun y => y.2, fun y => ⟨e1, y⟩⟩] at z
      exact z
    · rw [show decide (lo ≤ n ∧ n ≤ hi) = false from decide_eq_false fun y => e (decide_eq_true y.1)] at z
      exact z
theorem ok_penalty {C f : Addr} {fd : FuncData} {k : Nat} (F : FnP K "penalty" "Ranges.penalty" s_Ranges_penalty f fd) (C_hull : Cal P w K mg base CX0 "hull" k ["one", "other"] spHull) (C_width_of : Cal P w K mg base CX0 "width_of" k ["span"] spWid) : FnOk P w K mg base CX0 (k + 1) f fd ["self", "label", "key"] (spPen C) := by
  obtain ⟨f_hull, fd_hull, G_hull, b_hull, m_hull, k_hull⟩ := C_hull
  obtain ⟨f_width_of, fd_width_of, G_width_of, b_width_of, m_width_of, k_width_of⟩ := C_width_of
  refine F.ok sc_Ranges_penalty (fun vs H Q E h => ?_) (fun cdv A outer s H vs Q E hr h => ?_)
  · obtain ⟨m, dx, p, n, l, h, rfl, _⟩ := h
    rfl
  · obtain ⟨m, dx, p, n, l, h, rfl, hm, hp, q⟩ := h
    refine ⟨_, PSs.nox (pss_one (ps_ret (pe_op op_sub (pe_call G_width_of (hr.mono (by omega)) (by rfl) m_width_of k_width_of b_width_of .nil pass0 (pa_cons (pe_call G_hull (hr.mono (by omega)) (by rfl) m_hull k_hull b_hull .nil pass0 (pa_cons (pv 1) (pa_cons (pe_tup (pa_cons (pv 2) (pa_cons (pv 2) pa_nil))) pa_nil))) pa_nil)) (pe_call G_width_of (hr.mono (by omega)) (by rfl) m_width_of k_width_of b_width_of .nil pass0 (pa_cons (pv 1) pa_nil))))), ?_⟩
    refine ⟨_, rfl, _, rfl, _, rfl, by show 2 ≤ sizeLine; decide, fun t nt => ?_⟩
    have s1 := same_upd (o := .tup [V.int n, V.int n]) nt
    refine ⟨p, t, l, h, n, n, rfl, s1 _ _ hp, upd_same, fun u H2 s2 hu => ⟨u, _, _, rfl, hu, _, rfl, p, l, h, rfl, (s1.trans s2) _ _ hp, _, _, rfl, rfl, ?_⟩⟩
    exact q H2 (s1.trans s2)
theorem ok_sides {f : Addr} {fd : FuncData} {k : Nat} (F : FnP K "sides" "Ranges.sides" s_Ranges_sides f fd) (C_halves_by : Cal P w K mg base CX0 "halves_by" k ["marks"] (spHB K)) : FnOk P w K mg base CX0 (k + 1) f fd ["self", "labels"] (spSides K) := by
  obtain ⟨f_halves_by, fd_halves_by, G_halves_by, b_halves_by, m_halves_by, k_halves_by⟩ := C_halves_by
  refine F.ok sc_Ranges_sides (fun vs H Q E h => ?_) (fun cdv A outer s H vs Q E hr h => ?_)
  · obtain ⟨m, l, ps, ns, rfl, _⟩ := h
    rfl
  · obtain ⟨m, l, ps, ns, rfl, ⟨hl, pp⟩, hn, hT, q⟩ := h
    refine ⟨_, PSs.nox (pss_one (ps_ret (pe_call G_halves_by (hr.mono (by omega)) (by rfl) m_halves_by k_halves_by b_halves_by .nil pass0 (pa_cons (pe_lc (own := [("low", 2), ("high", 3)]) rfl sc_Ranges_sides.nd (pi_list (pv 1)) (blkOk_by (N := n_Ranges_sides) (sc := defScope s_Ranges_sides) (by decide +kernel)) (fun _ _ _ _ _ => pg_tupK (n := 2) rfl (pgs_cons (pg_name (i := 2) sc_Ranges_sides.nd rfl (.inl rfl) (by first | exact .inl rfl | exact .inr rfl)) (pgs_cons (pg_name (i := 3) sc_Ranges_sides.nd rfl (.inl rfl) (by first | exact .inl rfl | exact .inr rfl)) (pgs_nil)))) (fun _ _ _ _ _ => pts_nil) (fun _ _ _ _ _ => (pe_op op_add (pv 2) (pv 3)))) pa_nil)))), ?_⟩
    have lp : ps.length = ns.length := Paired.length pp
    refine ⟨_, rfl, l, rfl, ⟨ps.map V.ref, hl⟩, fun D nD => ?_⟩
    refine lc_list (xs := ps.map V.ref) (fun t H' => Same H H' ∧ H' D = some (.lst (((ns.map fun n => n.1 + n.2).take t).map V.int))) ⟨same_upd nD, upd_same⟩ (fun t H' _ z => z.1.seq hl) ?_ ?_
    · rintro t v H4 hv ⟨s4, hD4⟩
      obtain ⟨p, lo, hi, rfl, e1, e2⟩ : ∃ (p : Addr) (lo hi : Int), v = .ref p ∧ ns[t]? = some (lo, hi) ∧ Tup2 H p lo hi := pair_at pp hv
      refine ⟨p, [.int lo, .int hi], rfl, .inl (.inl (s4 _ _ e2)), rfl, _, _, rfl, _, _, rfl, rfl, rfl, ?_⟩
      refine ⟨_, rfl, _, rfl, lo, hi, rfl, rfl, _, hD4, ?_, same_put s4 nD, ?_⟩
      · rw [List.length_map, List.length_take, List.length_map]
        exact small1000 (by omega)
      · rw [upd_same, List.take_add_one, List.getElem?_map, e1, List.map_append]
        rfl
    · rintro H4 ⟨s4, hD4⟩
      rw [List.length_map, List.take_of_length_le (by rw [List.length_map, lp]; exact Nat.le_refl _)] at hD4
      refine ⟨D, ns.map fun n => n.1 + n.2, rfl, .inl (.inl hD4), by rw [List.length_map]; omega, SL.Tabs.same hT s4, fun R H5 e5 t5 hR => ?_⟩
      refine q R H5 ((SL.ExtN.of_same s4).trans e5) t5 (.inl (.inl (.inl ?_)))
      rw [halvesL_eq] at hR
      exact hR
theorem ok_distance {f : Addr} {fd : FuncData} {k : Nat} (F : FnP K "distance" "Ranges.distance" s_Ranges_distance f fd) (m_abs : mg "abs" = none) : FnOk P w K mg base CX0 (k + 1) f fd ["self", "key", "point"] spDist := by
  refine F.ok sc_Ranges_distance (fun vs H Q E h => ?_) (fun cdv A outer s H vs Q E hr h => ?_)
  · obtain ⟨m, n, k, rfl, _⟩ := h
    rfl
  · obtain ⟨m, n, k, rfl, q⟩ := h
    refine ⟨_, PSs.nox (pss_one (ps_ret (pe_callB call_abs (by rfl) m_abs (by decide +kernel) (pa_cons (pe_op op_sub (pv 1) (pv 2)) pa_nil)))), ?_⟩
    exact ⟨_, rfl, _, rfl, n, k, rfl, rfl, n - k, rfl, q H (Same.refl H)⟩
theorem ok_bound {f : Addr} {fd : FuncData} {k : Nat} (F : FnP K "bound" "Ranges.bound" s_Ranges_bound f fd) (C_gap : Cal P w K mg base CX0 "gap" k ["span", "number"] spGap) : FnOk P w K mg base CX0 (k + 1) f fd ["self", "label", "point"] spBound := by
  obtain ⟨f_gap, fd_gap, G_gap, b_gap, m_gap, k_gap⟩ := C_gap
  refine F.ok sc_Ranges_bound (fun vs H Q E h => ?_) (fun cdv A outer s H vs Q E hr h => ?_)
  · obtain ⟨m, p, l, h, k, rfl, _⟩ := h
    rfl
  · obtain ⟨m, p, l, h, k, rfl, hp, le, q⟩ := h
    refine ⟨_, PSs.nox (pss_one (ps_ret (pe_call G_gap (hr.mono (by omega)) (by rfl) m_gap k_gap b_gap .nil pass0 (pa_cons (pv 1) (pa_cons (pv 2) pa_nil))))), ?_⟩
    refine ⟨_, rfl, _, rfl, p, l, h, k, rfl, hp, ?_⟩
    rw [show max (max (l - k) (k - h)) 0 = max 0 (max (l - k) (k - h)) by omega]
    exact q H (Same.refl H)
end RG
end
end K16
set_option Elab.async false
set_option linter.all false
set_option maxRecDepth 100000
set_option maxHeartbeats 2000000
namespace K16
open PySem PySem.Spec PyProof.Rows L2 CM DN GR
section
variable {P : Program} {w : World} {K : PySem.W.Frag} {mg : Str → Option Value} {base : Heap}
/-! ### Rests -/
namespace RS
open LamX
def IsTag (n m r : Int) : Prop := 0 ≤ m ∧ m ≤ n ∧ (m = 0 → -(2 * n) ≤ r ∧ r ≤ 2 * n) ∧ (0 < m → 0 ≤ r ∧ r < m)
def jm (a ra b rb : Int) : Int := (Int.gcd (Int.gcd a b : Int) (ra - rb) : Nat)
def jr (a ra b rb : Int) : Int := if jm a ra b rb = 0 then ra else ra % jm a ra b rb
def spOwn : Sp := fun vs H Q _ => ∃ (m : Addr) (n : Int), vs = [.ref m, .int n] ∧ ∀ (p : Addr) (H' : Hp), Same H H' → Tup2 H' p 0 n → Q (.ref p) H'
def spJoin : Sp := fun vs H Q _ => ∃ (m p r : Addr) (a ra b rb n : Int), vs = [.ref m, .ref p, .ref r] ∧ Tup2 H p a ra ∧ Tup2 H r b rb ∧ IsTag n a ra ∧ IsTag n b rb ∧ n < 2 ^ 170 ∧
  ∀ (t : Addr) (H' : Hp), Same H H' → Tup2 H' t (jm a ra b rb) (jr a ra b rb) → Q (.ref t) H'
def spCons : Sp := fun vs H Q _ => ∃ (m p r : Addr) (a ra b s n : Int), vs = [.ref m, .ref p, .ref r] ∧ Tup2 H p a ra ∧ Tup2 H r b s ∧ IsTag n a ra ∧ 0 < b ∧ b ≤ n ∧ 0 ≤ s ∧ s < b ∧ n < 2 ^ 170 ∧
  ∀ H' : Hp, Same H H' → Q (.bl (decide ((Int.gcd a b : Int) ∣ ra - s))) H'
def spMat : Sp := fun vs H Q _ => ∃ (m r : Addr) (n b s : Int), vs = [.ref m, .int n, .ref r] ∧ Tup2 H r b s ∧ 0 < b ∧ 0 ≤ s ∧ s < b ∧ ∀ H' : Hp, Same H H' → Q (.bl (decide (n % b = s))) H'
def spPen (C : Addr) : Sp := fun vs H Q _ => ∃ (m dx p : Addr) (a ra z n : Int), vs = [.ref m, .ref p, .int z] ∧ H m = some (.ins C dx []) ∧ Tup2 H p a ra ∧ IsTag n a ra ∧ IsTag n 0 z ∧ n < 2 ^ 170 ∧
  ∀ H' : Hp, Same H H' → Q (.int (if jm a ra 0 z = a ∧ jr a ra 0 z = ra then 0 else 1)) H'
theorem fmod_small (u v : Int) (h : v ≠ 0) : (u.fmod v).natAbs < v.natAbs := by
  rcases Int.lt_or_gt_of_ne h with n | p
  · have e : u.fmod v = -((-u).fmod (-v)) := by
      rw [Int.neg_fmod_neg]
      omega
    have h1 := Int.fmod_nonneg_of_pos (-u) (show 0 < -v by omega)
    have h2 := Int.fmod_lt_of_pos (-u) (show 0 < -v by omega)
    rw [e]
    omega
  · have h1 := Int.fmod_nonneg_of_pos u p
    have h2 := Int.fmod_lt_of_pos u p
    omega
theorem gcd_fmod (u v : Int) : Int.gcd v (u.fmod v) = Int.gcd u v := by
  rw [Int.fmod_def, Int.gcd_sub_mul_left_right, Int.gcd_comm]
def spGcd : Sp := fun vs H Q _ => ∃ x y : Int, vs = [.int x, .int y] ∧ Q (.int (Int.gcd x y)) H
theorem ok_gcd {f : Addr} {fd : FuncData} {k : Nat} (F : FnP K "common_divisor" "common_divisor" s_common_divisor f fd) (m_abs : mg "abs" = none) : FnOk P w K mg base CX0 (k + 1) f fd ["one", "other"] spGcd := by
  refine F.ok sc_common_divisor (fun vs H Q E h => ?_) (fun cdv A outer s H vs Q E hr h => ?_)
  · obtain ⟨x, y, rfl, _⟩ := h
    rfl
  · obtain ⟨x, y, rfl, q⟩ := h
    refine ⟨_, PSs.nox (pss_cons (ps_while PassesOwn.never (pt_cmpR op_ne (pv 1) pe_int (nomark _)) (pss_one (ps_par (i := 0) (j := 1) rfl sc_common_divisor.nd rfl rfl (by decide) rfl rfl (pa_cons (pv 1) (pa_cons (pe_op op_modN (pv 0) (pv 1)) pa_nil)) (by rfl))))
    (pss_one (ps_ret (pe_callB call_abs (by rfl) m_abs (by decide +kernel) (pa_cons (pv 0) pa_nil))))), ?_⟩
    refine ⟨fun d σ H' => H' = H ∧ ∃ u v : Int, σ = [some (.int u), some (.int v)] ∧ v.natAbs = d ∧ Int.gcd u v = Int.gcd x y, ⟨_, rfl, x, y, rfl, rfl, rfl⟩, ?_⟩
    rintro d σ H1 ⟨rfl, u, v, rfl, hd, g⟩
    refine ⟨_, rfl, rfl, _, rfl, ite2 (fun e => ?_) (fun e => ?_)⟩
    · have e1 : v ≠ 0 := fun z => by
        rw [z] at e
        exact absurd e (by simp)
      refine ⟨fun σ' H' => H' = H1 ∧ σ' = [some (.int v), some (.int (u.fmod v))], ?_, ?_⟩
      · rintro σ' H' ⟨rfl, rfl⟩
        exact ⟨_, by rw [← hd]; exact fmod_small u v e1, rfl, v, u.fmod v, rfl, rfl, by rw [gcd_fmod]; exact g⟩
      · exact ⟨_, rfl, _, rfl, _, rfl, u, v, rfl, rfl, e1, _, _, rfl, rfl, rfl⟩
    · have e1 : v = 0 := by
        refine Classical.byContradiction fun z => e ?_
        have z2 : ¬ V.int v = V.int 0 := fun z3 => z (V.int.inj z3)
        simp [z2]
      subst e1
      rw [Int.gcd_zero_right] at g
      refine ⟨_, rfl, u, rfl, ?_⟩
      have ab : (if u < 0 then -u else u) = (u.natAbs : Int) := by
        split <;> omega
      first
        | (rw [ab, g]; exact q)
        | (rw [g]; exact q)
theorem ok_own {f : Addr} {fd : FuncData} {k : Nat} (F : FnP K "own" "Rests.own" s_Rests_own f fd) : FnOk P w K mg base CX0 (k + 1) f fd ["self", "key"] spOwn := by
  refine F.ok sc_Rests_own (fun vs H Q E h => ?_) (fun cdv A outer s H vs Q E hr h => ?_)
  · obtain ⟨m, n, rfl, _⟩ := h
    rfl
  · obtain ⟨m, n, rfl, q⟩ := h
    refine ⟨_, pss_one (ps_ret (pe_tup (pa_cons pe_int (pa_cons (pv 1) pa_nil)))), ?_⟩
    exact ⟨_, rfl, by show 2 ≤ sizeLine; decide, fun t nt => q t _ (same_upd nt) upd_same⟩
theorem ok_rest {f : Addr} {fd : FuncData} {k : Nat} (F : FnP K "common_rest" "common_rest" s_common_rest f fd) (C_common_divisor : Cal P w K mg base CX0 "common_divisor" k ["one", "other"] spGcd) :
    FnOk P w K mg base CX0 (k + 1) f fd ["one", "other"] (fun vs H Q _ => ∃ (p r : Addr) (a ra b rb : Int), vs = [.ref p, .ref r] ∧ Tup2 H p a ra ∧ Tup2 H r b rb ∧ ∀ (t : Addr) (H' : Hp), Same H H' → Tup2 H' t (jm a ra b rb) (jr a ra b rb) → Q (.ref t) H') := by
  obtain ⟨f_common_divisor, fd_common_divisor, G_common_divisor, b_common_divisor, m_common_divisor, k_common_divisor⟩ := C_common_divisor
  refine F.ok sc_common_rest (fun vs H Q E h => ?_) (fun cdv A outer s H vs Q E hr h => ?_)
  · obtain ⟨p, r, a, ra, b, rb, rfl, _⟩ := h
    rfl
  · obtain ⟨p, r, a, ra, b, rb, rfl, hp, hr2, q⟩ := h
    refine ⟨_, PSs.nox (pss_cons (ps_asg (pv 0) (pg_tup rfl (pgs_cons (pg_name (i := 2) sc_common_rest.nd rfl (.inl rfl)) (pgs_cons (pg_name (i := 3) sc_common_rest.nd rfl (.inl rfl)) (pgs_nil)))))
    (pss_cons (ps_set (i := 4) sc_common_rest.nd rfl (.inl rfl) (pe_call G_common_divisor (hr.mono (by omega)) (by rfl) m_common_divisor k_common_divisor b_common_divisor .nil pass0 (pa_cons (pe_call G_common_divisor (hr.mono (by omega)) (by rfl) m_common_divisor k_common_divisor b_common_divisor .nil pass0 (pa_cons (pv 2) (pa_cons (pe_ix ix_tup (pv 1) pe_int (fun _ _ => rfl)) pa_nil))) (pa_cons (pe_op op_sub (pv 3) (pe_ix ix_tup (pv 1) pe_int (fun _ _ => rfl))) pa_nil))))
    (pss_cons (ps_if (pt_cmpR op_eq (pv 4) pe_int (nomark _)) (pss_one (ps_ret (pe_tup (pa_cons pe_int (pa_cons (pv 3) pa_nil))))) (pss_nil))
    (pss_one (ps_ret (pe_tup (pa_cons (pv 4) (pa_cons (pe_op op_mod (pv 3) (pv 4)) pa_nil)))))))), ?_⟩
    refine ⟨_, rfl, p, _, rfl, .inl (.inl hp), rfl, _, _, rfl, _, _, rfl, rfl, ?_⟩
    refine ⟨_, rfl, _, rfl, r, _, 0, _, rfl, rfl, .inl (.inl hr2), rfl, a, b, rfl, ?_⟩
    refine ⟨_, rfl, _, rfl, r, _, 1, _, rfl, rfl, .inl (.inl hr2), rfl, ra, rb, rfl, rfl, _, _, rfl, ?_⟩
    refine ⟨_, rfl, rfl, _, rfl, ite2 (fun e => ?_) (fun e => ?_)⟩
    · have e1 : jm a ra b rb = 0 := V.int.inj (of_decide_eq_true e)
      refine ⟨_, rfl, by show 2 ≤ sizeLine; decide, fun t nt => q t _ (same_upd nt) ?_⟩
      unfold Tup2
      rw [upd_same, e1]
      unfold jr
      rw [if_pos e1]
    · have e1 : jm a ra b rb ≠ 0 := fun z => e (decide_eq_true (by rw [← z]; rfl))
      have e2 : 0 < jm a ra b rb := by
        have : 0 ≤ jm a ra b rb := Int.natCast_nonneg _
        omega
      refine ⟨_, rfl, _, rfl, _, rfl, ra, _, rfl, rfl, e2, by show 2 ≤ sizeLine; decide, fun t nt => q t _ (same_upd nt) ?_⟩
      unfold Tup2
      rw [upd_same]
      unfold jr
      rw [if_neg e1]
      rfl
theorem ok_join {f : Addr} {fd : FuncData} {k : Nat} (F : FnP K "join" "Rests.join" s_Rests_join f fd) (C_common_rest : Cal P w K mg base CX0 "common_rest" k ["one", "other"] (fun vs H Q _ => ∃ (p r : Addr) (a ra b rb : Int), vs = [.ref p, .ref r] ∧ Tup2 H p a ra ∧ Tup2 H r b rb ∧ ∀ (t : Addr) (H' : Hp), Same H H' → Tup2 H' t (jm a ra b rb) (jr a ra b rb) → Q (.ref t) H')) :
    FnOk P w K mg base CX0 (k + 1) f fd ["self", "one", "other"] spJoin := by
  obtain ⟨f_common_rest, fd_common_rest, G_common_rest, b_common_rest, m_common_rest, k_common_rest⟩ := C_common_rest
  refine F.ok sc_Rests_join (fun vs H Q E h => ?_) (fun cdv A outer s H vs Q E hr h => ?_)
  · obtain ⟨m, p, r, a, ra, b, rb, n, rfl, _⟩ := h
    rfl
  · obtain ⟨m, p, r, a, ra, b, rb, n, rfl, hp, hr2, _, _, _, q⟩ := h
    refine ⟨_, pss_one (ps_ret (pe_call G_common_rest (hr.mono (by omega)) (by rfl) m_common_rest k_common_rest b_common_rest .nil pass0 (pa_cons (pv 1) (pa_cons (pv 2) pa_nil)))), ?_⟩
    exact ⟨_, rfl, _, rfl, p, r, a, ra, b, rb, rfl, hp, hr2, q⟩
theorem ok_consistent {f : Addr} {fd : FuncData} {k : Nat} (F : FnP K "consistent" "Rests.consistent" s_Rests_consistent f fd) (C_common_divisor : Cal P w K mg base CX0 "common_divisor" k ["one", "other"] spGcd) :
    FnOk P w K mg base CX0 (k + 1) f fd ["self", "label", "question"] spCons := by
  obtain ⟨f_common_divisor, fd_common_divisor, G_common_divisor, b_common_divisor, m_common_divisor, k_common_divisor⟩ := C_common_divisor
  refine F.ok sc_Rests_consistent (fun vs H Q E h => ?_) (fun cdv A outer s H vs Q E hr h => ?_)
  · obtain ⟨m, p, r, a, ra, b, s, n, rfl, _⟩ := h
    rfl
  · obtain ⟨m, p, r, a, ra, b, s, n, rfl, hp, hr2, _, b0, _, _, _, _, q⟩ := h
    refine ⟨_, PSs.nox (pss_cons (ps_set (i := 3) sc_Rests_consistent.nd rfl (.inl rfl) (pe_call G_common_divisor (hr.mono (by omega)) (by rfl) m_common_divisor k_common_divisor b_common_divisor .nil pass0 (pa_cons (pe_ix ix_tup (pv 1) pe_int (fun _ _ => rfl)) (pa_cons (pe_ix ix_tup (pv 2) pe_int (fun _ _ => rfl)) pa_nil))))
    (pss_one (ps_ret (pe_cmpR op_eq (pe_op op_mod (pe_op op_sub (pe_ix ix_tup (pv 1) pe_int (fun _ _ => rfl)) (pe_ix ix_tup (pv 2) pe_int (fun _ _ => rfl))) (pv 3)) pe_int (nomark _))))), ?_⟩
    refine ⟨_, rfl, p, _, 0, _, rfl, rfl, .inl (.inl hp), rfl, _, rfl, r, _, 0, _, rfl, rfl, .inl (.inl hr2), rfl, a, b, rfl, ?_⟩
    have g0 : (0 : Int) < (Int.gcd a b : Int) := by
      have : 0 < Int.gcd a b := Int.gcd_pos_of_ne_zero_right a (by omega)
      omega
    refine ⟨_, rfl, p, _, 1, _, rfl, rfl, .inl (.inl hp), rfl, _, rfl, r, _, 1, _, rfl, rfl, .inl (.inl hr2), rfl, ra, s, rfl, rfl, _, rfl, ra - s, _, rfl, rfl, g0, rfl, ?_⟩
    have e : decide (V.int ((ra - s) % (Int.gcd a b : Int)) = V.int 0) = decide ((Int.gcd a b : Int) ∣ ra - s) :=
      decide_eq_decide.mpr ⟨fun z => Int.dvd_of_emod_eq_zero (V.int.inj z), fun z => by rw [Int.emod_eq_zero_of_dvd z]⟩
    have z := q H (Same.refl H)
    rw [← e] at z
    exact z
theorem ok_matches {f : Addr} {fd : FuncData} {k : Nat} (F : FnP K "matches" "Rests.matches" s_Rests_matches f fd) : FnOk P w K mg base CX0 (k + 1) f fd ["self", "key", "question"] spMat := by
  refine F.ok sc_Rests_matches (fun vs H Q E h => ?_) (fun cdv A outer s H vs Q E hr h => ?_)
  · obtain ⟨m, r, n, b, s, rfl, _⟩ := h
    rfl
  · obtain ⟨m, r, n, b, s, rfl, hr2, b0, _, _, q⟩ := h
    refine ⟨_, pss_one (ps_ret (pe_cmpR op_eq (pe_op op_mod (pv 1) (pe_ix ix_tup (pv 2) pe_int (fun _ _ => rfl))) (pe_ix ix_tup (pv 2) pe_int (fun _ _ => rfl)) (nomark _))), ?_⟩
    refine ⟨_, rfl, _, rfl, r, _, 0, _, rfl, rfl, .inl (.inl hr2), rfl, n, b, rfl, rfl, b0, _, rfl, r, _, 1, _, rfl, rfl, .inl (.inl hr2), rfl, rfl, ?_⟩
    have e : decide (V.int (n % b) = V.int s) = decide (n % b = s) := decide_eq_decide.mpr ⟨fun z => V.int.inj z, fun z => by rw [z]⟩
    have z := q H (Same.refl H)
    rw [← e] at z
    exact z
theorem ok_penalty {C f : Addr} {fd : FuncData} {k : Nat} (F : FnP K "penalty" "Rests.penalty" s_Rests_penalty f fd) (C_common_rest : Cal P w K mg base CX0 "common_rest" k ["one", "other"] (fun vs H Q _ => ∃ (p r : Addr) (a ra b rb : Int), vs = [.ref p, .ref r] ∧ Tup2 H p a ra ∧ Tup2 H r b rb ∧ ∀ (t : Addr) (H' : Hp), Same H H' → Tup2 H' t (jm a ra b rb) (jr a ra b rb) → Q (.ref t) H')) :
    FnOk P w K mg base CX0 (k + 1) f fd ["self", "label", "key"] (spPen C) := by
  obtain ⟨f_common_rest, fd_common_rest, G_common_rest, b_common_rest, m_common_rest, k_common_rest⟩ := C_common_rest
  refine F.ok sc_Rests_penalty (fun vs H Q E h => ?_) (fun cdv A outer s H vs Q E hr h => ?_)
  · obtain ⟨m, dx, p, a, ra, z, n, rfl, _⟩ := h
    rfl
  · obtain ⟨m, dx, p, a, ra, z, n, rfl, hm, hp, _, _, _, q⟩ := h
    refine ⟨_, pss_one (ps_ret (pe_ifExp (pt_cmpR (EQ.op_eqI2 hr.units) (pe_call G_common_rest (hr.mono (by omega)) (by rfl) m_common_rest k_common_rest b_common_rest .nil pass0 (pa_cons (pv 1) (pa_cons (pe_tup (pa_cons pe_int (pa_cons (pv 2) pa_nil))) pa_nil))) (pv 1) (nomark _)) pe_int pe_int)), ?_⟩
    refine ⟨_, rfl, _, rfl, by show 2 ≤ sizeLine; decide, fun t nt => ⟨p, t, a, ra, 0, z, rfl, same_upd nt _ _ hp, upd_same, fun u H2 s2 hu => ?_⟩⟩
    have s3 := (same_upd (o := .tup [V.int 0, V.int z]) nt).trans s2
    have z2 := q H2 s3
    refine ⟨_, rfl, u, p, _, _, _, _, rfl, rfl, .inl (.inl hu), .inl (.inl (s3 _ _ hp)), _, rfl, ite2 (fun e => ?_) (fun e => ?_)⟩
    · rw [if_pos (of_decide_eq_true e)] at z2
      exact z2
    · rw [if_neg (fun h => e (decide_eq_true h))] at z2
      exact z2
end RS
end
end K16
set_option Elab.async false
set_option linter.all false
set_option maxRecDepth 100000
set_option maxHeartbeats 2000000
namespace K16
open PySem PySem.Spec PyProof.Rows L2 CM DN GR
section
variable {P : Program} {w : World} {K : PySem.W.Frag} {mg : Str → Option Value} {base : Heap}
/-! ### Stems, Signs -/
namespace ST
def spOwn : Sp := fun vs H Q _ => ∃ (m : Addr) (v : V), vs = [.ref m, v] ∧ Q v H
theorem ok_own {f : Addr} {fd : FuncData} {k : Nat} (F : FnP K "own" "Stems.own" s_Stems_own f fd) : FnOk P w K mg base CX0 (k + 1) f fd ["self", "key"] spOwn := by
  refine F.ok sc_Stems_own (fun vs H Q E h => ?_) (fun cdv A outer s H vs Q E hr h => ?_)
  · obtain ⟨m, v, rfl, _⟩ := h
    rfl
  · obtain ⟨m, v, rfl, q⟩ := h
    exact ⟨_, PSs.nox (pss_one (ps_ret (pv 1))), _, rfl, q⟩
end ST
namespace SG
open WD
/-- bit k is the sign of one of these -/
def hasB (ns : List Int) (w : Nat) (k : Nat) : Bool := ns.any fun n => decide (n % (w : Int) = (k : Int))
def isL (ns : List Int) : List V := ns.map V.int
theorem hasB_snoc (ns : List Int) (n : Int) (w k : Nat) : hasB (ns ++ [n]) w k = (hasB ns w k || decide (n % (w : Int) = (k : Int))) := by
  unfold hasB
  rw [List.any_append]
  simp
theorem hasB_app (ns ms : List Int) (w k : Nat) : hasB (ns ++ ms) w k = (hasB ns w k || hasB ms w k) := by
  unfold hasB
  rw [List.any_append]
theorem mod_nat {n : Int} {w : Nat} (hw : 0 < w) : ∃ j : Nat, n % (w : Int) = (j : Int) ∧ j < w := by
  have h0 : (0 : Int) ≤ n % (w : Int) := Int.emod_nonneg _ (by omega)
  have h1 : n % (w : Int) < (w : Int) := Int.emod_lt_of_pos _ (by omega)
  exact ⟨(n % (w : Int)).toNat, by omega, by omega⟩
theorem take_snoc {ns : List Int} {i : Nat} {v : V} (h : (isL ns)[i]? = some v) : ∃ n, v = .int n ∧ ns.take (i + 1) = ns.take i ++ [n] := by
  unfold isL at h
  rw [List.getElem?_map] at h
  cases e : ns[i]? with
  | none => rw [e] at h; cases h
  | some n =>
    rw [e] at h
    cases h
    refine ⟨n, rfl, ?_⟩
    rw [List.take_add_one, e]
    rfl
def spSigns (K : PySem.W.Frag) : Sp := fun vs H Q _ => ∃ (a : Addr) (ns : List Int) (w : Nat), vs = [.ref a, .int (w : Int)] ∧ SqT K H a (isL ns) ∧ 0 < w ∧ w ≤ 60 ∧ Q (.int (BI.mk (hasB ns w) w : Nat)) H
theorem ok_signs {f : Addr} {fd : FuncData} {k : Nat} (F : FnP K "signs_of" "signs_of" s_signs_of f fd) : FnOk P w K mg base CX0 (k + 1) f fd ["numbers", "bits"] (spSigns K) := by
  refine F.ok sc_signs_of (fun vs H Q E h => ?_) (fun cdv A outer s H vs Q E hr h => ?_)
  · obtain ⟨a, ns, w, rfl, _⟩ := h
    rfl
  · obtain ⟨a, ns, w, rfl, ha, hw, hw2, q⟩ := h
    refine ⟨_, PSs.nox (pss_cons (ps_set (i := 2) sc_signs_of.nd rfl (.inl rfl) pe_int)
    (pss_cons (ps_for PassesOwn.never rfl (pi_tup (pv 0)) (pg_name (i := 3) sc_signs_of.nd rfl (.inl rfl))
      (pss_one (ps_set (i := 2) sc_signs_of.nd rfl (.inl rfl) (pe_op BI.op_orN (pv 2) (pe_op op_oneShl pe_int (pe_op op_mod (pv 3) (pv 1)))))))
    (pss_one (ps_ret (pv 2))))), ?_⟩
    refine ⟨_, rfl, a, rfl, ⟨_, ha⟩, for_tup (xs := isL ns) (fun i σ H' => H' = H ∧ ∃ v3 : Option V, σ = [some (.ref a), some (.int (w : Int)), some (.int (BI.mk (hasB (ns.take i) w) w : Nat)), v3]) ⟨rfl, none, ?_⟩ ?_ ?_ ?_⟩
    · have e : BI.mk (hasB (ns.take 0) w) w = 0 := by
        rw [List.take_zero]
        exact BI.mk_none
      rw [e]
      rfl
    · rintro i σ H' _ ⟨rfl, _⟩
      exact ha
    · rintro i v σ H' hv ⟨rfl, v3, rfl⟩
      obtain ⟨n, rfl, ht⟩ := take_snoc hv
      obtain ⟨j, hj, jw⟩ := mod_nat (n := n) hw
      refine ⟨_, rfl, _, rfl, _, rfl, n, _, rfl, rfl, (by show (0 : Int) < (w : Int); omega), j, rfl, ?_, by omega, _, 2 ^ j, rfl, ?_, ?_⟩
      · dsimp only
        rw [hj]
      · show V.int (2 ^ j) = V.int ((2 ^ j : Nat) : Int)
        rw [Int.natCast_pow]
        rfl
      · refine ⟨rfl, some (.int n), ?_⟩
        have e : BI.mk (hasB (ns.take i) w) w ||| 2 ^ j = BI.mk (hasB (ns.take (i + 1)) w) w := by
          rw [BI.mk_put jw]
          refine BI.mk_ext fun b _ => ?_
          rw [ht, hasB_snoc, hj]
          congr 1
          exact decide_eq_decide.mpr ⟨fun z => by rw [z], fun z => (Int.ofNat.inj z).symm⟩
        dsimp only
        rw [e]
        rfl
    · rintro σ H' ⟨rfl, v3, rfl⟩
      refine ⟨_, rfl, ?_⟩
      have e : ns.take (isL ns).length = ns := List.take_of_length_le (by unfold isL; rw [List.length_map]; exact Nat.le_refl _)
      rw [e]
      exact q
def spCount (K : PySem.W.Frag) : Sp := fun vs H Q _ => ∃ n : Nat, vs = [.int (n : Int)] ∧ n < 2 ^ 100 ∧ ∀ (L : Nat) (H' : Hp), n < 2 ^ L → Same H H' → Q (.int (BI.cnt (fun k => n.testBit k) L : Nat)) H'
theorem bit_val (n k : Nat) : (n / 2 ^ k) &&& 1 = if n.testBit k then 1 else 0 := by
  rw [Nat.and_one_is_mod, Nat.testBit_eq_decide_div_mod_eq]
  by_cases h : n / 2 ^ k % 2 = 1
  · simp [h]
  · have : n / 2 ^ k % 2 = 0 := by omega
    simp [this]
theorem intBits_nat (n : Nat) : n < 2 ^ Builtin.Int.intBits (n : Int) := (intBits_le_iff (x := (n : Int))).mp (Nat.le_refl _)
theorem sum_bits (g : Nat → Bool) : ∀ L : Nat, ((List.range L).map fun k => if g k then (1 : Int) else 0).sum = (BI.cnt g L : Int)
  | 0 => rfl
  | L + 1 => by
    rw [List.range_succ, List.map_append, List.sum_append, sum_bits g L, BI.cnt_succ]
    cases h : g L <;> simp [h]
theorem ok_count {f : Addr} {fd : FuncData} {k : Nat} (F : FnP K "bits_in" "bits_in" s_bits_in f fd) (m_sum : mg "sum" = none) (m_range : mg "range" = none) : FnOk P w K mg base CX0 (k + 1) f fd ["number"] (spCount K) := by
  refine F.ok sc_bits_in (fun vs H Q E h => ?_) (fun cdv A outer s H vs Q E hr h => ?_)
  · obtain ⟨n, rfl, _⟩ := h
    rfl
  · obtain ⟨n, rfl, hn, q⟩ := h
    refine ⟨_, pss_one (ps_ret (pe_callB (cr_sum rfl) (by rfl) m_sum (by decide +kernel) (pa_cons (pe_lc (own := [("at", 1)]) rfl sc_bits_in.nd (pi_range1 (by rfl) m_range (pa_cons (pe_bits (pv 0)) pa_nil)) (blkOk_by (N := n_bits_in) (sc := defScope s_bits_in) (by decide +kernel)) (fun _ _ _ _ _ => pg_name (i := 1) sc_bits_in.nd rfl (.inl rfl)) (fun _ _ _ _ _ => pts_nil) (fun _ _ _ _ _ => (pe_op BI.op_andN (pe_op op_shrN (pv 0) (pv 1)) pe_int))) pa_nil))), ?_⟩
    generalize hL : Builtin.Int.intBits (n : Int) = L
    have l1 : n < 2 ^ L := by
      rw [← hL]
      exact intBits_nat n
    have l2 : L ≤ 100 := by
      rw [← hL]
      exact intBits_le_iff.mpr (by rw [Int.natAbs_natCast]; exact hn)
    refine ⟨_, rfl, _, rfl, ?_⟩
    rw [hL]
    refine ⟨_, rfl, by omega, by omega, fun D nD => ?_⟩
    rw [Int.toNat_natCast]
    refine lc_range (lo := 0) (n := L) (fun j H' => H' D = some (.lst (((List.range j).map fun k => if n.testBit k then (1 : Int) else 0).map V.int)) ∧ Same H H') ⟨upd_same, same_upd nD⟩ ?_ ?_
    · rintro j H1 hj ⟨hD, s1⟩
      refine ⟨rfl, _, rfl, _, rfl, (n : Int), j, rfl, by rw [Int.zero_add], n / 2 ^ j, 1, ?_, rfl, _, hD, ?_, ?_, same_put s1 nD⟩
      · show V.int ((n : Int) / 2 ^ j) = V.int ((n / 2 ^ j : Nat) : Int)
        congr 1
      · rw [List.length_map, List.length_map, List.length_range]
        exact small1000 (by omega)
      · dsimp only
        rw [upd_same, bit_val, List.range_succ, List.map_append, List.map_append]
        congr 3
        cases h : n.testBit j <;> simp [h]
    · rintro H1 ⟨hD, s1⟩
      refine ⟨D, _, rfl, .inl (.inl hD), ?_⟩
      rw [sum_bits]
      exact q L H1 l1 s1
/-- a Signs of w bits -/
def Sg (C : Addr) (w : Nat) (H : Hp) (m : Addr) : Prop := ∃ dx, H m = some (.ins C dx [("bits", .int (w : Int))])
theorem Sg.same {C m : Addr} {w : Nat} {H H' : Hp} (h : Sg C w H m) (s : Same H H') : Sg C w H' m := let ⟨dx, e⟩ := h; ⟨dx, s _ _ e⟩
def spOwn (K : PySem.W.Frag) (C : Addr) : Sp := fun vs H Q _ => ∃ (m a : Addr) (ns : List Int) (w : Nat), vs = [.ref m, .ref a] ∧ Sg C w H m ∧ SqT K H a (isL ns) ∧ 0 < w ∧ w ≤ 60 ∧ Q (.int (BI.mk (hasB ns w) w : Nat)) H
def spJoin : Sp := fun vs H Q _ => ∃ (m : Addr) (x y : Nat), vs = [.ref m, .int (x : Int), .int (y : Int)] ∧ Q (.int ((x ||| y : Nat) : Int)) H
def spCons (K : PySem.W.Frag) (C : Addr) : Sp := fun vs H Q _ => ∃ (m a : Addr) (x : Nat) (ns : List Int) (w : Nat), vs = [.ref m, .int (x : Int), .ref a] ∧ Sg C w H m ∧ SqT K H a (isL ns) ∧ 0 < w ∧ w ≤ 60 ∧
  Q (.bl (decide (x &&& BI.mk (hasB ns w) w = BI.mk (hasB ns w) w))) H
def spMat (K : PySem.W.Frag) : Sp := fun vs H Q _ => ∃ (m a b : Addr) (ns ms : List Int), vs = [.ref m, .ref a, .ref b] ∧ SqT K H a (isL ns) ∧ SqT K H b (isL ms) ∧ ms.length ≤ 1000 ∧ ∀ H', Same H H' → Q (.bl (ms.all fun n => decide (n ∈ ns))) H'
def spPen (K : PySem.W.Frag) (C : Addr) : Sp := fun vs H Q _ => ∃ (m a : Addr) (g : Nat → Bool) (ns : List Int) (w : Nat), vs = [.ref m, .int (BI.mk g w : Nat), .ref a] ∧ Sg C w H m ∧ SqT K H a (isL ns) ∧ 0 < w ∧ w ≤ 60 ∧
  ∀ H', Same H H' → Q (.int (BI.cnt (fun k => (g k || hasB ns w k) && !g k) w : Nat)) H'
theorem ok_own {C f : Addr} {fd : FuncData} {k : Nat} (F : FnP K "own" "Signs.own" s_Signs_own f fd) (cl : Cls K C) (nb : NoAttr K C "bits") (C_signs_of : Cal P w K mg base CX0 "signs_of" k ["numbers", "bits"] (spSigns K)) :
    FnOk P w K mg base CX0 (k + 1) f fd ["self", "key"] (spOwn K C) := by
  obtain ⟨f_signs_of, fd_signs_of, G_signs_of, b_signs_of, m_signs_of, k_signs_of⟩ := C_signs_of
  refine F.ok sc_Signs_own (fun vs H Q E h => ?_) (fun cdv A outer s H vs Q E hr h => ?_)
  · obtain ⟨m, a, ns, w, rfl, _⟩ := h
    rfl
  · obtain ⟨m, a, ns, w, rfl, ⟨dx, hm⟩, ha, h1, h2, q⟩ := h
    refine ⟨_, pss_one (ps_ret (pe_call G_signs_of (hr.mono (by omega)) (by rfl) m_signs_of k_signs_of b_signs_of .nil pass0 (pa_cons (pv 1) (pa_cons (pe_fld (pv 0) rfl) pa_nil)))), ?_⟩
    exact ⟨_, rfl, _, rfl, m, C, dx, _, _, rfl, hm, cl, nb, rfl, a, ns, w, rfl, ha, h1, h2, q⟩
theorem ok_join {f : Addr} {fd : FuncData} {k : Nat} (F : FnP K "join" "Signs.join" s_Signs_join f fd) : FnOk P w K mg base CX0 (k + 1) f fd ["self", "one", "other"] spJoin := by
  refine F.ok sc_Signs_join (fun vs H Q E h => ?_) (fun cdv A outer s H vs Q E hr h => ?_)
  · obtain ⟨m, x, y, rfl, _⟩ := h
    rfl
  · obtain ⟨m, x, y, rfl, q⟩ := h
    refine ⟨_, pss_one (ps_ret (pe_op BI.op_orN (pv 1) (pv 2))), ?_⟩
    exact ⟨_, rfl, _, rfl, x, y, rfl, rfl, q⟩
theorem ok_penalty {C f : Addr} {fd : FuncData} {k : Nat} (F : FnP K "penalty" "Signs.penalty" s_Signs_penalty f fd) (cl : Cls K C) (nb : NoAttr K C "bits") (C_signs_of : Cal P w K mg base CX0 "signs_of" k ["numbers", "bits"] (spSigns K))
    (C_bits_in : Cal P w K mg base CX0 "bits_in" k ["number"] (spCount K)) : FnOk P w K mg base CX0 (k + 1) f fd ["self", "label", "key"] (spPen K C) := by
  obtain ⟨f_signs_of, fd_signs_of, G_signs_of, b_signs_of, m_signs_of, k_signs_of⟩ := C_signs_of
  obtain ⟨f_bits_in, fd_bits_in, G_bits_in, b_bits_in, m_bits_in, k_bits_in⟩ := C_bits_in
  refine F.ok sc_Signs_penalty (fun vs H Q E h => ?_) (fun cdv A outer s H vs Q E hr h => ?_)
  · obtain ⟨m, a, g, ns, w, rfl, _⟩ := h
    rfl
  · obtain ⟨m, a, g, ns, w, rfl, ⟨dx, hm⟩, ha, h1, h2, q⟩ := h
    refine ⟨_, pss_one (ps_ret (pe_call G_bits_in (hr.mono (by omega)) (by rfl) m_bits_in k_bits_in b_bits_in .nil pass0 (pa_cons (pe_op BI.op_xorN (pv 1) (pe_op BI.op_orN (pv 1) (pe_call G_signs_of (hr.mono (by omega)) (by rfl) m_signs_of k_signs_of b_signs_of .nil pass0 (pa_cons (pv 2) (pa_cons (pe_fld (pv 0) rfl) pa_nil))))) pa_nil))), ?_⟩
    have up : ∀ k, g k = true → (g k || hasB ns w k) = true := fun k hk => by rw [hk]; rfl
    refine ⟨_, rfl, _, rfl, _, rfl, _, rfl, m, C, dx, _, _, rfl, hm, cl, nb, rfl, a, ns, w, rfl, ha, h1, h2, _, _, rfl, rfl, BI.mk g w, BI.mk (fun k => g k || hasB ns w k) w, BI.mk (fun k => (g k || hasB ns w k) && !g k) w, rfl, ?_, ?_, ?_, BI.mk_more up w, ?_⟩
    · dsimp only
      rw [BI.mk_or]
    · rw [BI.mk_or]
      refine BI.mk_ext fun k _ => ?_
      cases g k <;> simp
    · rw [BI.mk_and]
      refine BI.mk_ext fun k _ => ?_
      cases g k <;> simp
    · refine ⟨_, rfl, ?_, fun L H' l1 s1 => ?_⟩
      · exact Nat.lt_of_lt_of_le (BI.mk_lt _ w) (Nat.pow_le_pow_right (by decide) (by omega))
      · rw [BI.cnt_mk l1]
        exact q H' s1
def spMake (C : Addr) : Sp := fun vs H Q _ => ∃ (x dx : Addr) (n : Nat), vs = [.ref x, .int (n : Int)] ∧ H x = some (.ins C dx []) ∧ 1 ≤ n ∧ n ≤ 60 ∧ Q .non (upd H x (.ins C dx [("bits", .int (n : Int))]))
abbrev FunS (K : PySem.W.Frag) (f : Addr) (fd : FuncData) : Prop := FunD K "__init__" "Signs.__init__" (defArgs s_Signs___init) (defBody s_Signs___init) (defScope s_Signs___init) [V.int 8] [] f fd
theorem ok_make {C f : Addr} {fd : FuncData} {k : Nat} (F : FunS K f fd) (cl : Cls K C) (nb : NoAttr K C "bits") (m_MOST_BITS : ∃ t, mg "MOST_BITS" = some (.int 60 t)) (C_is_int : Cal P w K mg base CX0 "is_int" k ["thing"] (spInt K)) : FnOk P w K mg base CX0 (k + 1) f fd ["self", "width"] (spMake C) := by
  obtain ⟨f_is_int, fd_is_int, G_is_int, b_is_int, m_is_int, k_is_int⟩ := C_is_int
  obtain ⟨tM, m_MOST_BITS⟩ := m_MOST_BITS
  refine F.ok sc_Signs___init (fun vs H Q E h => ?_) (fun cdv A outer s H vs Q E hr h => ?_)
  · obtain ⟨x, dx, n, rfl, _⟩ := h
    rfl
  · obtain ⟨x, dx, n, rfl, hx, n1, n2, q⟩ := h
    refine ⟨_, PSs.nox (pss_cons (ps_if (PW.pt (pw_or (pt_not (pt_val (pe_call G_is_int (hr.mono (by omega)) (by rfl) m_is_int k_is_int b_is_int .nil pass0 (pa_cons (pv 1) pa_nil)))) (pw_or1 (pt_not (pt_chain op_le op_le pe_int (pv 1) (pe_glob (v := .int 60) (by rfl) m_MOST_BITS ⟨_, rfl⟩)))))) (pss_one (ps_never)) (pss_nil))
    (pss_one (ps_fld (pv 0) (pv 1) rfl))), ?_⟩
    have ti : TyX K H (V.int (n : Int)) (.type "int") := .base (.int _)
    refine ⟨_, rfl, _, _, true, false, rfl, ti, kit_ty (by decide +kernel), fun _ => kit_ty (by decide +kernel), true, rfl, iteF ?_⟩
    refine ⟨_, rfl, 1, (n : Int), rfl, rfl, _, rfl, ite2 (fun _ => ⟨(n : Int), 60, rfl, rfl, _, rfl, ite2 (fun e => ?_) (fun _ => ?_)⟩) (fun e => absurd (decide_eq_true (show (1 : Int) ≤ (n : Int) by omega)) e)⟩
    · rw [decide_eq_true (show (n : Int) ≤ 60 by omega)] at e
      cases e
    · exact ⟨_, rfl, _, rfl, x, C, dx, [], rfl, hx, cl, nb, by decide, q⟩
end SG
end
end K16
set_option Elab.async false
set_option linter.all false
set_option maxRecDepth 100000
set_option maxHeartbeats 2000000
namespace K16
open PySem PySem.Spec PyProof.Rows L2 CM DN GR
section
variable {P : Program} {w : World} {K : PySem.W.Frag} {mg : Str → Option Value} {base : Heap}
/-! ### small defs of the law -/
def spSpan : Sp := fun vs H Q _ => ∃ (p : Addr) (x c : Int), vs = [.ref p] ∧ H p = some (.lst [.int x, .int c]) ∧
  ∀ (t : Addr) (H' : Hp) (x' c' lo hi : Int), Kp p H H' → H' p = some (.lst [.int x', .int c']) → H' t = some (.tup [.int lo, .int hi]) → -20 ≤ lo → lo ≤ hi → hi ≤ 31 → Q (.ref t) H'
theorem ok_span {f : Addr} {fd : FuncData} {k : Nat} (F : FnP K "_law_span" "_law_span" s_law_span f fd) (C_draw : Cal P w K mg base CX0 "_law_draw" k ["_law_well_here", "_law_many"] spDraw) : FnOk P w K mg base CX0 (k + 1) f fd ["_law_well_here"] spSpan := by
  obtain ⟨f_law_draw, fd_law_draw, G_law_draw, b_law_draw, m_law_draw, k_law_draw⟩ := C_draw
  refine F.ok sc_law_span (fun vs H Q E h => ?_) (fun cdv A outer s H vs Q E hr h => ?_)
  · obtain ⟨p, x, c, rfl, _⟩ := h
    rfl
  · obtain ⟨p, x, c, rfl, hp, q⟩ := h
    refine ⟨_, pss_cons (ps_set (i := 1) sc_law_span.nd rfl (.inl rfl) (pe_op op_sub (pe_call G_law_draw (hr.mono (by omega)) (by rfl) m_law_draw k_law_draw b_law_draw .nil pass0 (pa_cons (pv 0) (pa_cons pe_int pa_nil))) pe_int))
    (pss_one (ps_ret (pe_tup (pa_cons (pv 1) (pa_cons (pe_op op_add (pv 1) (pe_call G_law_draw (hr.mono (by omega)) (by rfl) m_law_draw k_law_draw b_law_draw .nil pass0 (pa_cons (pv 0) (pa_cons pe_int pa_nil)))) pa_nil))))), ?_⟩
    refine ⟨_, rfl, p, x, c, 41, rfl, hp, by decide, .of (k := 10) (by decide) (by decide), fun r x1 c1 r0 r1 => ?_⟩
    refine ⟨r, 20, rfl, rfl, ?_⟩
    refine ⟨_, rfl, _, rfl, _, rfl, p, x1, c1, 12, rfl, upd_same, by decide, .of (k := 10) (by decide) (by decide), fun r2 x2 c2 s0 s1 => ?_⟩
    refine ⟨_, _, rfl, rfl, by show 2 ≤ sizeLine; decide, fun t nt => ?_⟩
    have k2 : Kp p H (upd (upd H p (.lst [.int x1, .int c1])) p (.lst [.int x2, .int c2])) := Kp.set.trans Kp.set
    have tp : p ≠ t := fun z => by
      rw [← z, upd_same] at nt
      cases nt
    exact q t _ x2 c2 _ _ (k2.trans (Kp.same (same_upd nt))) (by rw [upd_ne tp, upd_same]) upd_same (by omega) (by omega) (by omega)
theorem takes_len {X : Cx} {W : WX} (tk : Takes X W) : Takes X (fun c d σ H => σ.length = X.N.length → W c d σ H) := fun u s' ⟨a, B, sI, pins, σ, H, cls, d, e, I, nb, up, sky, na, os, ag, w⟩ =>
  tk u s' ⟨a, B, sI, pins, σ, H, cls, d, e, I, nb, up, sky, na, os, ag, w I.len⟩
/-- what is asked of NotGiven where it is caught and its name is read -/
structure NgF (K : PySem.W.Frag) (mg : Str → Option Value) (CN : Addr) : Prop where
  m : mg "NotGiven" = some (.ref CN)
  XF : XfC K CN
  nV : PySem.W.findIn K (.ref CN) "name" = some none
  te : PySem.W.exmOne K (.ref CN) (.ref CN) = some true
def TTn (CN : Addr) : (XK → Hp → VK → Prop) → Hp → VK → Prop := fun tl H Q => ∀ (E : XK) (Q' : VK), (∀ (d : Addr) (H' : Hp) (v : V), H' d = some (.xd [("name", v)]) → Q v H' → E (.ref CN) (some d) H') → tl E H Q'
theorem gives_name {X : Cx} {CN g : Addr} {cdg : Value} {q : Str} (nf : NgF X.K X.mg CN) : LamX.GivesTo X n_law_name_of "_law_name_of" (defScope s_law_name_of) g cdg (defBody s_law_name_of) "_law_ask_here" q (TTn CN) := by
  intro f c' s H Q tl hact hco h
  refine ⟨_, pss_cons (ps_try_as (i := 1) rfl rfl sc_law_name_of.nd rfl rfl ⟨rfl, by decide, .inl nf.m⟩ LamX.takes0
      (fun W pn xe tk _ => pss_one (ps_expr (hact _ pn xe (fun cls d H' => ∀ σ' : L2.St, σ'.length = 2 → W cls d σ' H') _ _ (takes_len tk) (fun cls d σ' H' hh hl => hh σ' hl))))
      (fun a oe cls d pn hz hf => pss_one (ps_ret (pe_xf nf.XF nf.nV hz hf (pv 1)))))
    (pss_one (ps_ret pe_non)), ?_⟩
  refine ⟨rfl, hco, h _ _ fun d H' v hd qq => ?_⟩
  intro σ' hl
  match σ', hl with
  | [v0, v1], _ =>
    refine ⟨true, nf.te, fun _ a na => ?_, fun e => by cases e⟩
    exact ⟨_, rfl, rfl, rfl, d, _, v, rfl, hd, rfl, qq⟩
end
end K16
set_option Elab.async false
set_option linter.all false
set_option maxRecDepth 100000
set_option maxHeartbeats 2000000
namespace K16
open PySem PySem.Spec PyProof.Rows L2 CM DN GR
section
variable {P : Program} {w : World} {K : PySem.W.Frag} {mg : Str → Option Value} {base : Heap}
/-! ### functions that are made -/
def retE (st : Stmt) : Expr := match (defBody st).getLast? with
  | some (.Return (some e) _) => e
  | _ => .Constant .none 0 ⟨0, 0, 0, 0⟩
def lamA : Expr → Arguments
  | .Lambda a _ _ _ => a
  | _ => defArgs s_law_well
def lamB : Expr → Expr
  | .Lambda _ b _ _ => b
  | e => e
def lamC : Expr → Scope
  | .Lambda _ _ c _ => c
  | _ => defScope s_law_well
abbrev wE : Expr := retE s_law_wider
def wNF (q : Str) (cl : List (Str × Addr)) (c' : Addr) : NdefX.NF := ⟨"<lambda>", q, lamA wE, [], lamC wE, cl, c'⟩
/-- the lambda of _law_wider, for the step n -/
def Wide (H : Hp) (f : Addr) (n : Int) : Prop := ∃ q cl c', CLO.Clo H f (wNF q cl c') (lamB wE) ["_law_step"] [.int n]
theorem Wide.ext {H H' : Hp} {f : Addr} {n : Int} (h : Wide H f n) (s : LamX.ExtN H H') : Wide H' f n := let ⟨q, cl, c', C⟩ := h; ⟨q, cl, c', C.ext s⟩
def spWider (K : PySem.W.Frag) : Sp := fun vs H Q _ => ∃ n : Int, vs = [.int n] ∧ LamX.Tabs (TT K) H ∧ ∀ (f : Addr) (H' : Hp), LamX.ExtN H H' → LamX.Tabs (TT K) H' → Wide H' f n → Q (.ref f) H'
theorem ok_wider {fd : FuncData} {k : Nat} (F : FnP K "_law_wider" "_law_wider" s_law_wider (He.fAd K ("_law_wider", none)) fd) (TB : LamX.TabB base mg (He.cT K ("_law_wider", none)).1 (He.cT K ("_law_wider", none)).2) (ds : Dst K) :
    FnOk P w K mg base CX0 (k + 1) (He.fAd K ("_law_wider", none)) fd ["_law_step"] (spWider K) := by
  refine CLO.okZ F sc_law_wider (fun vs H Q E h => ?_) (fun A outer s H vs Q E hr h => ?_)
  · obtain ⟨n, rfl, _⟩ := h
    rfl
  · obtain ⟨n, rfl, hT, q⟩ := h
    refine ⟨_, CLO.psz_ret (CLO.pe_lamV (T := TT K) TB rfl (List.mem_of_getElem? (i := 4) rfl) (tt_q ds (i := 4) rfl) rfl (NdefX.ndef_free (sc := defScope s_law_wider) (fr := []) (by decide +kernel))), hT, fun f c' H1 e1 nn t1 f0 f1 c1 Hz fz => ?_⟩
    refine q f Hz (e1.trans (SL.ExtN.of_same fz.same)) (SL.Tabs.same t1 fz.same) ⟨("_law_wider" ++ ".<locals>.") ++ "<lambda>", cloFrom (cellsFrom (s.heap.objs.size + 1) (defScope s_law_wider).names []) (lamC wE).names [], c', ?_⟩
    exact CLO.clo_of (js := [0]) fz (fz.same _ _ f1) (fz.same _ _ c1) (by decide +kernel) (by decide +kernel) rfl rfl
theorem nsc_wide : NdefX.NScope ["_law_span_here", "_law_step"] ["_law_span_here"] ["_law_step"] (lamC wE) := NdefX.nscope_by (by decide +kernel)
theorem wide_calls {H : Hp} {f t : Addr} {n lo hi : Int} {Q : VK} (W : Wide H f n) (ht : H t = some (.tup [.int lo, .int hi])) (n0 : 0 < n) (n1 : n < 1000) (l0 : -1000 < lo) (l1 : lo < 1000) (h0 : -1000 < hi) (h1 : hi < 1000)
    (q : ∀ (r : Addr) (H' : Hp), Same H H' → H' r = some (.tup [.int (lo / n * n), .int ((hi + n - 1) / n * n)]) → Q (.ref r) H') : CLO.CallsTo P w K mg base CX0 1 true f [.ref t] H Q E0 := by
  obtain ⟨q0, cl, c', C⟩ := W
  refine CLO.lam_calls (k := 0) nsc_wide C rfl (fun pm ctv us hu => ?_) (fun A outer s hr => ⟨_, (pe_tup (pa_cons (pe_op op_mul (pe_op op_fdiv (pe_ix ix_tup (pv 0) pe_int (fun _ _ => rfl)) (pv 1)) (pv 1)) (pa_cons (pe_op op_mul (pe_op op_fdiv (pe_op op_sub (pe_op op_add (pe_ix ix_tup (pv 0) pe_int (fun _ _ => rfl)) (pv 1)) pe_int) (pv 1)) (pv 1)) pa_nil))), ?_⟩)
  · match us, hu with
    | [u], _ => rfl
  · have ht2 : (CLO.hide H cl) t = some (.tup [.int lo, .int hi]) := C.cels.keep ht fun ob z => by unfold CLO.CelO at z; cases z
    refine ⟨_, rfl, t, _, 0, _, rfl, rfl, .inl (.inl ht2), rfl, _, rfl, _, _, rfl, rfl, ⟨n0, by omega⟩, _, rfl, _, _, rfl, rfl, .inr ⟨by omega, by omega⟩, ?_⟩
    refine ⟨_, rfl, t, _, 1, _, rfl, rfl, .inl (.inl ht2), rfl, _, rfl, _, _, rfl, rfl, _, _, rfl, rfl, _, rfl, _, _, rfl, rfl, ⟨n0, by omega⟩, _, rfl, _, _, rfl, rfl, .inr ⟨by omega, by omega⟩, ?_⟩
    refine ⟨by show 2 ≤ sizeLine; decide, fun r nr hz => ?_⟩
    have s1 := CLO.same_back (H := H) (cl := cl) (same_upd (o := .tup [.int (lo / n * n), .int ((hi + n - 1) / n * n)]) nr)
    refine q r _ s1 (CLO.at_back upd_same fun hb => ?_)
    have z := hz r hb
    rw [upd_same] at z
    cases z
end
end K16
set_option Elab.async false
set_option linter.all false
set_option maxRecDepth 100000
set_option maxHeartbeats 2000000
namespace K16
open PySem PySem.Spec PyProof.Rows L2 CM DN GR
section
variable {P : Program} {w : World} {K : PySem.W.Frag} {mg : Str → Option Value} {base : Heap}
/-! ### functions that note a word -/
def nSt : Stmt := (defBody s_law_noted).headD (.Pass ⟨0, 0, 0, 0⟩)
def nNF (q : Str) (cl : List (Str × Addr)) (c' : Addr) : NdefX.NF := NdefX.NF.of nSt "_law_ask" q cl c'
def Noted (H : Hp) (f l : Addr) (z : Str) (n : Int) : Prop := ∃ q cl c', CLO.CloN H f (nNF q cl c') ["_law_notes", "_law_word", "_law_number"] [.ref l, .str z, .int n]
theorem Noted.ext {H H' : Hp} {f l : Addr} {z : Str} {n : Int} (h : Noted H f l z n) (s : LamX.ExtN H H') : Noted H' f l z n := let ⟨q, cl, c', C⟩ := h; ⟨q, cl, c', C.ext s⟩
def spNoted (K : PySem.W.Frag) : Sp := fun vs H Q _ => ∃ (l : Addr) (z : Str) (n : Int), vs = [.ref l, .str z, .int n] ∧ LamX.Tabs (TT K) H ∧ ∀ (f : Addr) (H' : Hp), LamX.ExtN H H' → LamX.Tabs (TT K) H' → Noted H' f l z n → Q (.ref f) H'
theorem ok_noted {fd : FuncData} {k : Nat} (F : FnP K "_law_noted" "_law_noted" s_law_noted (He.fAd K ("_law_noted", none)) fd) (TB : LamX.TabB base mg (He.cT K ("_law_noted", none)).1 (He.cT K ("_law_noted", none)).2) (ds : Dst K) :
    FnOk P w K mg base CX0 (k + 1) (He.fAd K ("_law_noted", none)) fd ["_law_notes", "_law_word", "_law_number"] (spNoted K) := by
  refine CLO.okZ F sc_law_noted (fun vs H Q E h => ?_) (fun A outer s H vs Q E hr h => ?_)
  · obtain ⟨l, z, n, rfl, _⟩ := h
    rfl
  · obtain ⟨l, z, n, rfl, hT, q⟩ := h
    have hm : ((He.cT K ("_law_noted", none)).2, fun (_ _ : Nat) => (("_law_noted" ++ ".<locals>.") ++ "_law_ask" : Str)) ∈ (TT K).map (fun p => (p.1, fun (_ _ : Nat) => p.2)) := List.mem_map.mpr ⟨_, List.mem_of_getElem? (i := 6) rfl, rfl⟩
    have hu : ∀ p ∈ (TT K).map (fun p => (p.1, fun (_ _ : Nat) => p.2)), p.1 = (He.cT K ("_law_noted", none)).2 → p.2 = fun _ _ => (("_law_noted" ++ ".<locals>.") ++ "_law_ask" : Str) := fun p hp e => by
      obtain ⟨p0, h0, rfl⟩ := List.mem_map.mp hp
      have z := tt_q ds (i := 6) rfl p0 h0 e
      funext _ _
      exact z
    refine ⟨_, CLO.psz_cons (NdefX.ps_ndefMS (st := nSt) (i := 3) rfl TB rfl hm rfl hu (NdefX.ndef_free (sc := defScope s_law_noted) (fr := []) (by decide +kernel)) rfl rfl rfl sc_law_noted.nd rfl (.inl rfl) (.inr rfl)) (CLO.psz_ret (pv 3)), CLO.tabsN_of hT, fun f c' H1 e1 nn t1 f0 f1 c1 => ?_⟩
    refine ⟨_, rfl, fun Hz fz => q f Hz (e1.trans (SL.ExtN.of_same fz.same)) (SL.Tabs.same (CLO.tabs_of t1) fz.same) ⟨("_law_noted" ++ ".<locals>.") ++ "_law_ask", cloFrom (cellsFrom (s.heap.objs.size + 1) (defScope s_law_noted).names []) (C8.fnScope nSt).names [], c', ?_⟩⟩
    have g1 : ∀ y ∈ (C8.fnScope nSt).names, y.2 = .free → (defScope s_law_noted).names.lookup y.1 = some .cell := by decide +kernel
    have g2 : ∀ y ∈ (["_law_notes", "_law_word", "_law_number"] : List Str), (y, NameKind.free) ∈ (C8.fnScope nSt).names := by decide +kernel
    exact CLO.cloN_of (js := [0, 1, 2]) fz rfl (fz.same _ _ f1) (fz.same _ _ c1) g1 g2 rfl rfl
theorem nsc_ask : NdefX.NScope ["_law_a", "_law_b", "_law_notes", "_law_word", "_law_number"] ["_law_a", "_law_b"] ["_law_notes", "_law_word", "_law_number"] (C8.fnScope nSt) := NdefX.nscope_by (by decide +kernel)
def spAsk (ws : List (Option V)) : Sp := fun vs H Q _ => ∃ (l : Addr) (z : Str) (n : Int) (x y : V) (xs : List V), ws = [some (.ref l), some (.str z), some (.int n)] ∧ vs = [x, y] ∧ H l = some (.lst xs) ∧ xs.length < 1000 ∧ Q (.int n) (upd H l (.lst (xs ++ [.str z])))
theorem nok_ask {f c' : Addr} {q : Str} {cl : List (Str × Addr)} {k : Nat} : NdefX.NOk P w K mg base CX0 (k + 1) f (nNF q cl c') ["_law_a", "_law_b"] ["_law_notes", "_law_word", "_law_number"] spAsk := by
  refine NdefX.nok_of nsc_ask (fun doc pm ctv us hu => ?_) (fun ws vs H Q E h => ?_) (fun A outer s H vs ws Q E hr hf hc hl h => ?_)
  · match us, hu with
    | [u, v], _ => rfl
  · obtain ⟨l, z, n, x, y, xs, _, rfl, _⟩ := h
    rfl
  · obtain ⟨l, z, n, x, y, xs, rfl, rfl, h1, h2, q⟩ := h
    exact ⟨_, PSs.nox (pss_cons (ps_expr (pe_bm PySem.F.plainAttrs_list PySem.F.slot_list_append PySem.F.type_list_append mt_append (pv 2) (pa_cons (pv 3) pa_nil))) (pss_one (ps_ret (pv 4)))), ⟨_, rfl, .inl ⟨rfl, xs, .inl (.inl h1)⟩, _, rfl, l, xs, _, rfl, rfl, h1, small1000 (Nat.le_of_lt h2), _, rfl, q⟩⟩
theorem back_upd {H : Hp} {cl : List (Str × Addr)} {l : Addr} {o : HO} (h : l ∉ cl.map (·.2)) : CLO.back H cl (upd (CLO.hide H cl) l o) = upd H l o := by
  funext b
  by_cases hb : b ∈ cl.map (·.2)
  · rw [CLO.back_in hb, upd_ne (fun z => h (by rw [← z]; exact hb))]
  · rw [CLO.back_out hb]
    by_cases e : b = l
    · rw [e, upd_same, upd_same]
    · rw [upd_ne e, upd_ne e, CLO.hide_out hb]
theorem noted_calls {H : Hp} {f l : Addr} {z : Str} {n : Int} {x y : V} {xs : List V} {Q : VK} (N : Noted H f l z n) (h1 : H l = some (.lst xs)) (h2 : xs.length < 1000) (q : Q (.int n) (upd H l (.lst (xs ++ [.str z])))) :
    CLO.CallsTo P w K mg base CX0 1 true f [x, y] H Q E0 := by
  obtain ⟨q0, cl, c', C⟩ := N
  have nl : ∀ ob : Obj, HO.lst xs ≠ CLO.CelO ob := fun ob z => by unfold CLO.CelO at z; cases z
  refine CLO.fn_calls nok_ask C ⟨l, z, n, x, y, xs, rfl, rfl, C.cels.keep h1 nl, h2, fun _ => ?_⟩
  rw [back_upd (C.cels.out h1 nl)]
  exact q
/-- a maker of Calls with these keywords -/
structure MakeC (P : Program) (w : World) (K : PySem.W.Frag) (mg : Str → Option Value) (base : Heap) (C f : Addr) (fd : FuncData) (ks : List Str) (g : List Value → List Value → List Value) (gV : List V → List V → List V) : Prop where
  M : Mk K C f
  G : FnOk P w K mg base CX0 1 f fd ["self", "own", "join", "consistent", "matches", "penalty", "sides", "distance", "bound"] (spKInit C)
  m : mg "Calls" = some (.ref C)
  b : KBn K fd ["self", "own", "join", "consistent", "matches", "penalty", "sides", "distance", "bound"] 1 ks g gV
abbrev g7 : List V → List V → List V := fun us zs => us ++ zs.take 5 ++ [.non] ++ zs.drop 5
abbrev g4 : List V → List V → List V := fun us zs => us ++ zs ++ [.non, .non, .non, .non]
/-- a kind whose penalty, distance and bound note a word -/
def NoteK (CK : Addr) (H : Hp) (kd l : Addr) (z : Str) (n : Int) : Prop := ∃ (dx f : Addr) (o j c m : V), H kd = some (.ins CK dx (fs8 o j c m (.ref f) .non (.ref f) (.ref f))) ∧ Noted H f l z n
theorem NoteK.ext {CK kd l : Addr} {H H' : Hp} {z : Str} {n : Int} (h : NoteK CK H kd l z n) (s : LamX.ExtN H H') : NoteK CK H' kd l z n := let ⟨dx, f, o, j, c, m, e, N⟩ := h; ⟨dx, f, o, j, c, m, s _ _ e (fun ps z => by cases z), N.ext s⟩
def spNoting (K : PySem.W.Frag) (CK : Addr) : Sp := fun vs H Q _ => ∃ (l : Addr) (z : Str) (n : Int), vs = [.ref l, .str z, .int n] ∧ LamX.Tabs (TT K) H ∧ ∀ (kd : Addr) (H' : Hp), LamX.ExtN H H' → LamX.Tabs (TT K) H' → NoteK CK H' kd l z n → Q (.ref kd) H'
theorem ok_noting {CK fK : Addr} {fd fdK : FuncData} {k : Nat} {g : List Value → List Value → List Value} (F : FnP K "_law_noting" "_law_noting" s_law_noting (He.fAd K ("_law_noting", none)) fd) (TB : LamX.TabB base mg (He.cT K ("_law_noting", none)).1 (He.cT K ("_law_noting", none)).2) (ds : Dst K)
    (MC : MakeC P w K mg base CK fK fdK ["own", "join", "consistent", "matches", "penalty", "distance", "bound"] g g7) (C_noted : Cal P w K mg base CX0 "_law_noted" 1 ["_law_notes", "_law_word", "_law_number"] (spNoted K)) :
    FnOk P w K mg base CX0 (k + 2 + 1) (He.fAd K ("_law_noting", none)) fd ["_law_notes", "_law_word", "_law_number"] (spNoting K CK) := by
  obtain ⟨f_law_noted, fd_law_noted, G_law_noted, b_law_noted, m_law_noted, k_law_noted⟩ := C_noted
  refine SL.okC F sc_law_noting (fun vs H Q E h => ?_) (fun A outer s H vs Q E hr h => ?_)
  · obtain ⟨l, z, n, rfl, _⟩ := h
    rfl
  · obtain ⟨l, z, n, rfl, hT, q⟩ := h
    refine ⟨_, PSs.nox (pss_cons (ps_set (i := 3) sc_law_noting.nd rfl (.inl rfl) (pe_call G_law_noted (hr.mono (by omega)) (by rfl) m_law_noted k_law_noted b_law_noted .nil pass0 (pa_cons (pv 0) (pa_cons (pv 1) (pa_cons (pv 2) pa_nil)))))
    (pss_one (ps_ret (pe_makeK0 MC.M MC.G (hr.mono (by omega)) (by rfl) MC.m MC.b pass0 (pk_cons (CLO.pe_lamV (T := TT K) TB rfl (List.mem_of_getElem? (i := 3) rfl) (tt_q ds (i := 3) rfl) rfl (NdefX.ndef_free (sc := defScope s_law_noting) (fr := []) (by decide +kernel))) (pk_cons (CLO.pe_lamV (T := TT K) TB rfl (List.mem_of_getElem? (i := 3) rfl) (tt_q ds (i := 3) rfl) rfl (NdefX.ndef_free (sc := defScope s_law_noting) (fr := []) (by decide +kernel))) (pk_cons (CLO.pe_lamV (T := TT K) TB rfl (List.mem_of_getElem? (i := 3) rfl) (tt_q ds (i := 3) rfl) rfl (NdefX.ndef_free (sc := defScope s_law_noting) (fr := []) (by decide +kernel))) (pk_cons (CLO.pe_lamV (T := TT K) TB rfl (List.mem_of_getElem? (i := 3) rfl) (tt_q ds (i := 3) rfl) rfl (NdefX.ndef_free (sc := defScope s_law_noting) (fr := []) (by decide +kernel))) (pk_cons (pv 3) (pk_cons (pv 3) (pk_cons (pv 3) pk_nil))))))))))), ?_⟩
    refine ⟨_, rfl, _, rfl, _, rfl, l, z, n, rfl, hT, fun f H1 e1 t1 N1 => ?_⟩
    refine ⟨t1, fun f1 c1 H2 e2 _ t2 _ _ _ => ⟨t2, fun f2 c2 H3 e3 _ t3 _ _ _ => ⟨t3, fun f3 c3 H4 e4 _ t4 _ _ _ => ⟨t4, fun f4 c4 H5 e5 _ t5 _ _ _ => ?_⟩⟩⟩⟩
    refine ⟨_, rfl, _, rfl, _, rfl, rfl, rfl, fun x dx nx nd ne => ?_⟩
    refine ⟨x, dx, .ref f1, .ref f2, .ref f3, .ref f4, .ref f, .non, .ref f, .ref f, rfl, upd_same, rfl, ?_⟩
    have s6 : Same H5 (upd (upd (upd H5 dx (.own x)) x (.ins CK dx [])) x (.ins CK dx (fs8 (.ref f1) (.ref f2) (.ref f3) (.ref f4) (.ref f) .non (.ref f) (.ref f)))) := fun b o e => by
      have bx : b ≠ x := ne_of_none e nx
      have bd : b ≠ dx := ne_of_none e nd
      rw [upd_ne bx, upd_ne bx, upd_ne bd]
      exact e
    have e15 := ((e2.trans e3).trans e4).trans (e5.trans (SL.ExtN.of_same s6))
    exact q x _ (e1.trans e15) (SL.Tabs.same t5 s6) ⟨dx, f, .ref f1, .ref f2, .ref f3, .ref f4, upd_same, N1.ext e15⟩
end
end K16
set_option Elab.async false
set_option linter.all false
set_option maxRecDepth 100000
set_option maxHeartbeats 2000000
namespace K16
open PySem PySem.Spec PyProof.Rows L2 CM DN GR
section
variable {P : Program} {w : World} {K : PySem.W.Frag} {mg : Str → Option Value} {base : Heap}
/-! ### sums -/
/-- all but lists and tables stays -/
def KL (H H' : Hp) : Prop := ∀ b o, (∀ ys, o ≠ .lst ys) → (∀ ps, o ≠ .tbl ps) → H b = some o → H' b = some o
section
variable {H H1 H' : Hp} {p l : Addr} {xs : List V}
theorem KL.trans (x : KL H H1) (y : KL H1 H') : KL H H' := fun b o n m e => y b o n m (x b o n m e)
theorem KL.ext (x : LamX.ExtN H H') : KL H H' := fun b o _ m e => x b o e m
theorem KL.same (x : Same H H') : KL H H' := fun b o _ _ e => x b o e
theorem KL.kpn (h : H p = some (.lst xs)) (x : SL.KpN p H H') : KL H H' := fun b o n m e => x b o (fun z => by
  rw [z, h] at e
  exact n xs (Option.some.inj e).symm) m e
theorem KL.kp (h : H p = some (.lst xs)) (x : Kp p H H') : KL H H' := KL.kpn h (SL.KpN.of x)
theorem KL.set {o : HO} (h : H p = some (.lst xs)) : KL H (upd H p o) := KL.kp h Kp.set
theorem KL.tup {t : Addr} (x : KL H H') (e : H t = some (.tup xs)) : H' t = some (.tup xs) := x _ _ (fun _ z => by cases z) (fun _ z => by cases z) e
theorem KL.ins {t C dx : Addr} {fs : List (Str × V)} (x : KL H H') (e : H t = some (.ins C dx fs)) : H' t = some (.ins C dx fs) := x _ _ (fun _ z => by cases z) (fun _ z => by cases z) e
theorem KL.cel {c : Addr} {v : V} (x : KL H H') (h : CLO.CelAt H c v) : CLO.CelAt H' c v := let ⟨ob, u, e1, e2, e3⟩ := h; ⟨ob, u, x _ _ (fun _ z => by unfold CLO.CelO at z; cases z) (fun _ z => by unfold CLO.CelO at z; cases z) e1, e2, e3⟩
theorem KL.cels {cl : List (Str × Addr)} (x : KL H H') (h : CLO.Cels H cl) : CLO.Cels H' cl := fun p hp => let ⟨ob, v, e1, e2⟩ := h p hp; ⟨ob, v, x _ _ (fun _ z => by unfold CLO.CelO at z; cases z) (fun _ z => by unfold CLO.CelO at z; cases z) e1, e2⟩
theorem KL.code {c : Addr} {q : Str} (x : KL H H') (e : H c = some (LamX.CodeO c q)) : H' c = some (LamX.CodeO c q) := x _ _ (fun _ z => by unfold LamX.CodeO at z; cases z) (fun _ z => by unfold LamX.CodeO at z; cases z) e
theorem KL.clo {f : Addr} {F : NdefX.NF} {b : Expr} {fr : List Str} {ws : List V} (x : KL H H') (C : CLO.Clo H f F b fr ws) : CLO.Clo H' f F b fr ws :=
  ⟨x _ _ (fun _ z => by unfold CLO.LamO at z; cases z) (fun _ z => by unfold CLO.LamO at z; cases z) C.fn, x.code C.co, x.cels C.cels, C.inj, C.len, fun i y hi => let ⟨c, v, h1, h2, h3⟩ := C.has i y hi; ⟨c, v, h1, h2, x.cel h3⟩⟩
theorem KL.cloN {f : Addr} {F : NdefX.NF} {fr : List Str} {ws : List V} (x : KL H H') (C : CLO.CloN H f F fr ws) : CLO.CloN H' f F fr ws :=
  ⟨x _ _ (fun _ z => by unfold NdefX.FnO at z; cases z) (fun _ z => by unfold NdefX.FnO at z; cases z) C.fn, x.code C.co, x.cels C.cels, C.inj, C.len, fun i y hi => let ⟨c, v, h1, h2, h3⟩ := C.has i y hi; ⟨c, v, h1, h2, x.cel h3⟩⟩
theorem KL.noteK {CK kd l : Addr} {z : Str} {n : Int} (x : KL H H') (h : NoteK CK H kd l z n) : NoteK CK H' kd l z n := let ⟨dx, f, o, j, c, m, e, q, cl, c', N⟩ := h; ⟨dx, f, o, j, c, m, x.ins e, q, cl, c', x.cloN N⟩
theorem KL.both {C b k1 k2 : Addr} (x : KL H H') (h : BothAt C H b k1 k2) : BothAt C H' b k1 k2 := let ⟨dx, e⟩ := h; ⟨dx, x.ins e⟩
theorem KpN.new {o : HO} (x : SL.KpN p H H1) (n : H l = none) : SL.KpN p H (upd H1 l o) := fun b u nb m e => by
  have bl : b ≠ l := ne_of_none e n
  rw [upd_ne bl]
  exact x b u nb m e
end
theorem note_fnk {H : Hp} {f l : Addr} {z : Str} {n : Int} (N : Noted H f l z n) : CLO.Fnk H f := let ⟨_, _, _, C⟩ := N; CLO.fnO_fnk C.fn
/-- the kinds of Calls, by their methods -/
structure CallsK (P : Program) (w : World) (K : PySem.W.Frag) (mg : Str → Option Value) (base : Heap) (CK : Addr) : Prop where
  kc : KC K CK
  ik : InsK K CK
  con : CalM P w K mg base CX0 CK "consistent" 4 ["self", "label", "question"] (spKF P w K mg base CK "consistent_function")
  mat : CalM P w K mg base CX0 CK "matches" 4 ["self", "key", "question"] (spKF P w K mg base CK "matches_function")
  pen : CalM P w K mg base CX0 CK "penalty" 4 ["self", "label", "key"] (spKF P w K mg base CK "penalty_function")
  dis : CalM P w K mg base CX0 CK "distance" 4 ["self", "key", "point"] (spKF P w K mg base CK "distance_function")
  bou : CalM P w K mg base CX0 CK "bound" 4 ["self", "label", "point"] (spKF P w K mg base CK "bound_function")
/-- a kind that notes is asked -/
theorem note_ask {CK kd l : Addr} {m mf : Str} {ps : List Str} {H : Hp} {z : Str} {n : Int} {x y : V} {xs : List V} {Q : VK} (c : CalM P w K mg base CX0 CK m 4 ps (spKF P w K mg base CK mf)) (kc : KC K CK) (N : NoteK CK H kd l z n)
    (h0 : ∀ o j c m' f : V, (fs8 o j c m' f .non f f).lookup m = none ∧ (fs8 o j c m' f .non f f).lookup mf = some f) (h1 : H l = some (.lst xs)) (h2 : xs.length < 1000) (q : Q (.int n) (upd H l (.lst (xs ++ [.str z])))) : Ask P w K mg base 6 kd m [x, y] H Q := by
  obtain ⟨dx, f, o, j, cc, mm, e, N⟩ := N
  refine ask_of c kc.cl (by omega) e (h0 _ _ _ _ _).1 ⟨kd, dx, f, _, true, x, y, rfl, e, (h0 _ _ _ _ _).2, fun _ => note_fnk N, (noted_calls (P := P) (w := w) (K := K) (mg := mg) (base := base) N h1 h2 q).mono (by omega)⟩
/-- after a first note, a second one -/
theorem two_notes {H : Hp} {l : Addr} {xs : List V} {a b : Str} (h1 : H l = some (.lst xs)) : let H' := upd (upd H l (.lst (xs ++ [.str a]))) l (.lst (xs ++ [.str a] ++ [.str b])); KL H H' ∧ Kp l H H' ∧ H' l = some (.lst (xs ++ [.str a, .str b])) := by
  intro H'
  have k : Kp l H H' := Kp.set.trans Kp.set
  refine ⟨KL.kp h1 k, k, ?_⟩
  show upd _ l _ l = _
  rw [upd_same, List.append_assoc]
  rfl
section
variable {CB CK b k1 k2 l t r : Addr} {H : Hp} {xs : List V} {z1 z2 : Str} {i j : Int} {x y x' y' : V} {Q : VK} {E : XK}
theorem note_pen (c : CallsK P w K mg base CK) (hb : BothAt CB H b k1 k2) (N1 : NoteK CK H k1 l z1 i) (N2 : NoteK CK H k2 l z2 j) (hl : H l = some (.lst xs)) (h2 : xs.length < 900) (ht : H t = some (.tup [x, y])) (hr : H r = some (.tup [x', y']))
    (q : ∀ H', KL H H' → Kp l H H' → H' l = some (.lst (xs ++ [.str z1, .str z2])) → Q (.int (i + j)) H') : spBPen P w K mg base CB [.ref b, .ref t, .ref r] H Q E := by
  have k : KL H (upd H l (.lst (xs ++ [.str z1]))) := KL.set hl
  obtain ⟨e1, e2, e3⟩ := two_notes (a := z1) (b := z2) hl
  refine ⟨b, k1, k2, t, r, x, y, x', y', rfl, hb, ht, hr, note_ask c.pen c.kc N1 (fun _ _ _ _ _ => ⟨rfl, rfl⟩) hl (by omega) ⟨i, rfl, k.both hb, k.tup ht, k.tup hr, ?_⟩⟩
  exact note_ask c.pen c.kc (k.noteK N2) (fun _ _ _ _ _ => ⟨rfl, rfl⟩) upd_same (by rw [List.length_append]; show xs.length + 1 < 1000; omega) ⟨j, rfl, q _ e1 e2 e3⟩
theorem note_dis {CM CN : Addr} (c : CallsK P w K mg base CK) (kM : PySem.W.kitOne K (.ref CK) (.ref CM) = some true) (hb : BothAt CB H b k1 k2) (N1 : NoteK CK H k1 l z1 i) (N2 : NoteK CK H k2 l z2 j) (hl : H l = some (.lst xs)) (h2 : xs.length < 900) (ht : H t = some (.tup [x, y])) (hr : H r = some (.tup [x', y']))
    (q : ∀ H', KL H H' → Kp l H H' → H' l = some (.lst (xs ++ [.str z1, .str z2])) → Q (.int (i + j)) H') : spBDist P w K mg base CB CM CN "distance" [.ref b, .ref t, .ref r] H Q E := by
  have k : KL H (upd H l (.lst (xs ++ [.str z1]))) := KL.set hl
  obtain ⟨e1, e2, e3⟩ := two_notes (a := z1) (b := z2) hl
  obtain ⟨dx1, f1, o1, j1, c1, m1, a1, _⟩ := id N1
  obtain ⟨dx2, f2, o2, j2, c2, m2, a2, _⟩ := id N2
  refine ⟨b, k1, k2, t, r, x, y, x', y', rfl, hb, ht, hr, k1, CK, dx1, _, _, _, rfl, a1, c.ik, .inl ⟨kM, note_ask c.dis c.kc N1 (fun _ _ _ _ _ => ⟨rfl, rfl⟩) hl (by omega) ⟨i, rfl, k.both hb, k.tup ht, k.tup hr, ?_⟩⟩⟩
  exact ⟨k2, CK, dx2, _, _, _, rfl, k.ins a2, c.ik, .inl ⟨kM, note_ask c.dis c.kc (k.noteK N2) (fun _ _ _ _ _ => ⟨rfl, rfl⟩) upd_same (by rw [List.length_append]; show xs.length + 1 < 1000; omega) ⟨j, rfl, q _ e1 e2 e3⟩⟩⟩
theorem note_bou {CM CN : Addr} (c : CallsK P w K mg base CK) (kM : PySem.W.kitOne K (.ref CK) (.ref CM) = some true) (hb : BothAt CB H b k1 k2) (N1 : NoteK CK H k1 l z1 i) (N2 : NoteK CK H k2 l z2 j) (hl : H l = some (.lst xs)) (h2 : xs.length < 900) (ht : H t = some (.tup [x, y])) (hr : H r = some (.tup [x', y']))
    (q : ∀ H', KL H H' → Kp l H H' → H' l = some (.lst (xs ++ [.str z1, .str z2])) → Q (.int (i + j)) H') : spBDist P w K mg base CB CM CN "bound" [.ref b, .ref t, .ref r] H Q E := by
  have k : KL H (upd H l (.lst (xs ++ [.str z1]))) := KL.set hl
  obtain ⟨e1, e2, e3⟩ := two_notes (a := z1) (b := z2) hl
  obtain ⟨dx1, f1, o1, j1, c1, m1, a1, _⟩ := id N1
  obtain ⟨dx2, f2, o2, j2, c2, m2, a2, _⟩ := id N2
  refine ⟨b, k1, k2, t, r, x, y, x', y', rfl, hb, ht, hr, k1, CK, dx1, _, _, _, rfl, a1, c.ik, .inl ⟨kM, note_ask c.bou c.kc N1 (fun _ _ _ _ _ => ⟨rfl, rfl⟩) hl (by omega) ⟨i, rfl, k.both hb, k.tup ht, k.tup hr, ?_⟩⟩⟩
  exact ⟨k2, CK, dx2, _, _, _, rfl, k.ins a2, c.ik, .inl ⟨kM, note_ask c.bou c.kc (k.noteK N2) (fun _ _ _ _ _ => ⟨rfl, rfl⟩) upd_same (by rw [List.length_append]; show xs.length + 1 < 1000; omega) ⟨j, rfl, q _ e1 e2 e3⟩⟩⟩
end
/-- a maker of a class with these parameters -/
structure MakeM (P : Program) (w : World) (K : PySem.W.Frag) (mg : Str → Option Value) (base : Heap) (nm : Str) (C f : Addr) (fd : FuncData) (ps : List Str) (sp : Sp) : Prop where
  M : Mk K C f
  G : FnOk P w K mg base CX0 2 f fd ps sp
  m : mg nm = some (.ref C)
  b : Binds K fd ps []
/-- what each part of the law promises -/
def spRight (K : PySem.W.Frag) : Sp := fun vs H Q _ => ∃ (p : Addr) (x c : Int), vs = [.ref p] ∧ H p = some (.lst [.int x, .int c]) ∧ LamX.Tabs (TT K) H ∧
  ∀ (H' : Hp) (x' c' : Int), SL.KpN p H H' → LamX.Tabs (TT K) H' → H' p = some (.lst [.int x', .int c']) → Q (.bl true) H'
theorem same_made {H : Hp} {a d C : Addr} {o : HO} (na : H a = none) (nd : H d = none) : Same H (upd (upd (upd H d (.own a)) a (.ins C d [])) a o) := fun b u e => by
  have ba : b ≠ a := ne_of_none e na
  have bd : b ≠ d := ne_of_none e nd
  rw [upd_ne ba, upd_ne ba, upd_ne bd]
  exact e
/-- the law's state while kinds note -/
structure NSt (K : PySem.W.Frag) (CB CK p l b k1 k2 : Addr) (x c i j : Int) (H Hi : Hp) (xs : List V) : Prop where
  kn : SL.KpN p H Hi
  hp : Hi p = some (.lst [.int x, .int c])
  tb : LamX.Tabs (TT K) Hi
  hl : Hi l = some (.lst xs)
  both : BothAt CB Hi b k1 k2
  n1 : NoteK CK Hi k1 l "left" i
  n2 : NoteK CK Hi k2 l "right" j
theorem NSt.step {CB CK p l b k1 k2 : Addr} {x c i j : Int} {H Hi Hj Hk : Hp} {xs ys : List V} (S : NSt K CB CK p l b k1 k2 x c i j H Hi xs) (nl : H l = none) (pl : p ≠ l) (s : Same Hi Hj) (k : Kp l Hj Hk) (e : Hk l = some (.lst ys)) : NSt K CB CK p l b k1 k2 x c i j H Hk ys := by
  have hlj := s _ _ S.hl
  have kl : KL Hi Hk := (KL.same s).trans (KL.kp hlj k)
  refine ⟨fun b o nb m e => ?_, k _ _ pl (s _ _ S.hp), SL.Tabs.kp (SL.Tabs.same S.tb s) hlj k, e, kl.both S.both, kl.noteK S.n1, kl.noteK S.n2⟩
  exact k _ _ (ne_of_none e nl) (s _ _ (S.kn b o nb m e))
theorem eqv_list {d : PyData} (h : d.canLay0 = true) : PyData.eqv d d = true := SeqAt.eqv_refl d h
theorem rEq_same {H : Hp} {x y : V} {D : PyData} {Q : VK} (sx : RZ.Shw H x D) (sy : RZ.Shw H y D) (hl : D.canLay0 = true) (hd : D.depth ≤ 40) (q : Q (.bl true) H) : DN.rEqD false x y H Q := by
  refine ⟨D, D, sx, sy, hd, ?_⟩
  show Q (.bl (PyData.eqv D D)) H
  rw [eqv_list hl]
  exact q
end
end K16
set_option Elab.async false
set_option linter.all false
set_option maxRecDepth 100000
set_option maxHeartbeats 2000000
namespace K16
open PySem PySem.Spec PyProof.Rows L2 CM DN GR
section
variable {P : Program} {w : World} {K : PySem.W.Frag} {mg : Str → Option Value} {base : Heap}
theorem ok_sums {CB CK CM CN fB : Addr} {fd fdB : FuncData} {k : Nat} {pk1 pk2 pk3 : List Str} (F : FnP K "_law_sums_right" "_law_sums_right" s_law_sums_right (He.fAd K ("_law_sums_right", none)) fd) (ck : CallsK P w K mg base CK) (kM : PySem.W.kitOne K (.ref CK) (.ref CM) = some true)
    (C_draw : Cal P w K mg base CX0 "_law_draw" 1 ["_law_well_here", "_law_many"] spDraw) (MB : MakeM P w K mg base "Both" CB fB fdB ["self", "one", "other"] (spBInit CB)) (cl_B : Cls K CB)
    (C_noting : Cal P w K mg base CX0 "_law_noting" 3 ["_law_notes", "_law_word", "_law_number"] (spNoting K CK)) (C_pen : CalM P w K mg base CX0 CB "penalty" 7 ["self", "label", "key"] (spBPen P w K mg base CB))
    (C_dis : CalM P w K mg base (L2.CX P w) CB "distance" 8 ["self", "key", "point"] (spBDist P w K mg base CB CM CN "distance")) (C_bou : CalM P w K mg base (L2.CX P w) CB "bound" 8 ["self", "label", "point"] (spBDist P w K mg base CB CM CN "bound")) :
    FnOk P w K mg base CX0 (k + 8 + 1) (He.fAd K ("_law_sums_right", none)) fd ["_law_well_here"] (spRight K) := by
  obtain ⟨f_law_draw, fd_law_draw, G_law_draw, b_law_draw, m_law_draw, k_law_draw⟩ := C_draw
  obtain ⟨f_law_noting, fd_law_noting, G_law_noting, b_law_noting, m_law_noting, k_law_noting⟩ := C_noting
  obtain ⟨f_Bp, fd_Bp, G_Bpenalty, b_Bpenalty, me_Bpenalty⟩ := C_pen
  obtain ⟨f_Bd, fd_Bd, G_Bdistance, b_Bdistance, me_Bdistance⟩ := C_dis
  obtain ⟨f_Bb, fd_Bb, G_Bbound, b_Bbound, me_Bbound⟩ := C_bou
  refine F.ok sc_law_sums_right (fun vs H Q E h => ?_) (fun cdv A outer s H vs Q E hr h => ?_)
  · obtain ⟨p, x, c, rfl, _⟩ := h
    rfl
  · obtain ⟨p, x, c, rfl, hp, hT, q⟩ := h
    refine ⟨_, PSs.nox (pss_cons (ps_par3 (i := 1) (j := 2) (l := 3) rfl sc_law_sums_right.nd rfl rfl rfl (by decide) (by decide) (by decide) rfl rfl rfl (pa_cons (pe_lst (pa_nil)) (pa_cons (pe_call G_law_draw (hr.mono (by omega)) (by rfl) m_law_draw k_law_draw b_law_draw .nil pass0 (pa_cons (pv 0) (pa_cons pe_int pa_nil))) (pa_cons (pe_call G_law_draw (hr.mono (by omega)) (by rfl) m_law_draw k_law_draw b_law_draw .nil pass0 (pa_cons (pv 0) (pa_cons pe_int pa_nil))) pa_nil))) (by rfl))
    (pss_cons (ps_set (i := 4) sc_law_sums_right.nd rfl (.inl rfl) (pe_make MB.M MB.G (hr.mono (by omega)) (by rfl) MB.m MB.b .nil pass0 (pa_cons (pe_call G_law_noting (hr.mono (by omega)) (by rfl) m_law_noting k_law_noting b_law_noting .nil pass0 (pa_cons (pv 1) (pa_cons pe_str (pa_cons (pv 2) pa_nil)))) (pa_cons (pe_call G_law_noting (hr.mono (by omega)) (by rfl) m_law_noting k_law_noting b_law_noting .nil pass0 (pa_cons (pv 1) (pa_cons pe_str (pa_cons (pv 3) pa_nil)))) pa_nil))))
    (pss_cons (ps_set (i := 5) sc_law_sums_right.nd rfl (.inl rfl) (pe_lst (pa_cons (pe_meth ((pv 4)) cl_B me_Bpenalty G_Bpenalty (hr.mono (by omega)) b_Bpenalty .nil pass0 (pa_cons (pe_tup (pa_cons pe_int (pa_cons pe_int pa_nil))) (pa_cons (pe_tup (pa_cons pe_int (pa_cons pe_int pa_nil))) pa_nil))) (pa_cons (pe_meth ((pv 4)) cl_B me_Bdistance G_Bdistance (hr.mono (by omega)) b_Bdistance .nil passF (pa_cons (pe_tup (pa_cons pe_int (pa_cons pe_int pa_nil))) (pa_cons (pe_tup (pa_cons pe_int (pa_cons pe_int pa_nil))) pa_nil))) (pa_cons (pe_meth ((pv 4)) cl_B me_Bbound G_Bbound (hr.mono (by omega)) b_Bbound .nil passF (pa_cons (pe_tup (pa_cons pe_int (pa_cons pe_int pa_nil))) (pa_cons (pe_tup (pa_cons pe_int (pa_cons pe_int pa_nil))) pa_nil))) pa_nil)))))
    (pss_one (ps_ret (pe_and (pe_cmpR (DN.op_eqD hr.units) (pv 5) (pe_op op_rep (pe_lst (pa_cons (pe_op op_add (pv 2) (pv 3)) pa_nil)) pe_int) (nomark _)) (pe_one (pe_cmpR (DN.op_eqD hr.units) (pv 1) (pe_op op_rep (pe_lst (pa_cons pe_str (pa_cons pe_str pa_nil))) pe_int) (nomark _))))))))), ?_⟩
    have pl0 : ∀ {l : Addr}, H l = none → p ≠ l := fun n => ne_of_none hp n
    refine ⟨by show 0 ≤ sizeLine; decide, fun l nl => ?_⟩
    have pl := pl0 nl
    refine ⟨_, rfl, p, x, c, 99, rfl, by rw [upd_ne pl]; exact hp, by decide, .of (k := 10) (by decide) (by decide), fun a x1 c1 a0 a1 => ?_⟩
    refine ⟨_, rfl, p, x1, c1, 99, rfl, upd_same, by decide, .of (k := 10) (by decide) (by decide), fun b x2 c2 b0 b1 => ?_⟩
    refine ⟨_, _, _, rfl, ?_⟩
    have s1 : Same H (upd H l (.lst [])) := same_upd nl
    have hp1 := s1 _ _ hp
    have k3 : Kp p (upd H l (.lst [])) (upd (upd (upd H l (.lst [])) p (.lst [.int x1, .int c1])) p (.lst [.int x2, .int c2])) := Kp.set.trans Kp.set
    have hl3 := k3 l _ (Ne.symm pl) (upd_same (H := H) (a := l) (o := .lst []))
    have hp3 : (upd (upd (upd H l (.lst [])) p (.lst [.int x1, .int c1])) p (.lst [.int x2, .int c2])) p = some (.lst [.int x2, .int c2]) := upd_same
    have t3 := SL.Tabs.kp (SL.Tabs.same hT s1) hp1 k3
    have kn3 : SL.KpN p H _ := (SL.KpN.of (Kp.same s1)).trans (SL.KpN.of k3)
    generalize upd (upd (upd H l (.lst [])) p (.lst [.int x1, .int c1])) p (.lst [.int x2, .int c2]) = H3 at k3 hl3 hp3 t3 kn3
    -- made
    refine ⟨_, rfl, _, rfl, l, "left", a, rfl, t3, fun kd1 H4 e4 t4 N1 => ?_⟩
    refine ⟨_, rfl, _, rfl, l, "right", b, rfl, t4, fun kd2 H5 e5 t5 N2 => ?_⟩
    refine fun m dx nm nd ne => ⟨m, dx, .ref kd1, .ref kd2, rfl, upd_same, rfl, ?_⟩
    have s6 := same_made (C := CB) (o := .ins CB dx [("first", .ref kd1), ("second", .ref kd2)]) nm nd
    have e35 := e4.trans e5
    have S6 : NSt K CB CK p l m kd1 kd2 x2 c2 a b H _ [] := ⟨kn3.trans (SL.KpN.ext (e35.trans (SL.ExtN.of_same s6))), s6 _ _ (e35 _ _ hp3 fun _ z => by cases z), SL.Tabs.same t5 s6, s6 _ _ (e35 _ _ hl3 fun _ z => by cases z), ⟨dx, upd_same⟩, (N1.ext e5).ext (SL.ExtN.of_same s6), N2.ext (SL.ExtN.of_same s6)⟩
    generalize upd (upd (upd H5 dx (.own m)) m (.ins CB dx [])) m (.ins CB dx [("first", .ref kd1), ("second", .ref kd2)]) = H6 at S6
    -- told
    obtain ⟨d6, b6⟩ := S6.both
    refine ⟨_, rfl, m, d6, _, rfl, b6, rfl, by show 2 ≤ sizeLine; decide, fun u1 n1 => ⟨by show 2 ≤ sizeLine; decide, fun v1 m1 => ?_⟩⟩
    have s7 := (same_upd (o := .tup [.int 1, .int 2]) n1).trans (same_upd (o := .tup [.int 3, .int 4]) m1)
    have g7 := (same_upd (o := .tup [.int 3, .int 4]) m1) u1 _ (upd_same (H := H6) (a := u1) (o := .tup [.int 1, .int 2]))
    have S7 := S6.step nl pl s7 (Kp.same (Same.refl _)) (s7 _ _ S6.hl)
    dsimp only [tNil]
    refine note_pen ck S7.both S7.n1 S7.n2 S7.hl (by decide) g7 upd_same fun H8 l8 k8 h8 => ?_
    have S8 := S7.step nl pl (Same.refl _) k8 h8
    obtain ⟨d8, b8⟩ := S8.both
    refine ⟨_, rfl, m, d8, _, rfl, b8, rfl, by show 2 ≤ sizeLine; decide, fun u2 n2 => ⟨by show 2 ≤ sizeLine; decide, fun v2 m2 => ?_⟩⟩
    have s9 := (same_upd (o := .tup [.int 1, .int 2]) n2).trans (same_upd (o := .tup [.int 3, .int 4]) m2)
    have g9 := (same_upd (o := .tup [.int 3, .int 4]) m2) u2 _ (upd_same (H := H8) (a := u2) (o := .tup [.int 1, .int 2]))
    have S9 := S8.step nl pl s9 (Kp.same (Same.refl _)) (s9 _ _ S8.hl)
    dsimp only [tNil]
    refine note_dis ck kM S9.both S9.n1 S9.n2 S9.hl (by decide) g9 upd_same fun H10 l10 k10 h10 => ?_
    have S10 := S9.step nl pl (Same.refl _) k10 h10
    obtain ⟨d10, b10⟩ := S10.both
    refine ⟨_, rfl, m, d10, _, rfl, b10, rfl, by show 2 ≤ sizeLine; decide, fun u3 n3 => ⟨by show 2 ≤ sizeLine; decide, fun v3 m3 => ?_⟩⟩
    have s11 := (same_upd (o := .tup [.int 1, .int 2]) n3).trans (same_upd (o := .tup [.int 3, .int 4]) m3)
    have g11 := (same_upd (o := .tup [.int 3, .int 4]) m3) u3 _ (upd_same (H := H10) (a := u3) (o := .tup [.int 1, .int 2]))
    have S11 := S10.step nl pl s11 (Kp.same (Same.refl _)) (s11 _ _ S10.hl)
    dsimp only [tNil]
    refine note_bou ck kM S11.both S11.n1 S11.n2 S11.hl (by decide) g11 upd_same fun H12 l12 k12 h12 => ?_
    have S12 := S11.step nl pl (Same.refl _) k12 h12
    refine ⟨by show 3 ≤ sizeLine; decide, fun d nd => ?_⟩
    -- compared
    refine ⟨_, rfl, _, rfl, _, rfl, a, b, rfl, rfl, by show 1 ≤ sizeLine; decide, fun e ne => ?_⟩
    refine ⟨e, 3, [V.int (a + b)], rfl, rfl, upd_same, by decide, by decide, by show 1 * 3 ≤ sizeLine; decide, fun g ng => ?_⟩
    have hd13 := upd_same (H := H12) (a := d) (o := .lst [V.int (a + b), V.int (a + b), V.int (a + b)])
    have s13 := same_upd (o := .lst [V.int (a + b), V.int (a + b), V.int (a + b)]) nd
    have s14 := same_upd (o := .lst [V.int (a + b)]) ne
    have s15 := same_upd (o := .lst (List.replicate (3 : Int).toNat [V.int (a + b)]).flatten) ng
    have S15 := S12.step nl pl ((s13.trans s14).trans s15) (Kp.same (Same.refl _)) (((s13.trans s14).trans s15) _ _ S12.hl)
    have shI : ∀ G, RZ.ShwAll G [V.int (a + b), V.int (a + b), V.int (a + b)] [.int (a + b), .int (a + b), .int (a + b)] := fun G => .cons (.int _) (.cons (.int _) (.cons (.int _) .nil))
    refine rEq_same (D := .list [.int (a + b), .int (a + b), .int (a + b)]) (.lst ((s14.trans s15) _ _ hd13) (shI _)) (.lst upd_same (shI _)) rfl (by simp [PyData.depth, PyData.depthAll]) ⟨true, rfl, iteT ?_⟩
    refine ⟨_, rfl, by show 2 ≤ sizeLine; decide, fun e2 ne2 => ⟨e2, 3, _, rfl, rfl, upd_same, by decide, by decide, by show 2 * 3 ≤ sizeLine; decide, fun g2 ng2 => ?_⟩⟩
    have s16 := (same_upd (o := .lst [V.str "left", V.str "right"]) ne2).trans (same_upd (o := .lst (List.replicate (3 : Int).toNat [V.str "left", V.str "right"]).flatten) ng2)
    have S16 := S15.step nl pl s16 (Kp.same (Same.refl _)) (s16 _ _ S15.hl)
    have shN : ∀ G, RZ.ShwAll G [V.str "left", V.str "right", V.str "left", V.str "right", V.str "left", V.str "right"] [.str "left", .str "right", .str "left", .str "right", .str "left", .str "right"] := fun G => .cons (.str _) (.cons (.str _) (.cons (.str _) (.cons (.str _) (.cons (.str _) (.cons (.str _) .nil)))))
    refine rEq_same (D := .list [.str "left", .str "right", .str "left", .str "right", .str "left", .str "right"]) (.lst S16.hl (shN _)) (.lst upd_same (shN _)) (by decide +kernel) (by decide +kernel) ?_
    exact q _ x2 c2 S16.kn S16.tb S16.hp
end
end K16
set_option Elab.async false
set_option linter.all false
set_option maxRecDepth 100000
set_option maxHeartbeats 2000000
namespace K16
open PySem PySem.Spec PyProof.Rows L2 CM DN GR
section
variable {P : Program} {w : World} {K : PySem.W.Frag} {mg : Str → Option Value} {base : Heap}
/-! ### Coarse of ranges -/
structure RangesK (P : Program) (w : World) (K : PySem.W.Frag) (mg : Str → Option Value) (base : Heap) (CR : Addr) : Prop where
  cl : Cls K CR
  ik : InsK K CR
  own : CalM P w K mg base CX0 CR "own" 3 ["self", "key"] RG.spOwn
  joi : CalM P w K mg base CX0 CR "join" 3 ["self", "one", "other"] RG.spJoin
  con : CalM P w K mg base CX0 CR "consistent" 3 ["self", "label", "question"] RG.spCons
  mat : CalM P w K mg base CX0 CR "matches" 3 ["self", "key", "question"] RG.spMat
  pen : CalM P w K mg base CX0 CR "penalty" 3 ["self", "label", "key"] (RG.spPen CR)
  sid : CalM P w K mg base CX0 CR "sides" 3 ["self", "labels"] (RG.spSides K)
  dis : CalM P w K mg base CX0 CR "distance" 3 ["self", "key", "point"] RG.spDist
  bou : CalM P w K mg base CX0 CR "bound" 3 ["self", "label", "point"] RG.spBound
theorem pn_tup2 {H : Hp} {t : Addr} {a b : Int} (h : H t = some (.tup [.int a, .int b])) : PN K H 4 (.ref t) true := by
  refine .inr (.inr ⟨t, _, rfl, h, .inl ⟨rfl, fun x hx => ?_⟩⟩)
  rcases List.mem_cons.mp hx with rfl | hx
  · exact PN.leaf rfl 3
  · rcases List.mem_cons.mp hx with rfl | hx
    · exact PN.leaf rfl 3
    · cases hx
theorem wide_fnk {H : Hp} {f : Addr} {n : Int} (W : Wide H f n) : CLO.Fnk H f := let ⟨_, _, _, C⟩ := W; CLO.lamO_fnk C.fn
section
variable {CO CR CM CN b kd f dx : Addr} {n : Int} {H : Hp} {Q : VK} {E : XK}
theorem c_own {item : Int} (rk : RangesK P w K mg base CR) (ma : CoaAt CO H b kd (.ref f)) (W : Wide H f n) (ba : H kd = some (.ins CR dx [])) (n0 : 0 < n) (n1 : n < 1000) (i0 : -1000 < item) (i1 : item < 1000)
    (q : ∀ (r : Addr) (H' : Hp), Same H H' → H' r = some (.tup [.int (item / n * n), .int ((item + n - 1) / n * n)]) → Q (.ref r) H') : spCOwn P w K mg base CO [.ref b, .int item] H Q E := by
  refine ⟨b, kd, f, true, .int item, rfl, ma, fun _ => wide_fnk W, ask_of rk.own rk.cl (by omega) ba rfl ⟨kd, item, rfl, fun t H1 s1 ht => ⟨pn_tup2 ht, ?_⟩⟩⟩
  exact (wide_calls (P := P) (w := w) (K := K) (mg := mg) (base := base) (W.ext (SL.ExtN.of_same s1)) ht n0 n1 i0 i1 i0 i1 fun r H2 s2 hr => q r H2 (s1.trans s2) hr).mono (by omega)
theorem c_join {t r : Addr} {l h l' h' : Int} (rk : RangesK P w K mg base CR) (ma : CoaAt CO H b kd (.ref f)) (W : Wide H f n) (ba : H kd = some (.ins CR dx [])) (n0 : 0 < n) (n1 : n < 1000) (ht : Tup2 H t l h) (hr : Tup2 H r l' h') (l0 : -1000 < l) (l1 : l < 1000) (h0 : -1000 < h) (h1 : h < 1000)
    (m0 : -1000 < l') (m1 : l' < 1000) (g0 : -1000 < h') (g1 : h' < 1000)
    (q : ∀ (u : Addr) (H' : Hp), Same H H' → H' u = some (.tup [.int (min l l' / n * n), .int ((max h h' + n - 1) / n * n)]) → Q (.ref u) H') : spCJoin P w K mg base CO [.ref b, .ref t, .ref r] H Q E := by
  refine ⟨b, kd, f, true, .ref t, .ref r, rfl, ma, fun _ => wide_fnk W, ask_of rk.joi rk.cl (by omega) ba rfl ⟨kd, t, r, l, h, l', h', rfl, ht, hr, fun u H1 s1 hu => ⟨pn_tup2 hu, ?_⟩⟩⟩
  exact (wide_calls (P := P) (w := w) (K := K) (mg := mg) (base := base) (W.ext (SL.ExtN.of_same s1)) hu n0 n1 (by omega) (by omega) (by omega) (by omega) fun v H2 s2 hv => q v H2 (s1.trans s2) hv).mono (by omega)
theorem c_mat {fv : V} {r : Addr} {i lo hi : Int} (rk : RangesK P w K mg base CR) (ma : CoaAt CO H b kd fv) (ba : H kd = some (.ins CR dx [])) (hr : Tup2 H r lo hi) (q : ∀ H', Same H H' → Q (.bl (decide (lo ≤ i ∧ i ≤ hi))) H') : spCAsk P w K mg base CO "matches" [.ref b, .int i, .ref r] H Q E :=
  ⟨b, kd, fv, _, _, rfl, ma, ask_of rk.mat rk.cl (by omega) ba rfl ⟨kd, r, i, lo, hi, rfl, hr, q⟩⟩
theorem c_con {fv : V} {p r : Addr} {l h lo hi : Int} (rk : RangesK P w K mg base CR) (ma : CoaAt CO H b kd fv) (ba : H kd = some (.ins CR dx [])) (hp : Tup2 H p l h) (hr : Tup2 H r lo hi) (le : l ≤ h) (q : ∀ H', Same H H' → Q (.bl (decide (lo ≤ hi ∧ max lo l ≤ min hi h))) H') : spCAsk P w K mg base CO "consistent" [.ref b, .ref p, .ref r] H Q E :=
  ⟨b, kd, fv, _, _, rfl, ma, ask_of rk.con rk.cl (by omega) ba rfl ⟨kd, p, r, l, h, lo, hi, rfl, hp, hr, le, q⟩⟩
theorem c_pen {fv : V} {p : Addr} {i l h : Int} (rk : RangesK P w K mg base CR) (ma : CoaAt CO H b kd fv) (ba : H kd = some (.ins CR dx [])) (hp : Tup2 H p l h) (q : ∀ H', Same H H' → Q (.int (max h i - min l i - (h - l))) H') : spCAsk P w K mg base CO "penalty" [.ref b, .ref p, .int i] H Q E :=
  ⟨b, kd, fv, _, _, rfl, ma, ask_of rk.pen rk.cl (by omega) ba rfl ⟨kd, dx, p, i, l, h, rfl, ba, hp, q⟩⟩
theorem c_sid {fv : V} {l : Addr} {ps : List Addr} {ns : List (Int × Int)} (rk : RangesK P w K mg base CR) (ma : CoaAt CO H b kd fv) (ba : H kd = some (.ins CR dx [])) (hs : RG.Spans K H l ps ns) (hn : ns.length ≤ 30) (hT : LamX.Tabs (TT K) H)
    (q : ∀ (t : Addr) (H' : Hp), LamX.ExtN H H' → LamX.Tabs (TT K) H' → (SqL K H' t ((RG.halvesOf (ns.map fun n => n.1 + n.2)).map V.int) ∨ SqT K H' t ((RG.halvesOf (ns.map fun n => n.1 + n.2)).map V.int)) → Q (.ref t) H') : spCSides P w K mg base CO [.ref b, .ref l] H Q E :=
  ⟨b, kd, fv, _, rfl, ma, ask_of rk.sid rk.cl (by omega) ba rfl ⟨kd, l, ps, ns, rfl, hs, hn, hT, q⟩⟩
theorem c_dis {fv : V} {i j : Int} (rk : RangesK P w K mg base CR) (kM : PySem.W.kitOne K (.ref CR) (.ref CM) = some true) (ma : CoaAt CO H b kd fv) (ba : H kd = some (.ins CR dx [])) (q : ∀ H', Same H H' → Q (.int (if i - j < 0 then -(i - j) else i - j)) H') : spCDist P w K mg base CO CM CN "distance" [.ref b, .int i, .int j] H Q E :=
  ⟨b, kd, fv, _, _, rfl, ma, kd, CR, dx, _, _, _, rfl, ba, rk.ik, .inl ⟨kM, ask_of rk.dis rk.cl (by omega) ba rfl ⟨kd, i, j, rfl, q⟩⟩⟩
theorem c_bou {fv : V} {p : Addr} {l h j : Int} (rk : RangesK P w K mg base CR) (kM : PySem.W.kitOne K (.ref CR) (.ref CM) = some true) (ma : CoaAt CO H b kd fv) (ba : H kd = some (.ins CR dx [])) (hp : Tup2 H p l h) (le : l ≤ h) (q : ∀ H', Same H H' → Q (.int (max 0 (max (l - j) (j - h)))) H') : spCDist P w K mg base CO CM CN "bound" [.ref b, .ref p, .int j] H Q E :=
  ⟨b, kd, fv, _, _, rfl, ma, kd, CR, dx, _, _, _, rfl, ba, rk.ik, .inl ⟨kM, ask_of rk.bou rk.cl (by omega) ba rfl ⟨kd, p, l, h, j, rfl, hp, le, q⟩⟩⟩
end
theorem rNe_same {H : Hp} {x y : V} {D : PyData} {Q : VK} (sx : RZ.Shw H x D) (sy : RZ.Shw H y D) (hl : D.canLay0 = true) (hd : D.depth ≤ 40) (q : Q (.bl false) H) : DN.rEqD true x y H Q := by
  refine ⟨D, D, sx, sy, hd, ?_⟩
  show Q (.bl (!PyData.eqv D D)) H
  rw [eqv_list hl]
  exact q
/-- ints side by side -/
theorem shw_ints {H : Hp} : ∀ ns : List Int, RZ.ShwAll H (ns.map V.int) (ns.map PyData.int)
  | [] => .nil
  | n :: ns => .cons (.int n) (shw_ints ns)
theorem lay_ints : ∀ ns : List Int, PyData.canLayAll0 (ns.map PyData.int) = true
  | [] => rfl
  | n :: ns => by
    show (PyData.canLay0 (.int n) && PyData.canLayAll0 (ns.map PyData.int)) = true
    rw [lay_ints ns]
    rfl
theorem depth_ints : ∀ ns : List Int, PyData.depthAll (ns.map PyData.int) = 0
  | [] => by simp [PyData.depthAll]
  | n :: ns => by simp [PyData.depthAll, PyData.depth, depth_ints ns]
end
end K16
set_option Elab.async false
set_option linter.all false
set_option maxRecDepth 100000
set_option maxHeartbeats 2000000
namespace K16
open PySem PySem.Spec PyProof.Rows L2 CM DN GR
section
variable {P : Program} {w : World} {K : PySem.W.Frag} {mg : Str → Option Value} {base : Heap}
/-! ### Coarse of bits and of words -/
def orE : Expr := match (defBody s_law_coarse_right).getD 1 (.Pass ⟨0, 0, 0, 0⟩) with
  | .Assign _ (.Tuple (_ :: .Call _ _ (_ :: kw :: _) _ :: _) _ _) _ => kw.value
  | _ => .Constant .none 0 ⟨0, 0, 0, 0⟩
def cutE : Expr := match (defBody s_law_coarse_right).getD 12 (.Pass ⟨0, 0, 0, 0⟩) with
  | .Assign _ (.Call _ (_ :: e :: _) _ _) _ => e
  | _ => .Constant .none 0 ⟨0, 0, 0, 0⟩
theorem t1 : NdefX.NScope ["_law_label"] ["_law_label"] [] (lamC orE) := NdefX.nscope_by (by decide +kernel)
theorem t2 : NdefX.NScope ["_law_label"] ["_law_label"] [] (lamC cutE) := NdefX.nscope_by (by decide +kernel)
/-- a lambda that captures nothing -/
def LamN (H : Hp) (f : Addr) (e : Expr) : Prop := ∃ q c', CLO.Clo H f ⟨"<lambda>", q, lamA e, [], lamC e, [], c'⟩ (lamB e) [] []
theorem LamN.mk {H : Hp} {f c' : Addr} {e : Expr} {q : Str} (h1 : H f = some (CLO.LamO f ⟨"<lambda>", q, lamA e, [], lamC e, [], c'⟩ (lamB e))) (h2 : H c' = some (LamX.CodeO c' q)) : LamN H f e :=
  ⟨q, c', ⟨h1, h2, fun p hp => (List.not_mem_nil hp).elim, fun x y c (h : List.lookup x [] = some c) => (by cases h), rfl, fun i y (h : ([] : List Str)[i]? = some y) => (by cases h)⟩⟩
theorem LamN.ext {H H' : Hp} {f : Addr} {e : Expr} (h : LamN H f e) (s : LamX.ExtN H H') : LamN H' f e := let ⟨q, c', C⟩ := h; ⟨q, c', C.ext s⟩
theorem LamN.kl {H H' : Hp} {f : Addr} {e : Expr} (h : LamN H f e) (s : KL H H') : LamN H' f e := let ⟨q, c', C⟩ := h; ⟨q, c', s.clo C⟩
theorem LamN.fnk {H : Hp} {f : Addr} {e : Expr} (h : LamN H f e) : CLO.Fnk H f := let ⟨_, _, C⟩ := h; CLO.lamO_fnk C.fn
theorem or_calls {H : Hp} {f : Addr} {x : Nat} {Q : VK} (L : LamN H f orE) (q : Q (.int ((x ||| 5 : Nat) : Int)) H) : CLO.CallsTo P w K mg base CX0 1 true f [.int (x : Int)] H Q E0 := by
  obtain ⟨q0, c', C⟩ := L
  refine CLO.lam_calls (k := 0) t1 C rfl (fun pm ctv us hu => ?_) (fun A outer s hr => ⟨_, (pe_op BI.op_orN (pv 0) pe_int), ?_⟩)
  · match us, hu with
    | [u], _ => rfl
  · refine ⟨_, rfl, x, 5, rfl, rfl, fun _ => ?_⟩
    rw [CLO.hide_nil, CLO.back_nil]
    exact q
theorem cut_calls {H : Hp} {f : Addr} {Q : VK} (L : LamN H f cutE) (q : Q (.str "ab") H) : CLO.CallsTo P w K mg base CX0 1 true f [.str "abcd"] H Q E0 := by
  obtain ⟨q0, c', C⟩ := L
  refine CLO.lam_calls (k := 0) t2 C rfl (fun pm ctv us hu => ?_) (fun A outer s hr => ⟨_, (pe_slice sl_str (pv 0) po_none (po_some pe_int)), ?_⟩)
  · match us, hu with
    | [u], _ => rfl
  · refine ⟨_, rfl, 2, rfl, _, rfl, by show 4 ≤ sizeLine; decide, fun _ => ?_⟩
    rw [CLO.hide_nil, CLO.back_nil]
    exact q
structure SignsK (P : Program) (w : World) (K : PySem.W.Frag) (mg : Str → Option Value) (base : Heap) (CS : Addr) : Prop where
  cl : Cls K CS
  ik : InsK K CS
  own : CalM P w K mg base CX0 CS "own" 3 ["self", "key"] (SG.spOwn K CS)
  joi : CalM P w K mg base CX0 CS "join" 3 ["self", "one", "other"] SG.spJoin
  pen : CalM P w K mg base CX0 CS "penalty" 3 ["self", "label", "key"] (SG.spPen K CS)
section
variable {CO CS CM CN b sg f : Addr} {H : Hp} {Q : VK} {E : XK}
theorem b_own {t : Addr} (sk : SignsK P w K mg base CS) (ma : CoaAt CO H b sg (.ref f)) (L : LamN H f orE) (hs : SG.Sg CS 6 H sg) (ht : H t = some (.tup [.int 1])) (q : Q (.int 7) H) : spCOwn P w K mg base CO [.ref b, .ref t] H Q E := by
  obtain ⟨dx, e⟩ := hs
  refine ⟨b, sg, f, true, .ref t, rfl, ma, fun _ => L.fnk, ask_of sk.own sk.cl (by omega) e rfl ⟨sg, t, [1], 6, rfl, ⟨dx, e⟩, .inl (.inl ht), by decide, by decide, PN.leaf rfl 4, ?_⟩⟩
  exact (or_calls (P := P) (w := w) (K := K) (mg := mg) (base := base) (x := BI.mk (SG.hasB [1] 6) 6) L (by
    rw [show (BI.mk (SG.hasB [1] 6) 6 ||| 5 : Nat) = 7 by decide +kernel]
    exact q)).mono (by omega)
theorem b_join (sk : SignsK P w K mg base CS) (ma : CoaAt CO H b sg (.ref f)) (L : LamN H f orE) (hs : SG.Sg CS 6 H sg) (q : Q (.int 15) H) : spCJoin P w K mg base CO [.ref b, .int 2, .int 8] H Q E := by
  obtain ⟨dx, e⟩ := hs
  refine ⟨b, sg, f, true, .int 2, .int 8, rfl, ma, fun _ => L.fnk, ask_of sk.joi sk.cl (by omega) e rfl ⟨sg, 2, 8, rfl, PN.leaf rfl 4, ?_⟩⟩
  exact (or_calls (P := P) (w := w) (K := K) (mg := mg) (base := base) (x := 2 ||| 8) L q).mono (by omega)
theorem b_pen {t : Addr} {fv : V} (sk : SignsK P w K mg base CS) (ma : CoaAt CO H b sg fv) (hs : SG.Sg CS 6 H sg) (ht : H t = some (.tup [.int 1, .int 3, .int 4])) (q : ∀ H', Same H H' → Q (.int 2) H') : spCAsk P w K mg base CO "penalty" [.ref b, .int 8, .ref t] H Q E := by
  obtain ⟨dx, e⟩ := hs
  refine ⟨b, sg, fv, _, _, rfl, ma, ask_of sk.pen sk.cl (by omega) e rfl ⟨sg, t, fun k => k == 3, [1, 3, 4], 6, ?_, ⟨dx, e⟩, .inl (.inl ht), by decide, by decide, fun H' s => ?_⟩⟩
  · rw [show BI.mk (fun k => k == 3) 6 = 8 by decide +kernel]
    rfl
  · rw [show BI.cnt (fun k => ((k == 3) || SG.hasB [1, 3, 4] 6 k) && !(k == 3)) 6 = 2 by decide +kernel]
    exact q H' s
/-- it has no distances -/
theorem b_none {fv x y : V} {m : Str} (sk : SignsK P w K mg base CS) (kM : PySem.W.kitOne K (.ref CS) (.ref CM) = some false) (ma : CoaAt CO H b sg fv) (hs : SG.Sg CS 6 H sg) (q : Ng CN E H m) : spCDist P w K mg base CO CM CN m [.ref b, x, y] H Q E := by
  obtain ⟨dx, e⟩ := hs
  exact ⟨b, sg, fv, x, y, rfl, ma, sg, CS, dx, _, x, y, rfl, e, sk.ik, .inr ⟨kM, q⟩⟩
theorem w_own {CT dx : Addr} (cl : Cls K CT) (c : CalM P w K mg base CX0 CT "own" 3 ["self", "key"] ST.spOwn) (ma : CoaAt CO H b sg (.ref f)) (L : LamN H f cutE) (e : H sg = some (.ins CT dx [])) (q : Q (.str "ab") H) : spCOwn P w K mg base CO [.ref b, .str "abcd"] H Q E := by
  refine ⟨b, sg, f, true, .str "abcd", rfl, ma, fun _ => L.fnk, ask_of c cl (by omega) e rfl ⟨sg, .str "abcd", rfl, PN.leaf rfl 4, ?_⟩⟩
  exact (cut_calls (P := P) (w := w) (K := K) (mg := mg) (base := base) L q).mono (by omega)
end
/-- a def that is told with its text -/
structure Tells (K : PySem.W.Frag) (mg : Str → Option Value) (nm a : Str) (st : Stmt) : Prop where
  ex : ∃ (g : Addr) (oc dV kV doc pm cdv ct : Value) (od an : Option Addr) (osl : Array (Option Value)), mg nm = some (.ref g) ∧ PySem.W.keepIn K (.ref g) = true ∧
    K.lookup g = some ⟨oc, od, .func (PySem.W.fnOf nm nm (defArgs st) (defBody st) (defScope st) dV kV doc pm an cdv ct), osl⟩ ∧ PySem.W.codeIn K cdv nm = true ∧ L2.Binds K (PySem.W.fnOf nm nm (defArgs st) (defBody st) (defScope st) dV kV doc pm an cdv ct) [a] []
theorem tells_of {nm a : Str} {st : Stmt} {f : Addr} {fd : FuncData} (F : FnP K nm nm st f fd) (m : mg nm = some (.ref f)) (b : L2.Binds K fd [a] []) : Tells K mg nm a st := by
  obtain ⟨oc, od, dV, kV, doc, pm, an, cdv, ct, osl, rfl, lk, hcd, _, _⟩ := F.ex
  exact ⟨⟨f, oc, dV, kV, doc, pm, cdv, ct, od, an, osl, m, F.kp, lk, hcd, b⟩⟩
theorem pe_name {X : Cx} {T : List (Addr × Str)} {CN c P0 : Addr} {k : Nat} {params : Arguments} {body : Expr} {scope : Scope} {p lpos pos : Pos} {t : XK → TE} (R : Tells X.K X.mg "_law_name_of" "_law_ask_here" s_law_name_of) (nf : NgF X.K X.mg CN) (TB : LamX.TabB X.base X.mg c P0) (hcode : X.env.code = .ref c)
    (hmT : (P0, X.env.qual ++ "<lambda>") ∈ T) (hu : ∀ p ∈ T, p.1 = P0 → p.2 = X.env.qual ++ "<lambda>") (hr : Room (k + 2) X.A) (hg : Gl X "_law_name_of") (L : LamX.LamS X.env.scope scope) (hdef : defaultsOf params X.env = ([], []))
    (hbind : ∀ (q : Str) (cl : List (Str × Addr)) (pm cv ctv : Value), bindArgs (PySem.W.kla_fn "<lambda>" q params body scope cl pm cv ctv) ⟨[], []⟩ = pure [])
    (hbody : ∀ (A : Around) (outer : List Env) (s : Shared) (H : Hp) (E : XK) (f c' : Addr), Room k (A.deeper (LamX.lamEnv X scope s.heap.objs.size f c')) → PE (LamX.lamCx X A outer s H E scope f c') body (t E)) :
    PE X (.Call (.Name "_law_name_of" p) [.Lambda params body scope lpos] [] pos) (LamX.tLam T (TTn CN) t) := by
  obtain ⟨g, oc, dV, kV, doc, pm, cdv, ct, od, an, osl, hm, hk, lk, hcg, hb⟩ := R.ex
  exact LamX.pe_lamcall hg hm hk lk hcg hb sc_law_name_of rfl (.inl rfl) (gives_name nf) TB hcode hmT hu hr L hdef hbind hbody
/-- the law's state while labels are squeezed -/
structure CSt (K : PySem.W.Frag) (CO CR CS p b ba bi sg fw fo : Addr) (x c n : Int) (H Hi : Hp) : Prop where
  kn : SL.KpN p H Hi
  hp : Hi p = some (.lst [.int x, .int c])
  tb : LamX.Tabs (TT K) Hi
  ma : CoaAt CO Hi b ba (.ref fw)
  wd : Wide Hi fw n
  br : ∃ dx, Hi ba = some (.ins CR dx [])
  mb : CoaAt CO Hi bi sg (.ref fo)
  lo : LamN Hi fo orE
  sg : SG.Sg CS 6 Hi sg
theorem CSt.ext {CO CR CS p b ba bi sg fw fo : Addr} {x c n : Int} {H Hi Hj : Hp} (S : CSt K CO CR CS p b ba bi sg fw fo x c n H Hi) (s : LamX.ExtN Hi Hj) (t : LamX.Tabs (TT K) Hj) : CSt K CO CR CS p b ba bi sg fw fo x c n H Hj :=
  let ⟨dx, e⟩ := S.br
  let ⟨dy, f⟩ := S.sg
  ⟨S.kn.trans (SL.KpN.ext s), s _ _ S.hp (fun _ z => by cases z), t, S.ma.ext s, S.wd.ext s, ⟨dx, s _ _ e fun _ z => by cases z⟩, S.mb.ext s, S.lo.ext s, ⟨dy, s _ _ f fun _ z => by cases z⟩⟩
theorem CSt.same {CO CR CS p b ba bi sg fw fo : Addr} {x c n : Int} {H Hi Hj : Hp} (S : CSt K CO CR CS p b ba bi sg fw fo x c n H Hi) (s : Same Hi Hj) : CSt K CO CR CS p b ba bi sg fw fo x c n H Hj := S.ext (SL.ExtN.of_same s) (SL.Tabs.same S.tb s)
/-- the well is drawn from -/
theorem CSt.draw {CO CR CS p b ba bi sg fw fo : Addr} {x c n x' c' : Int} {H Hi Hj : Hp} (S : CSt K CO CR CS p b ba bi sg fw fo x c n H Hi) (s : Kp p Hi Hj) (e : Hj p = some (.lst [.int x', .int c'])) : CSt K CO CR CS p b ba bi sg fw fo x' c' n H Hj :=
  have k := KL.kp S.hp s
  let ⟨dx, e1⟩ := S.br
  let ⟨dy, f1⟩ := S.sg
  let ⟨d1, g1⟩ := S.ma
  let ⟨d2, g2⟩ := S.mb
  let ⟨q, cl, c0, C⟩ := S.wd
  ⟨S.kn.trans (SL.KpN.of s), e, SL.Tabs.kp S.tb S.hp s, ⟨d1, k.ins g1⟩, ⟨q, cl, c0, k.clo C⟩, ⟨dx, k.ins e1⟩, ⟨d2, k.ins g2⟩, S.lo.kl k, ⟨dy, k.ins f1⟩⟩
theorem CSt.put {CO CR CS p b ba bi sg fw fo l : Addr} {x c n : Int} {H H0 Hi : Hp} {xs ys : List V} (S : CSt K CO CR CS p b ba bi sg fw fo x c n H Hi) (S0 : CSt K CO CR CS p b ba bi sg fw fo x c n H H0) (nl : H0 l = none) (hl : Hi l = some (.lst xs)) :
    CSt K CO CR CS p b ba bi sg fw fo x c n H (upd Hi l (.lst ys)) :=
  have k : KL Hi (upd Hi l (.lst ys)) := KL.set hl
  let ⟨dx, e1⟩ := S.br
  let ⟨dy, f1⟩ := S.sg
  let ⟨d1, g1⟩ := S.ma
  let ⟨d2, g2⟩ := S.mb
  let ⟨q, cl, c0, C⟩ := S.wd
  ⟨fun b o nb m e => (upd_ne (ne_of_none (S0.kn b o nb m e) nl)).trans (S.kn b o nb m e), (upd_ne (ne_of_none S0.hp nl)).trans S.hp, SL.Tabs.kp S.tb hl Kp.set, ⟨d1, k.ins g1⟩, ⟨q, cl, c0, k.clo C⟩, ⟨dx, k.ins e1⟩, ⟨d2, k.ins g2⟩, S.lo.kl k, ⟨dy, k.ins f1⟩⟩
theorem ne_tup2 {H : Hp} {r r' : Addr} {a b : Int} {Q : VK} (h1 : H r = some (.tup [.int a, .int b])) (h2 : H r' = some (.tup [.int a, .int b])) (q : Q (.bl false) H) : DN.rEqD true (.ref r) (.ref r') H Q :=
  rNe_same (D := .tuple [.int a, .int b]) (.tup h1 (.cons (.int _) (.cons (.int _) .nil))) (.tup h2 (.cons (.int _) (.cons (.int _) .nil))) rfl (by simp [PyData.depth, PyData.depthAll]) q
theorem ne_int {H : Hp} {a : Int} {Q : VK} (q : Q (.bl false) H) : DN.rEqD true (.int a) (.int a) H Q := rNe_same (D := .int a) (.int _) (.int _) rfl (by simp [PyData.depth]) q
theorem ne_bl {H : Hp} {a : Bool} {Q : VK} (q : Q (.bl false) H) : DN.rEqD true (.bl a) (.bl a) H Q := rNe_same (D := .bool a) (.bl _) (.bl _) rfl (by simp [PyData.depth]) q
theorem ne_ints {H : Hp} {r r' : Addr} {ns : List Int} {Q : VK} (h1 : H r = some (.lst (ns.map V.int))) (h2 : H r' = some (.lst (ns.map V.int))) (q : Q (.bl false) H) : DN.rEqD true (.ref r) (.ref r') H Q :=
  rNe_same (D := .list (ns.map PyData.int)) (.lst h1 (shw_ints ns)) (.lst h2 (shw_ints ns)) (by simp only [PyData.canLay0]; exact lay_ints ns) (by simp [PyData.depth, depth_ints]) q
end
end K16
set_option Elab.async false
set_option linter.all false
set_option maxRecDepth 100000
set_option maxHeartbeats 2000000
namespace K16
open PySem PySem.Spec PyProof.Rows L2 CM DN GR
section
variable {P : Program} {w : World} {K : PySem.W.Frag} {mg : Str → Option Value} {base : Heap}
theorem ok_coarse {CO CR CS CT CM CN fO fS : Addr} {fd fdO fdS : FuncData} {k : Nat} {gO : List Value → List Value → List Value} (F : FnP K "_law_coarse_right" "_law_coarse_right" s_law_coarse_right (He.fAd K ("_law_coarse_right", none)) fd) (TB : LamX.TabB base mg (He.cT K ("_law_coarse_right", none)).1 (He.cT K ("_law_coarse_right", none)).2) (ds : Dst K)
    (m_list : mg "list" = none) (m_abs : mg "abs" = none) (R : Tells K mg "_law_name_of" "_law_ask_here" s_law_name_of) (nf : NgF K mg CN) (rk : RangesK P w K mg base CR) (sk : SignsK P w K mg base CS) (cl_T : Cls K CT) (C_T : CalM P w K mg base CX0 CT "own" 3 ["self", "key"] ST.spOwn)
    (kR : PySem.W.kitOne K (.ref CR) (.ref CM) = some true) (kS : PySem.W.kitOne K (.ref CS) (.ref CM) = some false)
    (C_draw : Cal P w K mg base CX0 "_law_draw" 1 ["_law_well_here", "_law_many"] spDraw) (C_span : Cal P w K mg base CX0 "_law_span" 2 ["_law_well_here"] spSpan) (C_wider : Cal P w K mg base CX0 "_law_wider" 1 ["_law_step"] (spWider K))
    (M_R : MkO K CR) (m_R : mg "Ranges" = some (.ref CR)) (M_T : MkO K CT) (m_T : mg "Stems" = some (.ref CT)) (MO : MakeM P w K mg base "Coarse" CO fO fdO ["self", "kind", "squeeze"] (spCInit CO)) (kb_O : KBn K fdO ["self", "kind", "squeeze"] 1 ["kind", "squeeze"] gO (fun us zs => us ++ zs))
    (MS : MakeM P w K mg base "Signs" CS fS fdS ["self", "width"] (SG.spMake CS)) (cl_C : Cls K CO)
    (C_own : CalM P w K mg base CX0 CO "own" 10 ["self", "key"] (spCOwn P w K mg base CO)) (C_join : CalM P w K mg base CX0 CO "join" 10 ["self", "one", "other"] (spCJoin P w K mg base CO))
    (C_con : CalM P w K mg base CX0 CO "consistent" 8 ["self", "label", "question"] (spCAsk P w K mg base CO "consistent")) (C_mat : CalM P w K mg base CX0 CO "matches" 8 ["self", "key", "question"] (spCAsk P w K mg base CO "matches"))
    (C_pen : CalM P w K mg base CX0 CO "penalty" 8 ["self", "label", "key"] (spCAsk P w K mg base CO "penalty")) (C_sid : CalM P w K mg base CX0 CO "sides" 8 ["self", "labels"] (spCSides P w K mg base CO))
    (C_dis : CalM P w K mg base (L2.CX P w) CO "distance" 8 ["self", "key", "point"] (spCDist P w K mg base CO CM CN "distance")) (C_bou : CalM P w K mg base (L2.CX P w) CO "bound" 8 ["self", "label", "point"] (spCDist P w K mg base CO CM CN "bound")) :
    FnOk P w K mg base CX0 (k + 10 + 1) (He.fAd K ("_law_coarse_right", none)) fd ["_law_well_here"] (spRight K) := by
  obtain ⟨f_law_draw, fd_law_draw, G_law_draw, b_law_draw, m_law_draw, k_law_draw⟩ := C_draw
  obtain ⟨f_law_span, fd_law_span, G_law_span, b_law_span, m_law_span, k_law_span⟩ := C_span
  obtain ⟨f_law_wider, fd_law_wider, G_law_wider, b_law_wider, m_law_wider, k_law_wider⟩ := C_wider
  obtain ⟨f1, g1, G_Cown, b_Cown, me_Cown⟩ := C_own
  obtain ⟨f2, g2, G_Cjoin, b_Cjoin, me_Cjoin⟩ := C_join
  obtain ⟨f3, g3, G_Cconsistent, b_Cconsistent, me_Cconsistent⟩ := C_con
  obtain ⟨f4, g4, G_Cmatches, b_Cmatches, me_Cmatches⟩ := C_mat
  obtain ⟨f5, g5, G_Cpenalty, b_Cpenalty, me_Cpenalty⟩ := C_pen
  obtain ⟨f6, g6, G_Csides, b_Csides, me_Csides⟩ := C_sid
  obtain ⟨f7, g7, G_Cdistance, b_Cdistance, me_Cdistance⟩ := C_dis
  obtain ⟨f8, g8, G_Cbound, b_Cbound, me_Cbound⟩ := C_bou
  have cl_R := rk.cl
  obtain ⟨r2, s2, G_Rjoin, b_Rjoin, me_Rjoin⟩ := rk.joi
  obtain ⟨r3, s3, G_Rconsistent, b_Rconsistent, me_Rconsistent⟩ := rk.con
  obtain ⟨r4, s4, G_Rmatches, b_Rmatches, me_Rmatches⟩ := rk.mat
  obtain ⟨r5, s5, G_Rpenalty, b_Rpenalty, me_Rpenalty⟩ := rk.pen
  obtain ⟨r6, s6, G_Rsides, b_Rsides, me_Rsides⟩ := rk.sid
  obtain ⟨r8, s8, G_Rbound, b_Rbound, me_Rbound⟩ := rk.bou
  refine SL.okC F sc_law_coarse_right (fun vs H Q E h => ?_) (fun A outer s H vs Q E hr h => ?_)
  · obtain ⟨p, x, c, rfl, _⟩ := h
    rfl
  · obtain ⟨p, x, c, rfl, hp, hT, q⟩ := h
    refine ⟨_, PSs.nox (pss_cons (ps_par (i := 1) (j := 2) rfl sc_law_coarse_right.nd rfl rfl (by decide) rfl rfl (pa_cons (pe_op op_add pe_int (pe_call G_law_draw (hr.mono (by omega)) (by rfl) m_law_draw k_law_draw b_law_draw .nil pass0 (pa_cons (pv 0) (pa_cons pe_int pa_nil)))) (pa_cons (pe_make00 M_R (by rfl) m_R) pa_nil)) (by rfl))
    (pss_cons (ps_asg (pe_tup (pa_cons (pe_make MO.M MO.G (hr.mono (by omega)) (by rfl) MO.m MO.b .nil pass0 (pa_cons (pv 2) (pa_cons (pe_call G_law_wider (hr.mono (by omega)) (by rfl) m_law_wider k_law_wider b_law_wider .nil pass0 (pa_cons (pv 1) pa_nil)) pa_nil))) (pa_cons (pe_makeK0 MO.M MO.G (hr.mono (by omega)) (by rfl) MO.m kb_O pass0 (pk_cons (pe_make MS.M MS.G (hr.mono (by omega)) (by rfl) MS.m MS.b .nil pass0 (pa_cons pe_int pa_nil)) (pk_cons (CLO.pe_lamV (T := TT K) TB rfl (List.mem_of_getElem? (i := 5) rfl) (tt_q ds (i := 5) rfl) rfl (NdefX.ndef_free (sc := defScope s_law_coarse_right) (fr := []) (by decide +kernel))) pk_nil))) pa_nil))) (pg_tup rfl (pgs_cons (pg_name (i := 3) sc_law_coarse_right.nd rfl (.inl rfl)) (pgs_cons (pg_name (i := 11) sc_law_coarse_right.nd rfl (.inr rfl)) (pgs_nil)))))
    (pss_cons (ps_par (i := 4) (j := 5) rfl sc_law_coarse_right.nd rfl rfl (by decide) rfl rfl (pa_cons (pe_call G_law_span (hr.mono (by omega)) (by rfl) m_law_span k_law_span b_law_span .nil pass0 (pa_cons (pv 0) pa_nil)) (pa_cons (pe_call G_law_span (hr.mono (by omega)) (by rfl) m_law_span k_law_span b_law_span .nil pass0 (pa_cons (pv 0) pa_nil)) pa_nil)) (by rfl))
    (pss_cons (ps_par (i := 6) (j := 7) rfl sc_law_coarse_right.nd rfl rfl (by decide) rfl rfl (pa_cons (pe_op op_sub (pe_call G_law_draw (hr.mono (by omega)) (by rfl) m_law_draw k_law_draw b_law_draw .nil pass0 (pa_cons (pv 0) (pa_cons pe_int pa_nil))) pe_int) (pa_cons (pe_call G_law_draw (hr.mono (by omega)) (by rfl) m_law_draw k_law_draw b_law_draw .nil pass0 (pa_cons (pv 0) (pa_cons pe_int pa_nil))) pa_nil)) (by rfl))
    (pss_cons (ps_set (i := 8) sc_law_coarse_right.nd rfl (.inl rfl) (pe_call G_law_wider (hr.mono (by omega)) (by rfl) m_law_wider k_law_wider b_law_wider .nil pass0 (pa_cons (pv 1) pa_nil)))
    (pss_cons (ps_if (PW.pt (pw_or (pt_cmpR (DN.op_neD hr.units) (pe_meth ((pv 3)) cl_C me_Cown G_Cown (hr.mono (by omega)) b_Cown .nil pass0 (pa_cons (pv 6) pa_nil)) (CLO.pe_vcall (P := P) (w := w) (K := K) (mg := mg) (base := base) (CX := CX0) (n := 1) (pv 8) (hr.mono (by omega)) pass0 (pa_cons (pe_tup (pa_cons (pv 6) (pa_cons (pv 6) pa_nil))) pa_nil)) (nomark _)) (pw_or1 (pt_cmpR (DN.op_neD hr.units) (pe_meth ((pv 3)) cl_C me_Cjoin G_Cjoin (hr.mono (by omega)) b_Cjoin .nil pass0 (pa_cons (pv 4) (pa_cons (pv 5) pa_nil))) (CLO.pe_vcall (P := P) (w := w) (K := K) (mg := mg) (base := base) (CX := CX0) (n := 1) (pv 8) (hr.mono (by omega)) pass0 (pa_cons (pe_meth ((pv 2)) cl_R me_Rjoin G_Rjoin (hr.mono (by omega)) b_Rjoin .nil pass0 (pa_cons (pv 4) (pa_cons (pv 5) pa_nil))) pa_nil)) (nomark _))))) (pss_one (ps_ret pe_bl)) (pss_nil))
    (pss_cons (ps_if (PW.pt (pw_or (pt_cmpR (DN.op_neD hr.units) (pe_meth ((pv 3)) cl_C me_Cmatches G_Cmatches (hr.mono (by omega)) b_Cmatches .nil pass0 (pa_cons (pv 6) (pa_cons (pv 4) pa_nil))) (pe_meth ((pv 2)) cl_R me_Rmatches G_Rmatches (hr.mono (by omega)) b_Rmatches .nil pass0 (pa_cons (pv 6) (pa_cons (pv 4) pa_nil))) (nomark _)) (pw_or1 (pt_cmpR (DN.op_neD hr.units) (pe_meth ((pv 3)) cl_C me_Cconsistent G_Cconsistent (hr.mono (by omega)) b_Cconsistent .nil pass0 (pa_cons (pv 4) (pa_cons (pv 5) pa_nil))) (pe_meth ((pv 2)) cl_R me_Rconsistent G_Rconsistent (hr.mono (by omega)) b_Rconsistent .nil pass0 (pa_cons (pv 4) (pa_cons (pv 5) pa_nil))) (nomark _))))) (pss_one (ps_ret pe_bl)) (pss_nil))
    (pss_cons (ps_if (PW.pt (pw_or (pt_cmpR (DN.op_neD hr.units) (pe_meth ((pv 3)) cl_C me_Cpenalty G_Cpenalty (hr.mono (by omega)) b_Cpenalty .nil pass0 (pa_cons (pv 4) (pa_cons (pv 6) pa_nil))) (pe_meth ((pv 2)) cl_R me_Rpenalty G_Rpenalty (hr.mono (by omega)) b_Rpenalty .nil pass0 (pa_cons (pv 4) (pa_cons (pv 6) pa_nil))) (nomark _)) (pw_or1 (pt_cmpR (DN.op_neD hr.units) (pe_meth ((pv 3)) cl_C me_Cbound G_Cbound (hr.mono (by omega)) b_Cbound .nil passF (pa_cons (pv 4) (pa_cons (pv 7) pa_nil))) (pe_meth ((pv 2)) cl_R me_Rbound G_Rbound (hr.mono (by omega)) b_Rbound .nil pass0 (pa_cons (pv 4) (pa_cons (pv 7) pa_nil))) (nomark _))))) (pss_one (ps_ret pe_bl)) (pss_nil))
    (pss_cons (ps_if (PW.pt (pw_or (pt_cmpR (DN.op_neD hr.units) (pe_callTy call_list_of (by rfl) m_list (by decide +kernel) (pa_cons (pe_meth ((pv 3)) cl_C me_Csides G_Csides (hr.mono (by omega)) b_Csides .nil pass0 (pa_cons (pe_lst (pa_cons (pv 4) (pa_cons (pv 5) pa_nil))) pa_nil)) pa_nil)) (pe_callTy call_list_of (by rfl) m_list (by decide +kernel) (pa_cons (pe_meth ((pv 2)) cl_R me_Rsides G_Rsides (hr.mono (by omega)) b_Rsides .nil pass0 (pa_cons (pe_lst (pa_cons (pv 4) (pa_cons (pv 5) pa_nil))) pa_nil)) pa_nil)) (nomark _)) (pw_or1 (pt_cmpR (DN.op_neD hr.units) (pe_meth ((pv 3)) cl_C me_Cdistance G_Cdistance (hr.mono (by omega)) b_Cdistance .nil passF (pa_cons (pv 6) (pa_cons (pv 7) pa_nil))) (pe_callB call_abs (by rfl) m_abs (by decide +kernel) (pa_cons (pe_op op_sub (pv 6) (pv 7)) pa_nil)) (nomark _))))) (pss_one (ps_ret pe_bl)) (pss_nil))
    (pss_cons (ps_if (pt_cmpR (DN.op_neD hr.units) (pe_lst (pa_cons (pe_meth ((pv 11)) cl_C me_Cown G_Cown (hr.mono (by omega)) b_Cown .nil pass0 (pa_cons (pe_tup (pa_cons pe_int pa_nil)) pa_nil)) (pa_cons (pe_meth ((pv 11)) cl_C me_Cjoin G_Cjoin (hr.mono (by omega)) b_Cjoin .nil pass0 (pa_cons pe_int (pa_cons pe_int pa_nil))) (pa_cons (pe_meth ((pv 11)) cl_C me_Cpenalty G_Cpenalty (hr.mono (by omega)) b_Cpenalty .nil pass0 (pa_cons pe_int (pa_cons (pe_tup (pa_cons pe_int (pa_cons pe_int (pa_cons pe_int pa_nil)))) pa_nil))) pa_nil)))) (pe_lst (pa_cons pe_int (pa_cons pe_int (pa_cons pe_int pa_nil)))) (nomark _)) (pss_one (ps_ret pe_bl)) (pss_nil))
    (pss_cons (ps_set (i := 9) sc_law_coarse_right.nd rfl (.inl rfl) (pe_lst (pa_cons (pe_name (k := k + 8) R nf TB rfl (List.mem_of_getElem? (i := 5) rfl) (tt_q ds (i := 5) rfl) (hr.mono (by omega)) (by rfl) (LamX.lamS_by (sc := defScope s_law_coarse_right) (by decide +kernel)) rfl (fun _ _ _ _ _ => rfl) (fun A outer s H E f c' hr => pe_meth (pv 11) cl_C me_Cdistance G_Cdistance (hr.mono (by omega)) b_Cdistance .nil (passes_call (takes_of rfl rfl rfl rfl) (fun _ _ _ _ h => h)) (pa_cons (pe_tup (pa_cons pe_int pa_nil)) (pa_cons pe_int pa_nil)))) pa_nil)))
    (pss_cons (ps_expr (pe_bm PySem.F.plainAttrs_list PySem.F.slot_list_append PySem.F.type_list_append mt_append (pv 9) (pa_cons (pe_name (k := k + 8) R nf TB rfl (List.mem_of_getElem? (i := 5) rfl) (tt_q ds (i := 5) rfl) (hr.mono (by omega)) (by rfl) (LamX.lamS_by (sc := defScope s_law_coarse_right) (by decide +kernel)) rfl (fun _ _ _ _ _ => rfl) (fun A outer s H E f c' hr => pe_meth (pv 11) cl_C me_Cbound G_Cbound (hr.mono (by omega)) b_Cbound .nil (passes_call (takes_of rfl rfl rfl rfl) (fun _ _ _ _ h => h)) (pa_cons pe_int (pa_cons pe_int pa_nil)))) pa_nil)))
    (pss_cons (ps_set (i := 10) sc_law_coarse_right.nd rfl (.inl rfl) (pe_make MO.M MO.G (hr.mono (by omega)) (by rfl) MO.m MO.b .nil pass0 (pa_cons (pe_make00 M_T (by rfl) m_T) (pa_cons (CLO.pe_lamV (T := TT K) TB rfl (List.mem_of_getElem? (i := 5) rfl) (tt_q ds (i := 5) rfl) rfl (NdefX.ndef_free (sc := defScope s_law_coarse_right) (fr := []) (by decide +kernel))) pa_nil))))
    (pss_one (ps_ret (pe_and (pe_cmpR (DN.op_eqD hr.units) (pv 9) (pe_lst (pa_cons pe_str (pa_cons pe_str pa_nil))) (nomark _)) (pe_one (pe_cmpR (DN.op_eqD hr.units) (pe_meth ((pv 10)) cl_C me_Cown G_Cown (hr.mono (by omega)) b_Cown .nil pass0 (pa_cons pe_str pa_nil)) pe_str (nomark _))))))))))))))))))), ?_⟩
    -- step, base
    refine ⟨_, rfl, p, x, c, 9, rfl, hp, by decide, .of (k := 10) (by decide) (by decide), fun a x1 c1 a0 a1 => ?_⟩
    refine ⟨1, a, rfl, rfl, fun bs dx nb nd ne => ?_⟩
    refine ⟨_, _, rfl, ?_⟩
    have hp1 : (upd H p (.lst [.int x1, .int c1])) p = some (.lst [.int x1, .int c1]) := upd_same
    have kn1 : SL.KpN p H (upd H p (.lst [.int x1, .int c1])) := SL.KpN.of Kp.set
    have t1 := SL.Tabs.kp hT hp (Kp.set (o := .lst [.int x1, .int c1]))
    generalize upd H p (.lst [.int x1, .int c1]) = H1 at nb nd hp1 kn1 t1
    have s2 : Same H1 (upd (upd H1 dx (.own bs)) bs (.ins CR dx [])) := fun b u e => by
      rw [upd_ne (ne_of_none e nb), upd_ne (ne_of_none e nd)]
      exact e
    have br2 : (upd (upd H1 dx (.own bs)) bs (.ins CR dx [])) bs = some (.ins CR dx []) := upd_same
    generalize upd (upd H1 dx (.own bs)) bs (.ins CR dx []) = H2 at s2 br2
    -- made, bits
    refine ⟨_, rfl, _, rfl, 1 + a, rfl, SL.Tabs.same t1 s2, fun fw H3 e3 t3 W3 => ?_⟩
    refine fun ma dm nm nd ne => ⟨ma, dm, .ref bs, .ref fw, rfl, upd_same, rfl, ?_⟩
    have s4 := same_made (C := CO) (o := .ins CO dm [("kind", .ref bs), ("squeeze", .ref fw)]) nm nd
    have ma4 : CoaAt CO (upd (upd (upd H3 dm (.own ma)) ma (.ins CO dm [])) ma (.ins CO dm [("kind", .ref bs), ("squeeze", .ref fw)])) ma bs (.ref fw) := ⟨dm, upd_same⟩
    generalize upd (upd (upd H3 dm (.own ma)) ma (.ins CO dm [])) ma (.ins CO dm [("kind", .ref bs), ("squeeze", .ref fw)]) = H4 at s4 ma4
    refine fun sg dg ng nd ne => ⟨sg, dg, 6, rfl, upd_same, by decide, by decide, rfl, ?_⟩
    have s5 := same_made (C := CS) (o := .ins CS dg [("bits", .int 6)]) ng nd
    have sg5 : SG.Sg CS 6 (upd (upd (upd H4 dg (.own sg)) sg (.ins CS dg [])) sg (.ins CS dg [("bits", .int 6)])) sg := ⟨dg, upd_same⟩
    have t5 := SL.Tabs.same (SL.Tabs.same t3 s4) s5
    refine ⟨t5, fun fo c' H6 e6 nn6 t6 f60 f61 c61 => ?_⟩
    refine ⟨rfl, rfl, fun bi db nbi ndb ne => ⟨bi, db, .ref sg, .ref fo, rfl, upd_same, rfl, ?_⟩⟩
    have s7 := same_made (C := CO) (o := .ins CO db [("kind", .ref sg), ("squeeze", .ref fo)]) nbi ndb
    have mb7 : CoaAt CO (upd (upd (upd H6 db (.own bi)) bi (.ins CO db [])) bi (.ins CO db [("kind", .ref sg), ("squeeze", .ref fo)])) bi sg (.ref fo) := ⟨db, upd_same⟩
    generalize upd (upd (upd H6 db (.own bi)) bi (.ins CO db [])) bi (.ins CO db [("kind", .ref sg), ("squeeze", .ref fo)]) = H7 at s7 mb7
    have L6 : LamN H6 fo orE := LamN.mk (q := ("_law_coarse_right" ++ ".<locals>.") ++ "<lambda>") (c' := c') f61 c61
    have e47 : LamX.ExtN H4 H7 := ((SL.ExtN.of_same s5).trans e6).trans (SL.ExtN.of_same s7)
    have e37 := (SL.ExtN.of_same s4).trans e47
    have S7 : CSt K CO CR CS p ma bs bi sg fw fo x1 c1 (1 + a) H H7 :=
      ⟨(kn1.trans (SL.KpN.of (Kp.same s2))).trans (SL.KpN.ext (e3.trans e37)), (e3.trans e37) _ _ (s2 _ _ hp1) (fun _ z => by cases z), SL.Tabs.same t6 s7, ma4.ext e47, W3.ext e37, ⟨dx, (e3.trans e37) _ _ br2 (fun _ z => by cases z)⟩, mb7, L6.ext (SL.ExtN.of_same s7),
        let ⟨dy, z⟩ := sg5; ⟨dy, (e6.trans (SL.ExtN.of_same s7)) _ _ z (fun _ z => by cases z)⟩⟩
    refine ⟨by show 2 ≤ sizeLine; decide, fun tp ntp => ?_⟩
    refine ⟨tp, _, rfl, .inl (.inl upd_same), rfl, _, _, rfl, _, _, rfl, rfl, ?_⟩
    have S8 := S7.same (same_upd (o := .tup [.ref ma, .ref bi]) ntp)
    generalize upd H7 tp (.tup [.ref ma, .ref bi]) = H8 at S8
    -- tag, more, item, spot
    refine ⟨_, rfl, p, x1, c1, rfl, S8.hp, fun tg H9 x2 c2 lo hi k9 hp9 tg9 l0 l1 l2 => ?_⟩
    have S9 := S8.draw k9 hp9
    refine ⟨_, rfl, p, x2, c2, rfl, hp9, fun mo H10 x3 c3 lo' hi' k10 hp10 mo10 m0 m1 m2 => ?_⟩
    have S10 := S9.draw k10 hp10
    have tg10 := (KL.kp hp9 k10).tup tg9
    refine ⟨_, _, rfl, ?_⟩
    refine ⟨_, rfl, p, x3, c3, 41, rfl, hp10, by decide, .of (k := 10) (by decide) (by decide), fun i x4 c4 i0 i1 => ?_⟩
    refine ⟨i, 20, rfl, rfl, ?_⟩
    refine ⟨_, rfl, p, x4, c4, 41, rfl, upd_same, by decide, .of (k := 10) (by decide) (by decide), fun j x5 c5 j0 j1 => ?_⟩
    have k11 : Kp p H10 (upd (upd H10 p (.lst [.int x4, .int c4])) p (.lst [.int x5, .int c5])) := Kp.set.trans Kp.set
    have S11 := S10.draw k11 upd_same
    have tg11 := (KL.kp hp10 k11).tup tg10
    have mo11 := (KL.kp hp10 k11).tup mo10
    generalize upd (upd H10 p (.lst [.int x4, .int c4])) p (.lst [.int x5, .int c5]) = H11 at S11 tg11 mo11
    refine ⟨_, _, rfl, ?_⟩
    -- wide
    refine ⟨_, rfl, 1 + a, rfl, S11.tb, fun fv H12 e12 t12 W12 => ?_⟩
    have S12 := S11.ext e12 t12
    have tg12 := e12 _ _ tg11 fun _ z => by cases z
    have mo12 := e12 _ _ mo11 fun _ z => by cases z
    obtain ⟨item, hitem⟩ : ∃ item, item = i - 20 := ⟨_, rfl⟩
    have it0 : -1000 < i - 20 := by omega
    have it1 : i - 20 < 1000 := by omega
    have n0 : 0 < 1 + a := by omega
    have n1 : 1 + a < 1000 := by omega
    -- own
    obtain ⟨d12, b12⟩ := S12.ma
    refine ⟨_, rfl, ma, d12, _, rfl, b12, rfl, _, rfl, ?_⟩
    obtain ⟨e12b, br12⟩ := S12.br
    dsimp only [tNil]
    refine c_own rk S12.ma S12.wd br12 n0 n1 it0 it1 fun r1 H13 s13 hr1 => ?_
    have S13 := S12.same s13
    have W13 := W12.ext (SL.ExtN.of_same s13)
    refine ⟨_, rfl, fv, true, rfl, fun _ => wide_fnk W13, _, rfl, _, rfl, by show 2 ≤ sizeLine; decide, fun u1 nu1 => ?_⟩
    have s14 := same_upd (o := .tup [.int (i - 20), .int (i - 20)]) nu1
    refine wide_calls (W13.ext (SL.ExtN.of_same s14)) upd_same n0 n1 it0 it1 it0 it1 fun r2 H15 s15 hr2 => ?_
    have s35 := s14.trans s15
    have S15 := S13.same s35
    have W15 := W13.ext (SL.ExtN.of_same s35)
    have tg15 := (s13.trans s35) _ _ tg12
    have mo15 := (s13.trans s35) _ _ mo12
    refine ne_tup2 (s35 _ _ hr1) hr2 ⟨false, rfl, iteF ?_⟩
    -- join
    obtain ⟨d15, b15⟩ := S15.ma
    obtain ⟨e15b, br15⟩ := S15.br
    refine ⟨_, rfl, ma, d15, _, rfl, b15, rfl, _, rfl, _, rfl, ?_⟩
    dsimp only [tNil]
    refine c_join rk S15.ma S15.wd br15 n0 n1 tg15 mo15 (by omega) (by omega) (by omega) (by omega) (by omega) (by omega) (by omega) (by omega) fun r3 H16 s16 hr3 => ?_
    have S16 := S15.same s16
    obtain ⟨e16b, br16⟩ := S16.br
    refine ⟨_, rfl, fv, true, rfl, fun _ => wide_fnk (W15.ext (SL.ExtN.of_same s16)), _, rfl, bs, e16b, _, rfl, br16, rfl, _, rfl, _, rfl, ?_⟩
    dsimp only [tNil]
    refine ⟨bs, tg, mo, lo, hi, lo', hi', rfl, s16 _ _ tg15, s16 _ _ mo15, fun u2 H17 s17 hu2 => ?_⟩
    refine wide_calls ((W15.ext (SL.ExtN.of_same s16)).ext (SL.ExtN.of_same s17)) hu2 n0 n1 (by omega) (by omega) (by omega) (by omega) fun r4 H18 s18 hr4 => ?_
    have s68 := s17.trans s18
    refine ne_tup2 (s68 _ _ hr3) hr4 ⟨false, rfl, iteF ?_⟩
    have S18 := S16.same s68
    have tg18 := (s16.trans s68) _ _ tg15
    have mo18 := (s16.trans s68) _ _ mo15
    -- matches
    obtain ⟨d18, b18⟩ := S18.ma
    obtain ⟨e18b, br18⟩ := S18.br
    refine ⟨_, rfl, ma, d18, _, rfl, b18, rfl, _, rfl, _, rfl, ?_⟩
    dsimp only [tNil]
    refine c_mat rk S18.ma br18 tg18 fun H19 s19 => ?_
    refine ⟨_, rfl, bs, e18b, _, rfl, s19 _ _ br18, rfl, _, rfl, _, rfl, ?_⟩
    dsimp only [tNil]
    refine ⟨bs, tg, i - 20, lo, hi, rfl, s19 _ _ tg18, fun H20 s20 => ?_⟩
    refine ne_bl ⟨false, rfl, iteF ?_⟩
    have s820 := s19.trans s20
    have S20 := S18.same s820
    have tg20 := s820 _ _ tg18
    have mo20 := s820 _ _ mo18
    -- consistent
    obtain ⟨d20, b20⟩ := S20.ma
    obtain ⟨e20b, br20⟩ := S20.br
    refine ⟨_, rfl, ma, d20, _, rfl, b20, rfl, _, rfl, _, rfl, ?_⟩
    dsimp only [tNil]
    refine c_con rk S20.ma br20 tg20 mo20 l1 fun H21 s21 => ?_
    refine ⟨_, rfl, bs, e20b, _, rfl, s21 _ _ br20, rfl, _, rfl, _, rfl, ?_⟩
    dsimp only [tNil]
    refine ⟨bs, tg, mo, lo, hi, lo', hi', rfl, s21 _ _ tg20, s21 _ _ mo20, l1, fun H22 s22 => ?_⟩
    refine ne_bl ⟨false, rfl, iteF ?_⟩
    have s022 := s21.trans s22
    have S22 := S20.same s022
    have tg22 := s022 _ _ tg20
    have mo22 := s022 _ _ mo20
    -- penalty
    obtain ⟨d22, b22⟩ := S22.ma
    obtain ⟨e22b, br22⟩ := S22.br
    refine ⟨_, rfl, ma, d22, _, rfl, b22, rfl, _, rfl, _, rfl, ?_⟩
    dsimp only [tNil]
    refine c_pen rk S22.ma br22 tg22 fun H23 s23 => ?_
    refine ⟨_, rfl, bs, e22b, _, rfl, s23 _ _ br22, rfl, _, rfl, _, rfl, ?_⟩
    dsimp only [tNil]
    refine ⟨bs, e22b, tg, i - 20, lo, hi, rfl, s23 _ _ br22, s23 _ _ tg22, fun H24 s24 => ?_⟩
    refine ne_int ⟨false, rfl, iteF ?_⟩
    have s224 := s23.trans s24
    have S24 := S22.same s224
    have tg24 := s224 _ _ tg22
    have mo24 := s224 _ _ mo22
    -- bound
    obtain ⟨d24, b24⟩ := S24.ma
    obtain ⟨e24b, br24⟩ := S24.br
    refine ⟨_, rfl, ma, d24, _, rfl, b24, rfl, _, rfl, _, rfl, ?_⟩
    dsimp only [tNil]
    refine c_bou rk kR S24.ma br24 tg24 l1 fun H25 s25 => ?_
    refine ⟨_, rfl, bs, e24b, _, rfl, s25 _ _ br24, rfl, _, rfl, _, rfl, ?_⟩
    dsimp only [tNil]
    refine ⟨bs, tg, lo, hi, j, rfl, s25 _ _ tg24, l1, fun H26 s26 => ?_⟩
    refine ne_int ⟨false, rfl, iteF ?_⟩
    have s426 := s25.trans s26
    have S26 := S24.same s426
    have tg26 := s426 _ _ tg24
    have mo26 := s426 _ _ mo24
    -- sides
    obtain ⟨d26, b26⟩ := S26.ma
    obtain ⟨e26b, br26⟩ := S26.br
    refine ⟨_, rfl, ma, d26, _, rfl, b26, rfl, _, rfl, _, rfl, by show 2 ≤ sizeLine; decide, fun q1 nq1 => ?_⟩
    have s27 := same_upd (o := .lst [.ref tg, .ref mo]) nq1
    have hq1 := upd_same (H := H26) (a := q1) (o := .lst [.ref tg, .ref mo])
    have S27 := S26.same s27
    obtain ⟨e27b, br27⟩ := S27.br
    have tg27 := s27 _ _ tg26
    have mo27 := s27 _ _ mo26
    generalize upd H26 q1 (.lst [.ref tg, .ref mo]) = H27 at s27 hq1 S27 br27 tg27 mo27
    dsimp only [tNil]
    refine c_sid rk S27.ma br27 (ps := [tg, mo]) (ns := [(lo, hi), (lo', hi')]) ⟨.inl (.inl hq1), .cons tg27 (.cons mo27 .nil)⟩ (by show 2 ≤ 30; decide) S27.tb fun r5 H28 e28 t28 hr5 => ?_
    have S28 := S27.ext e28 t28
    obtain ⟨e28b, br28⟩ := S28.br
    have tg28 := e28 _ _ tg27 fun _ z => by cases z
    have mo28 := e28 _ _ mo27 fun _ z => by cases z
    refine ⟨r5, _, rfl, hr5, fun r6 nr6 => ?_⟩
    have s29 := same_upd (o := .lst ((RG.halvesOf (([(lo, hi), (lo', hi')] : List (Int × Int)).map fun n => n.1 + n.2)).map V.int)) nr6
    have hr6 := upd_same (H := H28) (a := r6) (o := .lst ((RG.halvesOf (([(lo, hi), (lo', hi')] : List (Int × Int)).map fun n => n.1 + n.2)).map V.int))
    have S29 := S28.same s29
    have br29 := s29 _ _ br28
    have tg29 := s29 _ _ tg28
    have mo29 := s29 _ _ mo28
    refine ⟨_, rfl, bs, e28b, _, rfl, br29, rfl, _, rfl, _, rfl, by show 2 ≤ sizeLine; decide, fun q2 nq2 => ?_⟩
    have s30 := same_upd (o := .lst [.ref tg, .ref mo]) nq2
    have hq2 := upd_same (H := upd H28 r6 (.lst ((RG.halvesOf (([(lo, hi), (lo', hi')] : List (Int × Int)).map fun n => n.1 + n.2)).map V.int))) (a := q2) (o := .lst [.ref tg, .ref mo])
    have S30 := S29.same s30
    have tg30 := s30 _ _ tg29
    have mo30 := s30 _ _ mo29
    have hr30 := s30 _ _ hr6
    generalize upd (upd H28 r6 (.lst ((RG.halvesOf (([(lo, hi), (lo', hi')] : List (Int × Int)).map fun n => n.1 + n.2)).map V.int))) q2 (.lst [.ref tg, .ref mo]) = H30 at hq2 S30 tg30 mo30 hr30
    dsimp only [tNil]
    refine ⟨bs, q2, [tg, mo], [(lo, hi), (lo', hi')], rfl, ⟨.inl (.inl hq2), .cons tg30 (.cons mo30 .nil)⟩, by show 2 ≤ 30; decide, S30.tb, fun r7 H31 e31 t31 hr7 => ?_⟩
    refine ⟨r7, _, rfl, hr7, fun r8 nr8 => ?_⟩
    have S32 := (S30.ext e31 t31).same (same_upd (o := .lst ((RG.halvesOf (([(lo, hi), (lo', hi')] : List (Int × Int)).map fun n => n.1 + n.2)).map V.int)) nr8)
    have hr32 := (same_upd (o := .lst ((RG.halvesOf (([(lo, hi), (lo', hi')] : List (Int × Int)).map fun n => n.1 + n.2)).map V.int)) nr8) _ _ (e31 _ _ hr30 fun _ z => by cases z)
    refine ne_ints hr32 upd_same ⟨false, rfl, iteF ?_⟩
    generalize upd H31 r8 (.lst ((RG.halvesOf (([(lo, hi), (lo', hi')] : List (Int × Int)).map fun n => n.1 + n.2)).map V.int)) = H32 at S32
    -- distance
    obtain ⟨d32, b32⟩ := S32.ma
    obtain ⟨e32b, br32⟩ := S32.br
    refine ⟨_, rfl, ma, d32, _, rfl, b32, rfl, _, rfl, _, rfl, ?_⟩
    dsimp only [tNil]
    refine c_dis rk kR S32.ma br32 fun H33 s33 => ?_
    have S33 := S32.same s33
    refine ⟨_, rfl, _, rfl, _, _, rfl, rfl, i - 20 - j, rfl, ?_⟩
    refine ne_int ⟨false, rfl, iteF ?_⟩
    -- bits
    obtain ⟨d33, b33⟩ := S33.mb
    refine ⟨_, rfl, bi, d33, _, rfl, b33, rfl, by show 1 ≤ sizeLine; decide, fun v1 nv1 => ?_⟩
    have s34 := same_upd (o := .tup [.int 1]) nv1
    have hv1 := upd_same (H := H33) (a := v1) (o := .tup [.int 1])
    have S34 := S33.same s34
    generalize upd H33 v1 (.tup [.int 1]) = H34 at hv1 S34
    dsimp only [tNil]
    refine b_own sk S34.mb S34.lo S34.sg hv1 ?_
    obtain ⟨d34, b34⟩ := S34.mb
    refine ⟨_, rfl, bi, d34, _, rfl, b34, rfl, ?_⟩
    dsimp only [tNil, tC]
    refine b_join (E := E0) sk S34.mb S34.lo S34.sg ?_
    refine ⟨_, rfl, bi, d34, _, rfl, b34, rfl, by show 3 ≤ sizeLine; decide, fun v2 nv2 => ?_⟩
    have s35 := same_upd (o := .tup [.int 1, .int 3, .int 4]) nv2
    have hv2 := upd_same (H := H34) (a := v2) (o := .tup [.int 1, .int 3, .int 4])
    have S35 := S34.same s35
    generalize upd H34 v2 (.tup [.int 1, .int 3, .int 4]) = H35 at hv2 S35
    dsimp only [tNil]
    refine b_pen sk S35.mb S35.sg hv2 fun H36 s36 => ?_
    have S36 := S35.same s36
    refine ⟨by show 3 ≤ sizeLine; decide, fun y1 ny1 => ?_⟩
    have s37 := same_upd (o := .lst [.int 7, .int 15, .int 2]) ny1
    have hy1 := upd_same (H := H36) (a := y1) (o := .lst [.int 7, .int 15, .int 2])
    have S37 := S36.same s37
    refine ⟨by show 3 ≤ sizeLine; decide, fun y2 ny2 => ?_⟩
    have s38 := same_upd (o := .lst [.int 7, .int 15, .int 2]) ny2
    have hy2 := upd_same (H := upd H36 y1 (.lst [.int 7, .int 15, .int 2])) (a := y2) (o := .lst [.int 7, .int 15, .int 2])
    have S38 := S37.same s38
    refine ne_ints (ns := [7, 15, 2]) (s38 _ _ hy1) hy2 ⟨false, rfl, iteF ?_⟩
    generalize upd (upd H36 y1 (.lst [.int 7, .int 15, .int 2])) y2 (.lst [.int 7, .int 15, .int 2]) = H38 at S38
    -- names
    refine ⟨S38.tb, fun H39 e39 t39 => ?_⟩
    have S39 := S38.ext e39 t39
    intro E1 Q1 hE1
    obtain ⟨d39, b39⟩ := S39.mb
    refine ⟨_, rfl, bi, d39, _, rfl, b39, rfl, by show 1 ≤ sizeLine; decide, fun v3 nv3 => ?_⟩
    have S40 := S39.same (same_upd (o := .tup [.int 1]) nv3)
    refine b_none sk kS S40.mb S40.sg fun d1 H41 nd1 s41 hd1 => hE1 d1 H41 _ hd1 ?_
    have S41 := S40.same s41
    refine ⟨by show 1 ≤ sizeLine; decide, fun nm nnm => ?_⟩
    have s42 := same_upd (o := .lst [.str "distance"]) nnm
    have hnm := upd_same (H := H41) (a := nm) (o := .lst [.str "distance"])
    have S42 := S41.same s42
    generalize upd H41 nm (.lst [.str "distance"]) = H42 at hnm S42
    refine ⟨_, rfl, .inl ⟨rfl, _, .inl (.inl hnm)⟩, S42.tb, fun H43 e43 t43 => ?_⟩
    have S43 := S42.ext e43 t43
    have hnm43 := e43 _ _ hnm fun _ z => by cases z
    intro E2 Q2 hE2
    obtain ⟨d43, b43⟩ := S43.mb
    refine ⟨_, rfl, bi, d43, _, rfl, b43, rfl, ?_⟩
    refine b_none sk kS S43.mb S43.sg fun d2 H44 nd2 s44 hd2 => hE2 d2 H44 _ hd2 ?_
    have S44 := S43.same s44
    have hnm44 := s44 _ _ hnm43
    refine ⟨nm, _, _, rfl, rfl, hnm44, small1000 (by show 1 ≤ 1000; decide), ?_⟩
    have S45 := S44.put (ys := [.str "distance"] ++ [.str "bound"]) S41 nnm hnm44
    have hnm45 := upd_same (H := H44) (a := nm) (o := .lst ([.str "distance"] ++ [.str "bound"]))
    generalize upd H44 nm (.lst ([.str "distance"] ++ [.str "bound"])) = H45 at S45 hnm45
    -- words
    refine fun st dst nst ndst ne => ?_
    have s46 : Same H45 (upd (upd H45 dst (.own st)) st (.ins CT dst [])) := fun b u e => by
      rw [upd_ne (ne_of_none e nst), upd_ne (ne_of_none e ndst)]
      exact e
    have st46 : (upd (upd H45 dst (.own st)) st (.ins CT dst [])) st = some (.ins CT dst []) := upd_same
    have S46 := S45.same s46
    have hnm46 := s46 _ _ hnm45
    generalize upd (upd H45 dst (.own st)) st (.ins CT dst []) = H46 at st46 S46 hnm46
    refine ⟨S46.tb, fun fc c2' H47 e47' nn47 t47 f47 f47' c47 => ?_⟩
    have S47 := S46.ext e47' t47
    have hnm47 := e47' _ _ hnm46 fun _ z => by cases z
    have st47 := e47' _ _ st46 fun _ z => by cases z
    have L47 : LamN H47 fc cutE := LamN.mk (q := ("_law_coarse_right" ++ ".<locals>.") ++ "<lambda>") (c' := c2') f47' c47
    refine fun wo dwo nwo ndwo ne => ⟨wo, dwo, .ref st, .ref fc, rfl, upd_same, rfl, ?_⟩
    have s48 := same_made (C := CO) (o := .ins CO dwo [("kind", .ref st), ("squeeze", .ref fc)]) nwo ndwo
    have wo48 : (upd (upd (upd H47 dwo (.own wo)) wo (.ins CO dwo [])) wo (.ins CO dwo [("kind", .ref st), ("squeeze", .ref fc)])) wo = some (.ins CO dwo [("kind", .ref st), ("squeeze", .ref fc)]) := upd_same
    have S48 := S47.same s48
    have hnm48 := s48 _ _ hnm47
    have st48 := s48 _ _ st47
    have L48 := L47.ext (SL.ExtN.of_same s48)
    generalize upd (upd (upd H47 dwo (.own wo)) wo (.ins CO dwo [])) wo (.ins CO dwo [("kind", .ref st), ("squeeze", .ref fc)]) = H48 at wo48 S48 hnm48 st48 L48
    -- told
    refine ⟨_, rfl, by show 2 ≤ sizeLine; decide, fun y3 ny3 => ?_⟩
    have s49 := same_upd (o := .lst [.str "distance", .str "bound"]) ny3
    have shN : ∀ G, RZ.ShwAll G [V.str "distance", V.str "bound"] [.str "distance", .str "bound"] := fun G => .cons (.str _) (.cons (.str _) .nil)
    refine rEq_same (D := .list [.str "distance", .str "bound"]) (.lst (s49 _ _ hnm48) (shN _)) (.lst upd_same (shN _)) (by decide +kernel) (by decide +kernel) ⟨true, rfl, iteT ?_⟩
    have S49 := S48.same s49
    refine ⟨_, rfl, wo, dwo, _, rfl, s49 _ _ wo48, rfl, ?_⟩
    dsimp only [tNil, tC]
    refine w_own (E := E0) cl_T C_T ⟨dwo, s49 _ _ wo48⟩ (L48.ext (SL.ExtN.of_same s49)) (s49 _ _ st48) ?_
    refine rEq_same (D := .str "ab") (.str _) (.str _) (by decide +kernel) (by decide +kernel) ?_
    exact q _ x5 c5 S49.kn S49.tb S49.hp
end
end K16
set_option Elab.async false
set_option linter.all false
set_option maxRecDepth 100000
set_option maxHeartbeats 2000000
namespace K16
open PySem PySem.Spec PyProof.Rows L2 CM DN GR
section
variable {P : Program} {w : World} {K : PySem.W.Frag} {mg : Str → Option Value} {base : Heap}
/-! ### Both of ranges and remainders -/
structure RestsK (P : Program) (w : World) (K : PySem.W.Frag) (mg : Str → Option Value) (base : Heap) (CQ : Addr) : Prop where
  cl : Cls K CQ
  ik : InsK K CQ
  own : CalM P w K mg base CX0 CQ "own" 4 ["self", "key"] RS.spOwn
  joi : CalM P w K mg base CX0 CQ "join" 4 ["self", "one", "other"] RS.spJoin
  con : CalM P w K mg base CX0 CQ "consistent" 4 ["self", "label", "question"] RS.spCons
  mat : CalM P w K mg base CX0 CQ "matches" 4 ["self", "key", "question"] RS.spMat
  pen : CalM P w K mg base CX0 CQ "penalty" 4 ["self", "label", "key"] (RS.spPen CQ)
section
variable {CB CR CQ CM CN b k1 k2 d1 d2 : Addr} {H : Hp} {Q : VK} {E : XK}
theorem b2_own {t : Addr} {n m : Int} (rk : RangesK P w K mg base CR) (qk : RestsK P w K mg base CQ) (hb : BothAt CB H b k1 k2) (h1 : H k1 = some (.ins CR d1 [])) (h2 : H k2 = some (.ins CQ d2 [])) (ht : H t = some (.tup [.int n, .int m]))
    (q : ∀ (r u v : Addr) (H' : Hp), Same H H' → H' r = some (.tup [.ref u, .ref v]) → Tup2 H' u n n → Tup2 H' v 0 m → Q (.ref r) H') : spBOwn P w K mg base CB [.ref b, .ref t] H Q E := by
  obtain ⟨dx, e⟩ := hb
  refine ⟨b, k1, k2, t, .int n, .int m, rfl, ⟨dx, e⟩, ht, ask_of rk.own rk.cl (by omega) h1 rfl ⟨k1, n, rfl, fun u H1 s1 hu => ⟨pn_tup2 hu, ⟨dx, s1 _ _ e⟩, s1 _ _ ht, ?_⟩⟩⟩
  refine ask_of qk.own qk.cl (by omega) (s1 _ _ h2) rfl ⟨k2, m, rfl, fun v H2 s2 hv => ⟨pn_tup2 hv, fun r nr => ?_⟩⟩
  have s3 := same_upd (o := .tup [.ref u, .ref v]) nr
  exact q r u v _ ((s1.trans s2).trans s3) upd_same ((s2.trans s3) _ _ hu) (s3 _ _ hv)
theorem b2_join {t r ta tb ra rb : Addr} {l h l' h' a x b' y n : Int} (rk : RangesK P w K mg base CR) (qk : RestsK P w K mg base CQ) (hb : BothAt CB H b k1 k2) (h1 : H k1 = some (.ins CR d1 [])) (h2 : H k2 = some (.ins CQ d2 [])) (ht : H t = some (.tup [.ref ta, .ref tb])) (hr : H r = some (.tup [.ref ra, .ref rb]))
    (hta : Tup2 H ta l h) (htb : Tup2 H tb a x) (hra : Tup2 H ra l' h') (hrb : Tup2 H rb b' y) (i1 : RS.IsTag n a x) (i2 : RS.IsTag n b' y) (hn : n < 2 ^ 170)
    (q : ∀ (p u v : Addr) (H' : Hp), Same H H' → H' p = some (.tup [.ref u, .ref v]) → Tup2 H' u (min l l') (max h h') → Tup2 H' v (RS.jm a x b' y) (RS.jr a x b' y) → Q (.ref p) H') : spBJoin P w K mg base CB [.ref b, .ref t, .ref r] H Q E := by
  obtain ⟨dx, e⟩ := hb
  refine ⟨b, k1, k2, t, r, .ref ta, .ref tb, .ref ra, .ref rb, rfl, ⟨dx, e⟩, ht, hr, ask_of rk.joi rk.cl (by omega) h1 rfl ⟨k1, ta, ra, l, h, l', h', rfl, hta, hra, fun u H1 s1 hu => ⟨pn_tup2 hu, ⟨dx, s1 _ _ e⟩, s1 _ _ ht, s1 _ _ hr, ?_⟩⟩⟩
  refine ask_of qk.joi qk.cl (by omega) (s1 _ _ h2) rfl ⟨k2, tb, rb, a, x, b', y, n, rfl, s1 _ _ htb, s1 _ _ hrb, i1, i2, hn, fun v H2 s2 hv => ⟨pn_tup2 hv, fun p np => ?_⟩⟩
  have s3 := same_upd (o := .tup [.ref u, .ref v]) np
  exact q p u v _ ((s1.trans s2).trans s3) upd_same ((s2.trans s3) _ _ hu) (s3 _ _ hv)
theorem b2_mat {t r ra rb : Addr} {i m lo hi c s : Int} (rk : RangesK P w K mg base CR) (qk : RestsK P w K mg base CQ) (hb : BothAt CB H b k1 k2) (h1 : H k1 = some (.ins CR d1 [])) (h2 : H k2 = some (.ins CQ d2 [])) (ht : H t = some (.tup [.int i, .int m])) (hr : H r = some (.tup [.ref ra, .ref rb]))
    (hra : Tup2 H ra lo hi) (hrb : Tup2 H rb c s) (c0 : 0 < c) (s0 : 0 ≤ s) (s1 : s < c) (q : ∀ H' : Hp, Same H H' → Q (.bl (decide (lo ≤ i ∧ i ≤ hi) && decide (m % c = s))) H') : spBAnd P w K mg base CB "matches" [.ref b, .ref t, .ref r] H Q E := by
  obtain ⟨dx, e⟩ := hb
  refine ⟨b, k1, k2, t, r, .int i, .int m, .ref ra, .ref rb, rfl, ⟨dx, e⟩, ht, hr, ask_of rk.mat rk.cl (by omega) h1 rfl ⟨k1, ra, i, lo, hi, rfl, hra, fun H1 s1' => ⟨_, rfl, fun z => ?_, fun z => ⟨⟨dx, s1' _ _ e⟩, s1' _ _ ht, s1' _ _ hr, ?_⟩⟩⟩⟩
  · have w := q H1 s1'
    rw [z] at w
    exact w
  · refine ask_of qk.mat qk.cl (by omega) (s1' _ _ h2) rfl ⟨k2, rb, m, c, s, rfl, s1' _ _ hrb, c0, s0, s1, fun H2 s2 => ?_⟩
    have w := q H2 (s1'.trans s2)
    rw [z] at w
    exact w
theorem b2_con {t r ta tb ra rb : Addr} {l h lo hi a x c s n : Int} (rk : RangesK P w K mg base CR) (qk : RestsK P w K mg base CQ) (hb : BothAt CB H b k1 k2) (h1 : H k1 = some (.ins CR d1 [])) (h2 : H k2 = some (.ins CQ d2 [])) (ht : H t = some (.tup [.ref ta, .ref tb])) (hr : H r = some (.tup [.ref ra, .ref rb]))
    (hta : Tup2 H ta l h) (htb : Tup2 H tb a x) (hra : Tup2 H ra lo hi) (hrb : Tup2 H rb c s) (le : l ≤ h) (i1 : RS.IsTag n a x) (c0 : 0 < c) (c1 : c ≤ n) (s0 : 0 ≤ s) (s1 : s < c) (hn : n < 2 ^ 170)
    (q : ∀ H' : Hp, Same H H' → Q (.bl (decide (lo ≤ hi ∧ max lo l ≤ min hi h) && decide ((Int.gcd a c : Int) ∣ x - s))) H') : spBAnd P w K mg base CB "consistent" [.ref b, .ref t, .ref r] H Q E := by
  obtain ⟨dx, e⟩ := hb
  refine ⟨b, k1, k2, t, r, .ref ta, .ref tb, .ref ra, .ref rb, rfl, ⟨dx, e⟩, ht, hr, ask_of rk.con rk.cl (by omega) h1 rfl ⟨k1, ta, ra, l, h, lo, hi, rfl, hta, hra, le, fun H1 s1' => ⟨_, rfl, fun z => ?_, fun z => ⟨⟨dx, s1' _ _ e⟩, s1' _ _ ht, s1' _ _ hr, ?_⟩⟩⟩⟩
  · have w := q H1 s1'
    rw [z] at w
    exact w
  · refine ask_of qk.con qk.cl (by omega) (s1' _ _ h2) rfl ⟨k2, tb, rb, a, x, c, s, n, rfl, s1' _ _ htb, s1' _ _ hrb, i1, c0, c1, s0, s1, hn, fun H2 s2 => ?_⟩
    have w := q H2 (s1'.trans s2)
    rw [z] at w
    exact w
theorem b2_pen {t r ta tb : Addr} {l h i a x m n : Int} (rk : RangesK P w K mg base CR) (qk : RestsK P w K mg base CQ) (hb : BothAt CB H b k1 k2) (h1 : H k1 = some (.ins CR d1 [])) (h2 : H k2 = some (.ins CQ d2 [])) (ht : H t = some (.tup [.ref ta, .ref tb])) (hr : H r = some (.tup [.int i, .int m]))
    (hta : Tup2 H ta l h) (htb : Tup2 H tb a x) (i1 : RS.IsTag n a x) (i2 : RS.IsTag n 0 m) (hn : n < 2 ^ 170)
    (q : ∀ H' : Hp, Same H H' → Q (.int ((max h i - min l i - (h - l)) + (if RS.jm a x 0 m = a ∧ RS.jr a x 0 m = x then 0 else 1))) H') : spBPen P w K mg base CB [.ref b, .ref t, .ref r] H Q E := by
  obtain ⟨dx, e⟩ := hb
  refine ⟨b, k1, k2, t, r, .ref ta, .ref tb, .int i, .int m, rfl, ⟨dx, e⟩, ht, hr, ask_of rk.pen rk.cl (by omega) h1 rfl ⟨k1, d1, ta, i, l, h, rfl, h1, hta, fun H1 s1 => ⟨_, rfl, ⟨dx, s1 _ _ e⟩, s1 _ _ ht, s1 _ _ hr, ?_⟩⟩⟩
  exact ask_of qk.pen qk.cl (by omega) (s1 _ _ h2) rfl ⟨k2, d2, tb, a, x, m, n, rfl, s1 _ _ h2, s1 _ _ htb, i1, i2, hn, fun H2 s2 => ⟨_, rfl, q H2 (s1.trans s2)⟩⟩
theorem b2_sid {l : Addr} {ts ps : List Addr} {ns : List (Int × Int)} (rk : RangesK P w K mg base CR) (hb : BothAt CB H b k1 k2) (h1 : H k1 = some (.ins CR d1 [])) (hl : H l = some (.lst (ts.map V.ref))) (hf : Firsts H ts (ps.map V.ref)) (hp : Paired (fun p n => Tup2 H p n.1 n.2) ps ns) (hps : ps.length ≤ 30) (hn : ns.length ≤ 30) (hT : LamX.Tabs (TT K) H)
    (hpp : ∀ {H' : Hp}, Same H H' → Paired (fun p n => Tup2 H' p n.1 n.2) ps ns)
    (q : ∀ (t : Addr) (H' : Hp), LamX.ExtN H H' → LamX.Tabs (TT K) H' → (SqL K H' t ((RG.halvesOf (ns.map fun n => n.1 + n.2)).map V.int) ∨ SqT K H' t ((RG.halvesOf (ns.map fun n => n.1 + n.2)).map V.int)) → Q (.ref t) H') : spBSides P w K mg base CB [.ref b, .ref l] H Q E := by
  obtain ⟨g, fd, G, bb, me⟩ := rk.sid
  refine ⟨b, k1, k2, l, ts, ps.map V.ref, rfl, hb, hl, hf, by rw [List.length_map]; omega, CR, d1, [], g, h1, rfl, rk.cl, me, fun D H' s hD => ?_⟩
  refine CLO.RunsTo.mk ((raw0 G bb).mono (by omega)) ⟨k1, D, ps, ns, rfl, ⟨.inl (.inl hD), hpp s⟩, hn, SL.Tabs.same hT s, fun t H2 e2 t2 ht => q t H2 ((SL.ExtN.of_same s).trans e2) t2 ht⟩
theorem p_dis {t r : Addr} {i m j k : Int} (rk : RangesK P w K mg base CR) (kM : PySem.W.kitOne K (.ref CR) (.ref CM) = some true) (hb : BothAt CB H b k1 k2) (h1 : H k1 = some (.ins CR d1 [])) (h2 : H k2 = some (.ins CR d2 [])) (ht : H t = some (.tup [.int i, .int m])) (hr : H r = some (.tup [.int j, .int k]))
    (q : ∀ H' : Hp, Same H H' → Q (.int ((if i - j < 0 then -(i - j) else i - j) + (if m - k < 0 then -(m - k) else m - k))) H') : spBDist P w K mg base CB CM CN "distance" [.ref b, .ref t, .ref r] H Q E := by
  obtain ⟨dx, e⟩ := hb
  refine ⟨b, k1, k2, t, r, .int i, .int m, .int j, .int k, rfl, ⟨dx, e⟩, ht, hr, k1, CR, d1, [], _, _, rfl, h1, rk.ik, .inl ⟨kM, ask_of rk.dis rk.cl (by omega) h1 rfl ⟨k1, i, j, rfl, fun H1 s1 => ⟨_, rfl, ⟨dx, s1 _ _ e⟩, s1 _ _ ht, s1 _ _ hr, ?_⟩⟩⟩⟩
  exact ⟨k2, CR, d2, [], _, _, rfl, s1 _ _ h2, rk.ik, .inl ⟨kM, ask_of rk.dis rk.cl (by omega) (s1 _ _ h2) rfl ⟨k2, m, k, rfl, fun H2 s2 => ⟨_, rfl, q H2 (s1.trans s2)⟩⟩⟩⟩
theorem p_bou {t r ta tb : Addr} {l h l' h' j k : Int} (rk : RangesK P w K mg base CR) (kM : PySem.W.kitOne K (.ref CR) (.ref CM) = some true) (hb : BothAt CB H b k1 k2) (h1 : H k1 = some (.ins CR d1 [])) (h2 : H k2 = some (.ins CR d2 [])) (ht : H t = some (.tup [.ref ta, .ref tb])) (hr : H r = some (.tup [.int j, .int k]))
    (hta : Tup2 H ta l h) (htb : Tup2 H tb l' h') (le : l ≤ h) (le' : l' ≤ h')
    (q : ∀ H' : Hp, Same H H' → Q (.int (max 0 (max (l - j) (j - h)) + max 0 (max (l' - k) (k - h')))) H') : spBDist P w K mg base CB CM CN "bound" [.ref b, .ref t, .ref r] H Q E := by
  obtain ⟨dx, e⟩ := hb
  refine ⟨b, k1, k2, t, r, .ref ta, .ref tb, .int j, .int k, rfl, ⟨dx, e⟩, ht, hr, k1, CR, d1, [], _, _, rfl, h1, rk.ik, .inl ⟨kM, ask_of rk.bou rk.cl (by omega) h1 rfl ⟨k1, ta, l, h, j, rfl, hta, le, fun H1 s1 => ⟨_, rfl, ⟨dx, s1 _ _ e⟩, s1 _ _ ht, s1 _ _ hr, ?_⟩⟩⟩⟩
  exact ⟨k2, CR, d2, [], _, _, rfl, s1 _ _ h2, rk.ik, .inl ⟨kM, ask_of rk.bou rk.cl (by omega) (s1 _ _ h2) rfl ⟨k2, tb, l', h', k, rfl, s1 _ _ htb, le', fun H2 s2 => ⟨_, rfl, q H2 (s1.trans s2)⟩⟩⟩⟩
theorem b2_nodis {t r : Addr} {i m j k : Int} (rk : RangesK P w K mg base CR) (qk : RestsK P w K mg base CQ) (kM : PySem.W.kitOne K (.ref CR) (.ref CM) = some true) (kQ : PySem.W.kitOne K (.ref CQ) (.ref CM) = some false) (hb : BothAt CB H b k1 k2) (h1 : H k1 = some (.ins CR d1 [])) (h2 : H k2 = some (.ins CQ d2 [])) (ht : H t = some (.tup [.int i, .int m])) (hr : H r = some (.tup [.int j, .int k]))
    (q : ∀ H' : Hp, Same H H' → Ng CN E H' "distance") : spBDist P w K mg base CB CM CN "distance" [.ref b, .ref t, .ref r] H Q E := by
  obtain ⟨dx, e⟩ := hb
  refine ⟨b, k1, k2, t, r, .int i, .int m, .int j, .int k, rfl, ⟨dx, e⟩, ht, hr, k1, CR, d1, [], _, _, rfl, h1, rk.ik, .inl ⟨kM, ask_of rk.dis rk.cl (by omega) h1 rfl ⟨k1, i, j, rfl, fun H1 s1 => ⟨_, rfl, ⟨dx, s1 _ _ e⟩, s1 _ _ ht, s1 _ _ hr, ?_⟩⟩⟩⟩
  exact ⟨k2, CQ, d2, [], _, _, rfl, s1 _ _ h2, qk.ik, .inr ⟨kQ, q H1 s1⟩⟩
theorem b2_nobou {t r ta tb : Addr} {l h j k : Int} (rk : RangesK P w K mg base CR) (qk : RestsK P w K mg base CQ) (kM : PySem.W.kitOne K (.ref CR) (.ref CM) = some true) (kQ : PySem.W.kitOne K (.ref CQ) (.ref CM) = some false) (hb : BothAt CB H b k1 k2) (h1 : H k1 = some (.ins CR d1 [])) (h2 : H k2 = some (.ins CQ d2 [])) (ht : H t = some (.tup [.ref ta, .ref tb])) (hr : H r = some (.tup [.int j, .int k]))
    (hta : Tup2 H ta l h) (le : l ≤ h) (q : ∀ H' : Hp, Same H H' → Ng CN E H' "bound") : spBDist P w K mg base CB CM CN "bound" [.ref b, .ref t, .ref r] H Q E := by
  obtain ⟨dx, e⟩ := hb
  refine ⟨b, k1, k2, t, r, .ref ta, .ref tb, .int j, .int k, rfl, ⟨dx, e⟩, ht, hr, k1, CR, d1, [], _, _, rfl, h1, rk.ik, .inl ⟨kM, ask_of rk.bou rk.cl (by omega) h1 rfl ⟨k1, ta, l, h, j, rfl, hta, le, fun H1 s1 => ⟨_, rfl, ⟨dx, s1 _ _ e⟩, s1 _ _ ht, s1 _ _ hr, ?_⟩⟩⟩⟩
  exact ⟨k2, CQ, d2, [], _, _, rfl, s1 _ _ h2, qk.ik, .inr ⟨kQ, q H1 s1⟩⟩
end
/-- the law's state while parts are asked -/
structure PSt (K : PySem.W.Frag) (p : Addr) (x c : Int) (Hs H Hi : Hp) : Prop where
  kn : SL.KpN p H Hi
  hp : Hi p = some (.lst [.int x, .int c])
  tb : LamX.Tabs (TT K) Hi
  kl : KL Hs Hi
theorem PSt.ext {p : Addr} {x c : Int} {Hs H Hi Hj : Hp} (S : PSt K p x c Hs H Hi) (s : LamX.ExtN Hi Hj) (t : LamX.Tabs (TT K) Hj) : PSt K p x c Hs H Hj :=
  ⟨S.kn.trans (SL.KpN.ext s), s _ _ S.hp (fun _ z => by cases z), t, S.kl.trans (KL.ext s)⟩
theorem PSt.same {p : Addr} {x c : Int} {Hs H Hi Hj : Hp} (S : PSt K p x c Hs H Hi) (s : Same Hi Hj) : PSt K p x c Hs H Hj := S.ext (SL.ExtN.of_same s) (SL.Tabs.same S.tb s)
theorem PSt.draw {p : Addr} {x c x' c' : Int} {Hs H Hi Hj : Hp} (S : PSt K p x c Hs H Hi) (s : Kp p Hi Hj) (e : Hj p = some (.lst [.int x', .int c'])) : PSt K p x' c' Hs H Hj :=
  ⟨S.kn.trans (SL.KpN.of s), e, SL.Tabs.kp S.tb S.hp s, S.kl.trans (KL.kp S.hp s)⟩
theorem PSt.put {p l : Addr} {x c x0 c0 : Int} {Hs H H0 Hi : Hp} {xs ys : List V} (S : PSt K p x c Hs H Hi) (S0 : PSt K p x0 c0 Hs H H0) (nl : H0 l = none) (hl : Hi l = some (.lst xs)) : PSt K p x c Hs H (upd Hi l (.lst ys)) :=
  ⟨fun b o nb m e => (upd_ne (ne_of_none (S0.kn b o nb m e) nl)).trans (S.kn b o nb m e), (upd_ne (ne_of_none S0.hp nl)).trans S.hp, SL.Tabs.kp S.tb hl Kp.set, S.kl.trans (KL.set hl)⟩
theorem PSt.rebase {p : Addr} {x c : Int} {Hs H Hi : Hp} (S : PSt K p x c Hs H Hi) : PSt K p x c Hi H Hi := ⟨S.kn, S.hp, S.tb, fun _ _ _ _ e => e⟩
theorem made0 {H : Hp} {a d C : Addr} (na : H a = none) (nd : H d = none) : Same H (upd (upd H d (.own a)) a (.ins C d [])) := fun b u e => by
  rw [upd_ne (ne_of_none e na), upd_ne (ne_of_none e nd)]
  exact e
theorem and_step {A B : Bool} {H : Hp} {tb : TE} {σ : L2.St} {Q : VK} (hB : ∀ Q2 : VK, (∀ H', Same H H' → Q2 (.bl B) H') → tb σ H Q2) (k : ∀ H', Same H H' → Q (.bl (A && B)) H') : if A = true then tb σ H Q else Q (.bl false) H := by
  cases A with
  | false => exact k H (Same.refl H)
  | true => exact hB Q k
/-! the parts' law, cut: what is known where -/
structure Ad where
  p : Addr
  ma : Addr
  kl : Addr
  kr : Addr
  pa : Addr
  k1 : Addr
  k2 : Addr
  a1 : Addr
  b1 : Addr
  tg : Addr
  a2 : Addr
  b2 : Addr
  mo : Addr
  it : Addr
  a4 : Addr
  b4 : Addr
  as : Addr
  lo : Int
  hi : Int
  lp : Int
  hq : Int
  r : Int
  i : Int
  m : Int
  lz : Int
  hz : Int
  s : Int
structure Ad.Ok (a : Ad) : Prop where
  lo0 : -20 ≤ a.lo
  lo1 : a.lo ≤ a.hi
  lp1 : a.lp ≤ a.hq
  r0 : 0 ≤ a.r
  r1 : a.r < 30
  m0 : 0 ≤ a.m
  m1 : a.m < 30
  s0 : 0 ≤ a.s
  s1 : a.s < 4
structure PB (CB CR CQ : Addr) (a : Ad) (Hi : Hp) : Prop where
  ma : BothAt CB Hi a.ma a.kl a.kr
  pa : BothAt CB Hi a.pa a.k1 a.k2
  kl : ∃ d, Hi a.kl = some (.ins CR d [])
  kr : ∃ d, Hi a.kr = some (.ins CQ d [])
  k1 : ∃ d, Hi a.k1 = some (.ins CR d [])
  k2 : ∃ d, Hi a.k2 = some (.ins CR d [])
  a1 : Hi a.a1 = some (.tup [.int a.lo, .int a.hi])
  b1 : Hi a.b1 = some (.tup [.int 6, .int 1])
  tg : Hi a.tg = some (.tup [.ref a.a1, .ref a.b1])
  a2 : Hi a.a2 = some (.tup [.int a.lp, .int a.hq])
  b2 : Hi a.b2 = some (.tup [.int 0, .int a.r])
  mo : Hi a.mo = some (.tup [.ref a.a2, .ref a.b2])
  it : Hi a.it = some (.tup [.int a.i, .int a.m])
  a4 : Hi a.a4 = some (.tup [.int a.lz, .int a.hz])
  b4 : Hi a.b4 = some (.tup [.int 4, .int a.s])
  as : Hi a.as = some (.tup [.ref a.a4, .ref a.b4])
theorem PB.by {CB CR CQ : Addr} {a : Ad} {H H' : Hp} (B : PB CB CR CQ a H) (k : KL H H') : PB CB CR CQ a H' :=
  let ⟨x1, e1⟩ := B.kl
  let ⟨x2, e2⟩ := B.kr
  let ⟨x3, e3⟩ := B.k1
  let ⟨x4, e4⟩ := B.k2
  ⟨k.both B.ma, k.both B.pa, ⟨x1, k.ins e1⟩, ⟨x2, k.ins e2⟩, ⟨x3, k.ins e3⟩, ⟨x4, k.ins e4⟩, k.tup B.a1, k.tup B.b1, k.tup B.tg, k.tup B.a2, k.tup B.b2, k.tup B.mo, k.tup B.it, k.tup B.a4, k.tup B.b4, k.tup B.as⟩
/-- a pair of pairs -/
def Tw (H : Hp) (r : Addr) (a b c d : Int) : Prop := ∃ u v, H r = some (.tup [.ref u, .ref v]) ∧ H u = some (.tup [.int a, .int b]) ∧ H v = some (.tup [.int c, .int d])
theorem Tw.by {H H' : Hp} {r : Addr} {a b c d : Int} (h : Tw H r a b c d) (k : KL H H') : Tw H' r a b c d := let ⟨u, v, e1, e2, e3⟩ := h; ⟨u, v, k.tup e1, k.tup e2, k.tup e3⟩
theorem Tw.shw {H : Hp} {r : Addr} {a b c d : Int} (h : Tw H r a b c d) : RZ.Shw H (.ref r) (.tuple [.tuple [.int a, .int b], .tuple [.int c, .int d]]) :=
  let ⟨u, v, e1, e2, e3⟩ := h
  .tup e1 (.cons (.tup e2 (.cons (.int _) (.cons (.int _) .nil))) (.cons (.tup e3 (.cons (.int _) (.cons (.int _) .nil))) .nil))
/-- well and tables -/
structure WT (K : PySem.W.Frag) (p : Addr) (x c : Int) (H Hi : Hp) : Prop where
  kn : SL.KpN p H Hi
  hp : Hi p = some (.lst [.int x, .int c])
  tb : LamX.Tabs (TT K) Hi
theorem WT.ext {p : Addr} {x c : Int} {H Hi Hj : Hp} (S : WT K p x c H Hi) (s : LamX.ExtN Hi Hj) (t : LamX.Tabs (TT K) Hj) : WT K p x c H Hj :=
  ⟨S.kn.trans (SL.KpN.ext s), s _ _ S.hp (fun _ z => by cases z), t⟩
theorem WT.same {p : Addr} {x c : Int} {H Hi Hj : Hp} (S : WT K p x c H Hi) (s : Same Hi Hj) : WT K p x c H Hj := S.ext (SL.ExtN.of_same s) (SL.Tabs.same S.tb s)
theorem WT.draw {p : Addr} {x c x' c' : Int} {H Hi Hj : Hp} (S : WT K p x c H Hi) (s : Kp p Hi Hj) (e : Hj p = some (.lst [.int x', .int c'])) : WT K p x' c' H Hj :=
  ⟨S.kn.trans (SL.KpN.of s), e, SL.Tabs.kp S.tb S.hp s⟩
/-- a list that is the law's own: nothing of H -/
structure Own1 (p : Addr) (H Hi : Hp) (l : Addr) (xs : List V) : Prop where
  hl : Hi l = some (.lst xs)
  ne : l ≠ p
  nw : ∀ b o, b ≠ p → (∀ ps, o ≠ .tbl ps) → H b = some o → b ≠ l
theorem Own1.new {p l : Addr} {x c : Int} {H Hi : Hp} {xs : List V} (S : WT K p x c H Hi) (n : Hi l = none) : Own1 p H (upd Hi l (.lst xs)) l xs :=
  ⟨upd_same, Ne.symm (ne_of_none S.hp n), fun b o nb m e => ne_of_none (S.kn b o nb m e) n⟩
theorem Own1.ext {p l : Addr} {H Hi Hj : Hp} {xs : List V} (O : Own1 p H Hi l xs) (s : LamX.ExtN Hi Hj) : Own1 p H Hj l xs := ⟨s _ _ O.hl (fun _ z => by cases z), O.ne, O.nw⟩
theorem Own1.same {p l : Addr} {H Hi Hj : Hp} {xs : List V} (O : Own1 p H Hi l xs) (s : Same Hi Hj) : Own1 p H Hj l xs := ⟨s _ _ O.hl, O.ne, O.nw⟩
theorem Own1.draw {p l : Addr} {H Hi Hj : Hp} {xs : List V} (O : Own1 p H Hi l xs) (s : Kp p Hi Hj) : Own1 p H Hj l xs := ⟨s _ _ O.ne O.hl, O.ne, O.nw⟩
theorem Own1.set {p l : Addr} {H Hi : Hp} {xs ys : List V} (O : Own1 p H Hi l xs) : Own1 p H (upd Hi l (.lst ys)) l ys := ⟨upd_same, O.ne, O.nw⟩
theorem Own1.put {p l d : Addr} {H Hi : Hp} {xs : List V} {o : HO} (O : Own1 p H Hi l xs) (ne : l ≠ d) : Own1 p H (upd Hi d o) l xs := ⟨(upd_ne ne).trans O.hl, O.ne, O.nw⟩
theorem WT.put {p l : Addr} {x c : Int} {H Hi : Hp} {xs ys : List V} (S : WT K p x c H Hi) (O : Own1 p H Hi l xs) : WT K p x c H (upd Hi l (.lst ys)) :=
  ⟨fun b o nb m e => (upd_ne (O.nw b o nb m e)).trans (S.kn b o nb m e), (upd_ne (Ne.symm O.ne)).trans S.hp, SL.Tabs.kp S.tb O.hl Kp.set⟩
/-- what the law of parts rests on -/
structure PH (P : Program) (w : World) (K : PySem.W.Frag) (mg : Str → Option Value) (base : Heap) (CB CR CQ CM CN : Addr) : Prop where
  TB : LamX.TabB base mg (He.cT K ("_law_parts_right", none)).1 (He.cT K ("_law_parts_right", none)).2
  ds : Dst K
  li : mg "list" = none
  ab : mg "abs" = none
  R : Tells K mg "_law_name_of" "_law_ask_here" s_law_name_of
  nf : NgF K mg CN
  rk : RangesK P w K mg base CR
  qk : RestsK P w K mg base CQ
  kR : PySem.W.kitOne K (.ref CR) (.ref CM) = some true
  kQ : PySem.W.kitOne K (.ref CQ) (.ref CM) = some false
  neR : OBQ.NoEq K CR
  neQ : OBQ.NoEq K CQ
  dr : Cal P w K mg base CX0 "_law_draw" 1 ["_law_well_here", "_law_many"] spDraw
  sp : Cal P w K mg base CX0 "_law_span" 2 ["_law_well_here"] spSpan
  cl : Cls K CB
  own : CalM P w K mg base CX0 CB "own" 10 ["self", "key"] (spBOwn P w K mg base CB)
  joi : CalM P w K mg base CX0 CB "join" 10 ["self", "one", "other"] (spBJoin P w K mg base CB)
  con : CalM P w K mg base CX0 CB "consistent" 7 ["self", "label", "question"] (spBAnd P w K mg base CB "consistent")
  mat : CalM P w K mg base CX0 CB "matches" 7 ["self", "key", "question"] (spBAnd P w K mg base CB "matches")
  pen : CalM P w K mg base CX0 CB "penalty" 7 ["self", "label", "key"] (spBPen P w K mg base CB)
  sid : CalM P w K mg base CX0 CB "sides" 7 ["self", "labels"] (spBSides P w K mg base CB)
  dis : CalM P w K mg base (L2.CX P w) CB "distance" 8 ["self", "key", "point"] (spBDist P w K mg base CB CM CN "distance")
  bou : CalM P w K mg base (L2.CX P w) CB "bound" 8 ["self", "label", "point"] (spBDist P w K mg base CB CM CN "bound")
abbrev XP (P : Program) (w : World) (K : PySem.W.Frag) (mg : Str → Option Value) (base : Heap) (A : Around) (outer : List Env) (s : Shared) (H : Hp) (E : XK) : Cx :=
  (cxOf CX0 P w K mg base n_law_parts_right "_law_parts_right" (defScope s_law_parts_right) (He.fAd K ("_law_parts_right", none)) (.ref (He.codeOf K ("_law_parts_right", none))) A outer s H E).nox
abbrev ApR (K : PySem.W.Frag) (A : Around) (s : Shared) : Around := A.deeper (envOfC "_law_parts_right" (defScope s_law_parts_right) s.heap.objs.size (He.fAd K ("_law_parts_right", none)) (.ref (He.codeOf K ("_law_parts_right", none))))
/-- what the law has told till its end -/
structure Told (a : Ad) (p : Addr) (H Hi : Hp) (fo du l1 l2 f0 f1 g0 g1 : Addr) (A B : Bool) (pe : Int) (ns : List Int) (f5 d5 : List V) : Prop where
  Fo : Own1 p H Hi fo ([.ref f0, .ref f1, .bl A, .bl B, .int pe, .ref l1] ++ f5)
  Du : Own1 p H Hi du ([.ref g0, .ref g1, .bl A, .bl B, .int pe, .ref l2] ++ d5)
  L1 : Own1 p H Hi l1 (ns.map V.int)
  L2 : Own1 p H Hi l2 (ns.map V.int)
  n1 : l1 ≠ du
  n2 : l2 ≠ du
  nf : fo ≠ du
  F0 : Tw Hi f0 a.i a.i 0 a.m
  G0 : Tw Hi g0 a.i a.i 0 a.m
  F1 : Tw Hi f1 (min a.lo a.lp) (max a.hi a.hq) (RS.jm 6 1 0 a.r) (RS.jr 6 1 0 a.r)
  G1 : Tw Hi g1 (min a.lo a.lp) (max a.hi a.hq) (RS.jm 6 1 0 a.r) (RS.jr 6 1 0 a.r)
section
variable {a : Ad} {p : Addr} {H Hi Hj : Hp} {fo du l1 l2 f0 f1 g0 g1 : Addr} {A B : Bool} {pe : Int} {ns : List Int} {f5 d5 : List V}
theorem Told.ext (T : Told a p H Hi fo du l1 l2 f0 f1 g0 g1 A B pe ns f5 d5) (s : LamX.ExtN Hi Hj) : Told a p H Hj fo du l1 l2 f0 f1 g0 g1 A B pe ns f5 d5 :=
  have k := KL.ext s
  ⟨T.Fo.ext s, T.Du.ext s, T.L1.ext s, T.L2.ext s, T.n1, T.n2, T.nf, T.F0.by k, T.G0.by k, T.F1.by k, T.G1.by k⟩
theorem Told.same (T : Told a p H Hi fo du l1 l2 f0 f1 g0 g1 A B pe ns f5 d5) (s : Same Hi Hj) : Told a p H Hj fo du l1 l2 f0 f1 g0 g1 A B pe ns f5 d5 := T.ext (SL.ExtN.of_same s)
theorem Told.draw {x c : Int} (T : Told a p H Hi fo du l1 l2 f0 f1 g0 g1 A B pe ns f5 d5) (W : WT K p x c H Hi) (s : Kp p Hi Hj) : Told a p H Hj fo du l1 l2 f0 f1 g0 g1 A B pe ns f5 d5 :=
  have k := KL.kp W.hp s
  ⟨T.Fo.draw s, T.Du.draw s, T.L1.draw s, T.L2.draw s, T.n1, T.n2, T.nf, T.F0.by k, T.G0.by k, T.F1.by k, T.G1.by k⟩
theorem Told.put (T : Told a p H Hi fo du l1 l2 f0 f1 g0 g1 A B pe ns f5 d5) {v : V} : Told a p H (upd Hi du (.lst ([.ref g0, .ref g1, .bl A, .bl B, .int pe, .ref l2] ++ d5 ++ [v]))) fo du l1 l2 f0 f1 g0 g1 A B pe ns f5 (d5 ++ [v]) :=
  have k : KL Hi (upd Hi du (.lst ([.ref g0, .ref g1, .bl A, .bl B, .int pe, .ref l2] ++ d5 ++ [v]))) := KL.set T.Du.hl
  ⟨T.Fo.put T.nf, by rw [← List.append_assoc]; exact T.Du.set, T.L1.put T.n1, T.L2.put T.n2, T.n1, T.n2, T.nf, T.F0.by k, T.G0.by k, T.F1.by k, T.G1.by k⟩
/-- what was found is what was due -/
theorem Told.eq {d b : Int} {Q : VK} (T : Told a p H Hi fo du l1 l2 f0 f1 g0 g1 A B pe ns [.int d, .int b] [.int d, .int b]) (q : Q (.bl true) Hi) : DN.rEqD false (.ref fo) (.ref du) Hi Q := by
  refine rEq_same (D := .list [.tuple [.tuple [.int a.i, .int a.i], .tuple [.int 0, .int a.m]], .tuple [.tuple [.int (min a.lo a.lp), .int (max a.hi a.hq)], .tuple [.int (RS.jm 6 1 0 a.r), .int (RS.jr 6 1 0 a.r)]], .bool A, .bool B, .int pe, .list (ns.map PyData.int), .int d, .int b])
    (.lst T.Fo.hl (.cons T.F0.shw (.cons T.F1.shw (.cons (.bl _) (.cons (.bl _) (.cons (.int _) (.cons (.lst T.L1.hl (shw_ints ns)) (.cons (.int _) (.cons (.int _) .nil)))))))))
    (.lst T.Du.hl (.cons T.G0.shw (.cons T.G1.shw (.cons (.bl _) (.cons (.bl _) (.cons (.int _) (.cons (.lst T.L2.hl (shw_ints ns)) (.cons (.int _) (.cons (.int _) .nil))))))))) ?_ ?_ q
  · simp only [PyData.canLay0, PyData.canLayAll0, lay_ints]
    rfl
  · simp [PyData.depth, PyData.depthAll, depth_ints]
end
end
end K16
set_option Elab.async false
set_option linter.all false
set_option maxRecDepth 100000
set_option maxHeartbeats 2000000
namespace K16
open PySem PySem.Spec PyProof.Rows L2 CM DN GR
section
variable {P : Program} {w : World} {K : PySem.W.Frag} {mg : Str → Option Value} {base : Heap}
theorem pr_t5 {CB CR CQ CM CN : Addr} (h : PH P w K mg base CB CR CQ CM CN) {k : Nat} {A : Around} {outer : List Env} {s : Shared} {H0 : Hp} {E : XK} (hr : Room (k + 10) (ApR K A s)) :
    ∃ t, PSs (XP P w K mg base A outer s H0 E) ((defBody s_law_parts_right).drop 17) t ∧ ∀ (a : Ad) (x c j l d b pe : Int) (H Hi : Hp) (fo du l1 l2 f0 f1 g0 g1 sp st : Addr) (A B : Bool) (ns : List Int) (Q : VK), a.Ok → PB CB CR CQ a Hi → WT K a.p x c H Hi →
      Told a a.p H Hi fo du l1 l2 f0 f1 g0 g1 A B pe ns [.int d, .int b] [.int d, .int b] → Hi st = some (.tup [.int j, .int l]) →
      (∀ (H' : Hp) (x' c' : Int), SL.KpN a.p H H' → LamX.Tabs (TT K) H' → H' a.p = some (.lst [.int x', .int c']) → Q (.bl true) H') →
      t { nx := fun _ H' => Q .non H', rt := Q } [some (.ref a.p), some (.ref a.kl), some (.ref a.kr), some (.ref a.pa), some (.ref a.mo), some (.ref a.as), some (.ref fo), some (.ref du), some (.ref sp), none, some (.ref a.it), some (.ref a.ma), some (.ref st), some (.ref a.tg)] Hi := by
  have TB := h.TB
  have ds := h.ds
  have R := h.R
  have nf := h.nf
  have cl_B := h.cl
  obtain ⟨f7, g7, G_Bdistance, b_Bdistance, me_Bdistance⟩ := h.dis
  obtain ⟨f8, g8, G_Bbound, b_Bbound, me_Bbound⟩ := h.bou
  refine ⟨_, pss_cons (ps_set (i := 9) sc_law_parts_right.nd rfl (.inl rfl) (pe_lst (pa_cons (pe_name (k := k + 8) R nf TB rfl (List.mem_of_getElem? (i := 1) rfl) (tt_q ds (i := 1) rfl) (hr.mono (by omega)) (by rfl) (LamX.lamS_by (sc := defScope s_law_parts_right) (by decide +kernel)) rfl (fun _ _ _ _ _ => rfl) (fun A outer s H E f c' hr => pe_meth (pv 11) cl_B me_Bdistance G_Bdistance (hr.mono (by omega)) b_Bdistance .nil (passes_call (takes_of rfl rfl rfl rfl) (fun _ _ _ _ h => h)) (pa_cons (pv 10) (pa_cons (pv 12) pa_nil)))) pa_nil)))
    (pss_cons (ps_expr (pe_bm PySem.F.plainAttrs_list PySem.F.slot_list_append PySem.F.type_list_append mt_append (pv 9) (pa_cons (pe_name (k := k + 8) R nf TB rfl (List.mem_of_getElem? (i := 1) rfl) (tt_q ds (i := 1) rfl) (hr.mono (by omega)) (by rfl) (LamX.lamS_by (sc := defScope s_law_parts_right) (by decide +kernel)) rfl (fun _ _ _ _ _ => rfl) (fun A outer s H E f c' hr => pe_meth (pv 11) cl_B me_Bbound G_Bbound (hr.mono (by omega)) b_Bbound .nil (passes_call (takes_of rfl rfl rfl rfl) (fun _ _ _ _ h => h)) (pa_cons (pv 13) (pa_cons (pv 12) pa_nil)))) pa_nil)))
    (pss_one (ps_ret (pe_and (pe_cmpR (DN.op_eqD hr.units) (pv 6) (pv 7) (nomark _)) (pe_one (pe_cmpR (DN.op_eqD hr.units) (pv 9) (pe_lst (pa_cons pe_str (pa_cons pe_str pa_nil))) (nomark _))))))), fun a x c j l d b pe H Hi fo du l1 l2 f0 f1 g0 g1 sp st A B ns Q ok BP W T hst q => ?_⟩
  refine ⟨W.tb, fun H1 e1 t1 => ?_⟩
  have B1 := BP.by (KL.ext e1)
  have W1 := W.ext e1 t1
  have T1 := T.ext e1
  have st1 := e1 _ _ hst fun _ z => by cases z
  intro E1 Q1 hE1
  obtain ⟨dm, em⟩ := B1.ma
  obtain ⟨x1, y1⟩ := B1.kl
  obtain ⟨x2, y2⟩ := B1.kr
  refine ⟨_, rfl, a.ma, _, _, rfl, em, rfl, _, rfl, _, rfl, ?_⟩
  refine b2_nodis h.rk h.qk h.kR h.kQ ⟨dm, em⟩ y1 y2 B1.it st1 fun H2 s2 d2 H3 nd3 s3 hd3 => hE1 d2 H3 _ hd3 ?_
  have s13 := s2.trans s3
  have W3 := W1.same s13
  refine ⟨by show 1 ≤ sizeLine; decide, fun nm nnm => ?_⟩
  have O4 := Own1.new (xs := [.str "distance"]) W3 nnm
  have s4 := same_upd (o := .lst [.str "distance"]) nnm
  have W4 := W3.same s4
  have B4 := B1.by (KL.same (s13.trans s4))
  have T4 := T1.same (s13.trans s4)
  have st4 := (s13.trans s4) _ _ st1
  have nd4 : nm ≠ du := Ne.symm (ne_of_none ((T1.same s13).Du.hl) nnm)
  have nf4 : nm ≠ fo := Ne.symm (ne_of_none ((T1.same s13).Fo.hl) nnm)
  have na4 : nm ≠ l1 := Ne.symm (ne_of_none ((T1.same s13).L1.hl) nnm)
  have nb4 : nm ≠ l2 := Ne.symm (ne_of_none ((T1.same s13).L2.hl) nnm)
  generalize upd H3 nm (.lst [.str "distance"]) = H4 at O4 W4 B4 T4 st4
  refine ⟨_, rfl, .inl ⟨rfl, _, .inl (.inl O4.hl)⟩, W4.tb, fun H5 e5 t5 => ?_⟩
  have B5 := B4.by (KL.ext e5)
  have W5 := W4.ext e5 t5
  have T5 := T4.ext e5
  have O5 := O4.ext e5
  have st5 := e5 _ _ st4 fun _ z => by cases z
  intro E2 Q2 hE2
  obtain ⟨dm2, em2⟩ := B5.ma
  obtain ⟨x3, y3⟩ := B5.kl
  obtain ⟨x4, y4⟩ := B5.kr
  refine ⟨_, rfl, a.ma, _, _, rfl, em2, rfl, _, rfl, _, rfl, ?_⟩
  refine b2_nobou h.rk h.qk h.kR h.kQ ⟨dm2, em2⟩ y3 y4 B5.tg st5 B5.a1 ok.lo1 fun H6 s6 d6 H7 nd7 s7 hd7 => hE2 d6 H7 _ hd7 ?_
  have s57 := s6.trans s7
  have W7 := W5.same s57
  have T7 := T5.same s57
  have O7 := O5.same s57
  refine ⟨nm, _, _, rfl, rfl, O7.hl, small1000 (by show 1 ≤ 1000; decide), ?_⟩
  have W8 := W7.put (ys := [.str "distance"] ++ [.str "bound"]) O7
  have k8 : KL H7 (upd H7 nm (.lst ([.str "distance"] ++ [.str "bound"]))) := KL.set O7.hl
  have O8 := O7.set (ys := [.str "distance"] ++ [.str "bound"])
  have T8 : Told a a.p H (upd H7 nm (.lst ([.str "distance"] ++ [.str "bound"]))) fo du l1 l2 f0 f1 g0 g1 A B pe ns [.int d, .int b] [.int d, .int b] :=
    ⟨T7.Fo.put (Ne.symm nf4), T7.Du.put (Ne.symm nd4), T7.L1.put (Ne.symm na4), T7.L2.put (Ne.symm nb4), T7.n1, T7.n2, T7.nf, T7.F0.by k8, T7.G0.by k8, T7.F1.by k8, T7.G1.by k8⟩
  generalize upd H7 nm (.lst ([.str "distance"] ++ [.str "bound"])) = H8 at W8 O8 T8
  refine ⟨_, rfl, _, rfl, T8.eq ⟨true, rfl, iteT ?_⟩⟩
  refine ⟨_, rfl, by show 2 ≤ sizeLine; decide, fun y3 ny3 => ?_⟩
  have s9 := same_upd (o := .lst [.str "distance", .str "bound"]) ny3
  have shN : ∀ G, RZ.ShwAll G [V.str "distance", V.str "bound"] [.str "distance", .str "bound"] := fun G => .cons (.str _) (.cons (.str _) .nil)
  have W9 := W8.same s9
  exact rEq_same (D := .list [.str "distance", .str "bound"]) (.lst (s9 _ _ O8.hl) (shN _)) (.lst upd_same (shN _)) (by decide +kernel) (by decide +kernel) (q _ x c W9.kn W9.tb W9.hp)

end
end K16
set_option Elab.async false
set_option linter.all false
set_option maxRecDepth 100000
set_option maxHeartbeats 2000000
namespace K16
open PySem PySem.Spec PyProof.Rows L2 CM DN GR
section
variable {P : Program} {w : World} {K : PySem.W.Frag} {mg : Str → Option Value} {base : Heap}
theorem pr_t4 {CB CR CQ CM CN : Addr} (h : PH P w K mg base CB CR CQ CM CN) {k : Nat} {A : Around} {outer : List Env} {s : Shared} {H0 : Hp} {E : XK} (hr : Room (k + 10) (ApR K A s)) :
    ∃ t, PSs (XP P w K mg base A outer s H0 E) ((defBody s_law_parts_right).drop 13) t ∧ ∀ (a : Ad) (x c pe : Int) (H Hi : Hp) (fo du l1 l2 f0 f1 g0 g1 : Addr) (A B : Bool) (ns : List Int) (Q : VK), a.Ok → PB CB CR CQ a Hi → WT K a.p x c H Hi →
      Told a a.p H Hi fo du l1 l2 f0 f1 g0 g1 A B pe ns [] [] →
      (∀ (H' : Hp) (x' c' : Int), SL.KpN a.p H H' → LamX.Tabs (TT K) H' → H' a.p = some (.lst [.int x', .int c']) → Q (.bl true) H') →
      t { nx := fun _ H' => Q .non H', rt := Q } [some (.ref a.p), some (.ref a.kl), some (.ref a.kr), some (.ref a.pa), some (.ref a.mo), some (.ref a.as), some (.ref fo), some (.ref du), none, none, some (.ref a.it), some (.ref a.ma), none, some (.ref a.tg)] Hi := by
  obtain ⟨t5, ht5, q5⟩ := pr_t5 (outer := outer) (H0 := H0) (E := E) h hr
  have m_abs := h.ab
  have cl_B := h.cl
  have cl_R := h.rk.cl
  obtain ⟨f_law_draw, fd_law_draw, G_law_draw, b_law_draw, m_law_draw, k_law_draw⟩ := h.dr
  obtain ⟨f_law_span, fd_law_span, G_law_span, b_law_span, m_law_span, k_law_span⟩ := h.sp
  obtain ⟨f7, g7, G_Bdistance, b_Bdistance, me_Bdistance⟩ := h.dis
  obtain ⟨f8, g8, G_Bbound, b_Bbound, me_Bbound⟩ := h.bou
  obtain ⟨r8, s8, G_Rbound, b_Rbound, me_Rbound⟩ := h.rk.bou
  refine ⟨_, pss_cons (ps_asg (pe_tup (pa_cons (pe_tup (pa_cons (pe_call G_law_span (hr.mono (by omega)) (by rfl) m_law_span k_law_span b_law_span .nil pass0 (pa_cons (pv 0) pa_nil)) (pa_cons (pe_call G_law_span (hr.mono (by omega)) (by rfl) m_law_span k_law_span b_law_span .nil pass0 (pa_cons (pv 0) pa_nil)) pa_nil))) (pa_cons (pe_tup (pa_cons (pe_op op_sub (pe_call G_law_draw (hr.mono (by omega)) (by rfl) m_law_draw k_law_draw b_law_draw .nil pass0 (pa_cons (pv 0) (pa_cons pe_int pa_nil))) pe_int) (pa_cons (pe_call G_law_draw (hr.mono (by omega)) (by rfl) m_law_draw k_law_draw b_law_draw .nil pass0 (pa_cons (pv 0) (pa_cons pe_int pa_nil))) pa_nil))) pa_nil))) (pg_tup rfl (pgs_cons (pg_name (i := 8) sc_law_parts_right.nd rfl (.inl rfl)) (pgs_cons (pg_name (i := 12) sc_law_parts_right.nd rfl (.inr rfl)) (pgs_nil)))))
    (pss_cons (ps_set (i := 6) sc_law_parts_right.nd rfl (.inl rfl) (pe_op op_cat (pv 6) (pe_lst (pa_cons (pe_meth ((pv 3)) cl_B me_Bdistance G_Bdistance (hr.mono (by omega)) b_Bdistance .nil passF (pa_cons (pv 10) (pa_cons (pv 12) pa_nil))) (pa_cons (pe_meth ((pv 3)) cl_B me_Bbound G_Bbound (hr.mono (by omega)) b_Bbound .nil passF (pa_cons (pv 8) (pa_cons (pv 12) pa_nil))) pa_nil)))))
    (pss_cons (ps_set (i := 7) sc_law_parts_right.nd rfl (.inl rfl) (pe_op op_cat (pv 7) (pe_lst (pa_cons (pe_op op_add (pe_callB call_abs (by rfl) m_abs (by decide +kernel) (pa_cons (pe_op op_sub (pe_ix ix_tup (pv 10) pe_int (fun _ _ => rfl)) (pe_ix ix_tup (pv 12) pe_int (fun _ _ => rfl))) pa_nil)) (pe_callB call_abs (by rfl) m_abs (by decide +kernel) (pa_cons (pe_op op_sub (pe_ix ix_tup (pv 10) pe_int (fun _ _ => rfl)) (pe_ix ix_tup (pv 12) pe_int (fun _ _ => rfl))) pa_nil))) pa_nil))))
    (pss_cons (ps_expr (pe_bm PySem.F.plainAttrs_list PySem.F.slot_list_append PySem.F.type_list_append mt_append (pv 7) (pa_cons (pe_op op_add (pe_meth ((pv 1)) cl_R me_Rbound G_Rbound (hr.mono (by omega)) b_Rbound .nil pass0 (pa_cons (pe_ix ix_tup (pv 8) pe_int (fun _ _ => rfl)) (pa_cons (pe_ix ix_tup (pv 12) pe_int (fun _ _ => rfl)) pa_nil))) (pe_meth ((pv 1)) cl_R me_Rbound G_Rbound (hr.mono (by omega)) b_Rbound .nil pass0 (pa_cons (pe_ix ix_tup (pv 8) pe_int (fun _ _ => rfl)) (pa_cons (pe_ix ix_tup (pv 12) pe_int (fun _ _ => rfl)) pa_nil)))) pa_nil)))
    (ht5)))), fun a x c pe H Hi fo du l1 l2 f0 f1 g0 g1 A B ns Q ok BP W T q => ?_⟩
  -- spans, spot
  refine ⟨_, rfl, a.p, x, c, rfl, W.hp, fun u H1 x1 c1 lo hi k1 hp1 hu1 lo0 lo1 lo2 => ?_⟩
  have W1 := W.draw k1 hp1
  have B1 := BP.by (KL.kp W.hp k1)
  have T1 := T.draw W k1
  refine ⟨_, rfl, a.p, x1, c1, rfl, W1.hp, fun v H2 x2 c2 lp hq k2 hp2 hv2 lp0 lp1 lp2 => ?_⟩
  have W2 := W1.draw k2 hp2
  have B2 := B1.by (KL.kp W1.hp k2)
  have T2 := T1.draw W1 k2
  have hu2 := (KL.kp W1.hp k2).tup hu1
  refine ⟨by show 2 ≤ sizeLine; decide, fun sp nsp => ?_⟩
  have s3 := same_upd (o := .tup [.ref u, .ref v]) nsp
  have W3 := W2.same s3
  have B3 := B2.by (KL.same s3)
  have T3 := T2.same s3
  have hu3 := s3 _ _ hu2
  have hv3 := s3 _ _ hv2
  have hsp3 := upd_same (H := H2) (a := sp) (o := .tup [.ref u, .ref v])
  generalize upd H2 sp (.tup [.ref u, .ref v]) = H3 at W3 B3 T3 hu3 hv3 hsp3
  refine ⟨_, rfl, a.p, x2, c2, 41, rfl, W3.hp, by decide, .of (k := 10) (by decide) (by decide), fun j x4 c4 j0 j1 => ?_⟩
  refine ⟨j, 20, rfl, rfl, ?_⟩
  refine ⟨_, rfl, a.p, x4, c4, 41, rfl, upd_same, by decide, .of (k := 10) (by decide) (by decide), fun l x5 c5 l0 l1' => ?_⟩
  have k5 : Kp a.p H3 (upd (upd H3 a.p (.lst [.int x4, .int c4])) a.p (.lst [.int x5, .int c5])) := Kp.set.trans Kp.set
  have W5 := W3.draw k5 upd_same
  have B5 := B3.by (KL.kp W3.hp k5)
  have T5 := T3.draw W3 k5
  have hu5 := (KL.kp W3.hp k5).tup hu3
  have hv5 := (KL.kp W3.hp k5).tup hv3
  have hsp5 := (KL.kp W3.hp k5).tup hsp3
  generalize upd (upd H3 a.p (.lst [.int x4, .int c4])) a.p (.lst [.int x5, .int c5]) = H5 at W5 B5 T5 hu5 hv5 hsp5
  refine ⟨by show 2 ≤ sizeLine; decide, fun st nst => ⟨by show 2 ≤ sizeLine; decide, fun tp ntp => ⟨tp, _, rfl, .inl (.inl upd_same), rfl, _, _, rfl, _, _, rfl, rfl, ?_⟩⟩⟩
  have s6 := same_upd (o := .tup [.int (j - 20), .int l]) nst
  have s7 := same_upd (o := .tup [.ref sp, .ref st]) ntp
  have s67 := s6.trans s7
  have W7 := W5.same s67
  have B7 := B5.by (KL.same s67)
  have T7 := T5.same s67
  have hu7 := s67 _ _ hu5
  have hv7 := s67 _ _ hv5
  have hsp7 := s67 _ _ hsp5
  have hst7 := s7 _ _ (upd_same (H := H5) (a := st) (o := .tup [.int (j - 20), .int l]))
  generalize upd (upd H5 st (.tup [.int (j - 20), .int l])) tp (.tup [.ref sp, .ref st]) = H7 at W7 B7 T7 hu7 hv7 hsp7 hst7
  -- found
  refine ⟨_, rfl, ?_⟩
  obtain ⟨dp, ep⟩ := B7.pa
  obtain ⟨z1, y1⟩ := B7.k1
  obtain ⟨z2, y2⟩ := B7.k2
  refine ⟨_, rfl, a.pa, _, _, rfl, ep, rfl, _, rfl, _, rfl, ?_⟩
  dsimp only [tNil]
  refine p_dis h.rk h.kR ⟨dp, ep⟩ y1 y2 B7.it hst7 fun H8 s8 => ?_
  refine ⟨_, rfl, a.pa, _, _, rfl, s8 _ _ ep, rfl, _, rfl, _, rfl, ?_⟩
  dsimp only [tNil]
  refine p_bou h.rk h.kR ⟨dp, s8 _ _ ep⟩ (s8 _ _ y1) (s8 _ _ y2) (s8 _ _ hsp7) (s8 _ _ hst7) (s8 _ _ hu7) (s8 _ _ hv7) lo1 lp1 fun H9 s9 => ?_
  have s89 := s8.trans s9
  obtain ⟨d, hd⟩ : ∃ d, d = (if a.i - (j - 20) < 0 then -(a.i - (j - 20)) else a.i - (j - 20)) + (if a.m - l < 0 then -(a.m - l) else a.m - l) := ⟨_, rfl⟩
  obtain ⟨b, hb⟩ : ∃ b, b = max 0 (max (lo - (j - 20)) (j - 20 - hi)) + max 0 (max (lp - l) (l - hq)) := ⟨_, rfl⟩
  rw [← hd, ← hb]
  refine ⟨by show 2 ≤ sizeLine; decide, fun fl nfl => ?_⟩
  have s10 := s89.trans (same_upd (o := .lst [.int d, .int b]) nfl)
  have hfl := upd_same (H := H9) (a := fl) (o := .lst [.int d, .int b])
  have W10 := W7.same s10
  have B10 := B7.by (KL.same s10)
  have T10 := T7.same s10
  have hu10 := s10 _ _ hu7
  have hv10 := s10 _ _ hv7
  have hsp10 := s10 _ _ hsp7
  have hst10 := s10 _ _ hst7
  generalize upd H9 fl (.lst [.int d, .int b]) = H10 at hfl W10 B10 T10 hu10 hv10 hsp10 hst10
  refine ⟨fo, fl, _, _, rfl, rfl, T10.Fo.hl, hfl, by show 6 + 2 ≤ sizeLine; decide, fun fo2 nfo2 => ?_⟩
  have s11 := same_upd (o := .lst ([.ref f0, .ref f1, .bl A, .bl B, .int pe, .ref l1] ++ [] ++ [.int d, .int b])) nfo2
  have O11 := Own1.new (xs := [.ref f0, .ref f1, .bl A, .bl B, .int pe, .ref l1] ++ [] ++ [.int d, .int b]) W10 nfo2
  have W11 := W10.same s11
  have B11 := B10.by (KL.same s11)
  have T11 := T10.same s11
  have nfd11 : fo2 ≠ du := Ne.symm (ne_of_none T10.Du.hl nfo2)
  have hu11 := s11 _ _ hu10
  have hv11 := s11 _ _ hv10
  have hsp11 := s11 _ _ hsp10
  have hst11 := s11 _ _ hst10
  generalize upd H10 fo2 (.lst ([.ref f0, .ref f1, .bl A, .bl B, .int pe, .ref l1] ++ [] ++ [.int d, .int b])) = H11 at O11 W11 B11 T11 hu11 hv11 hsp11 hst11
  -- due
  refine ⟨_, rfl, _, rfl, a.it, _, 0, _, rfl, rfl, .inl (.inl B11.it), rfl, _, rfl, st, _, 0, _, rfl, rfl, .inl (.inl hst11), rfl, _, _, rfl, rfl, _, rfl, ?_⟩
  refine ⟨_, rfl, a.it, _, 1, _, rfl, rfl, .inl (.inl B11.it), rfl, _, rfl, st, _, 1, _, rfl, rfl, .inl (.inl hst11), rfl, _, _, rfl, rfl, _, rfl, _, _, rfl, rfl, by show 1 ≤ sizeLine; decide, fun dl ndl => ?_⟩
  dsimp only
  rw [← hd]
  have s12 := same_upd (o := .lst [.int d]) ndl
  have hdl := upd_same (H := H11) (a := dl) (o := .lst [.int d])
  have W12 := W11.same s12
  have B12 := B11.by (KL.same s12)
  have T12 := T11.same s12
  have O12 := O11.same s12
  have hu12 := s12 _ _ hu11
  have hv12 := s12 _ _ hv11
  have hsp12 := s12 _ _ hsp11
  have hst12 := s12 _ _ hst11
  generalize upd H11 dl (.lst [.int d]) = H12 at hdl W12 B12 T12 O12 hu12 hv12 hsp12 hst12
  refine ⟨du, dl, _, _, rfl, rfl, T12.Du.hl, hdl, by show 6 + 1 ≤ sizeLine; decide, fun du2 ndu2 => ?_⟩
  have s13 := same_upd (o := .lst ([.ref g0, .ref g1, .bl A, .bl B, .int pe, .ref l2] ++ [] ++ [.int d])) ndu2
  have D13 := Own1.new (xs := [.ref g0, .ref g1, .bl A, .bl B, .int pe, .ref l2] ++ [] ++ [.int d]) W12 ndu2
  have W13 := W12.same s13
  have B13 := B12.by (KL.same s13)
  have T13 : Told a a.p H _ fo2 du2 l1 l2 f0 f1 g0 g1 A B pe ns [.int d, .int b] [.int d] :=
    ⟨O12.same s13, D13, T12.L1.same s13, T12.L2.same s13, Ne.symm (ne_of_none T12.L1.hl ndu2) |>.symm, Ne.symm (ne_of_none T12.L2.hl ndu2) |>.symm, ne_of_none O12.hl ndu2, T12.F0.by (KL.same s13), T12.G0.by (KL.same s13), T12.F1.by (KL.same s13), T12.G1.by (KL.same s13)⟩
  have hu13 := s13 _ _ hu12
  have hv13 := s13 _ _ hv12
  have hsp13 := s13 _ _ hsp12
  have hst13 := s13 _ _ hst12
  generalize upd H12 du2 (.lst ([.ref g0, .ref g1, .bl A, .bl B, .int pe, .ref l2] ++ [] ++ [.int d])) = H13 at W13 B13 T13 hu13 hv13 hsp13 hst13
  -- append bounds
  obtain ⟨z3, y3⟩ := B13.kl
  refine ⟨_, rfl, .inl ⟨rfl, _, .inl (.inl T13.Du.hl)⟩, _, rfl, a.kl, _, _, rfl, y3, rfl, _, rfl, sp, _, 0, _, rfl, rfl, .inl (.inl hsp13), rfl, _, rfl, st, _, 0, _, rfl, rfl, .inl (.inl hst13), rfl, ?_⟩
  dsimp only [tNil]
  refine ⟨a.kl, u, lo, hi, j - 20, rfl, hu13, lo1, fun H14 s14 => ?_⟩
  refine ⟨_, rfl, a.kl, _, _, rfl, s14 _ _ y3, rfl, _, rfl, sp, _, 1, _, rfl, rfl, .inl (.inl (s14 _ _ hsp13)), rfl, _, rfl, st, _, 1, _, rfl, rfl, .inl (.inl (s14 _ _ hst13)), rfl, ?_⟩
  dsimp only [tNil]
  refine ⟨a.kl, v, lp, hq, l, rfl, s14 _ _ hv13, lp1, fun H15 s15 => ?_⟩
  have s45 := s14.trans s15
  refine ⟨_, _, rfl, rfl, ?_⟩
  dsimp only
  rw [← hb]
  have T15 := T13.same s45
  have W15 := W13.same s45
  have B15 := B13.by (KL.same s45)
  have st15 := s45 _ _ hst13
  refine ⟨du2, _, _, rfl, rfl, T15.Du.hl, small1000 (by show 7 ≤ 1000; decide), ?_⟩
  have k16 := KL.set (o := .lst ([.ref g0, .ref g1, .bl A, .bl B, .int pe, .ref l2] ++ [.int d] ++ [.int b])) T15.Du.hl
  exact q5 a x5 c5 (j - 20) l d b pe H _ fo2 du2 l1 l2 f0 f1 g0 g1 sp st A B ns Q ok (B15.by k16) (W15.put T15.Du) (T15.put (v := .int b)) (k16.tup st15) q
end
end K16
set_option Elab.async false
set_option linter.all false
set_option maxRecDepth 100000
set_option maxHeartbeats 2000000
namespace K16
open PySem PySem.Spec PyProof.Rows L2 CM DN GR
section
variable {P : Program} {w : World} {K : PySem.W.Frag} {mg : Str → Option Value} {base : Heap}
/-- what the law has told after the four first asks -/
structure Told4 (a : Ad) (p : Addr) (H Hi : Hp) (fo du f0 f1 g0 g1 : Addr) (A B : Bool) : Prop where
  Fo : Own1 p H Hi fo [.ref f0, .ref f1, .bl A, .bl B]
  Du : Own1 p H Hi du [.ref g0, .ref g1, .bl A, .bl B]
  nf : fo ≠ du
  F0 : Tw Hi f0 a.i a.i 0 a.m
  G0 : Tw Hi g0 a.i a.i 0 a.m
  F1 : Tw Hi f1 (min a.lo a.lp) (max a.hi a.hq) (RS.jm 6 1 0 a.r) (RS.jr 6 1 0 a.r)
  G1 : Tw Hi g1 (min a.lo a.lp) (max a.hi a.hq) (RS.jm 6 1 0 a.r) (RS.jr 6 1 0 a.r)
theorem Told4.ext {a : Ad} {p : Addr} {H Hi Hj : Hp} {fo du f0 f1 g0 g1 : Addr} {A B : Bool} (T : Told4 a p H Hi fo du f0 f1 g0 g1 A B) (s : LamX.ExtN Hi Hj) : Told4 a p H Hj fo du f0 f1 g0 g1 A B :=
  have k := KL.ext s
  ⟨T.Fo.ext s, T.Du.ext s, T.nf, T.F0.by k, T.G0.by k, T.F1.by k, T.G1.by k⟩
theorem Told4.same {a : Ad} {p : Addr} {H Hi Hj : Hp} {fo du f0 f1 g0 g1 : Addr} {A B : Bool} (T : Told4 a p H Hi fo du f0 f1 g0 g1 A B) (s : Same Hi Hj) : Told4 a p H Hj fo du f0 f1 g0 g1 A B := T.ext (SL.ExtN.of_same s)
theorem tag1 : RS.IsTag 100 6 1 := ⟨by decide, by decide, fun z => by omega, fun _ => ⟨by decide, by decide⟩⟩
theorem tag0 {r : Int} (h0 : 0 ≤ r) (h1 : r < 30) : RS.IsTag 100 0 r := ⟨by decide, by decide, fun _ => ⟨by omega, by omega⟩, fun z => by omega⟩
theorem pr_t3 {CB CR CQ CM CN : Addr} (h : PH P w K mg base CB CR CQ CM CN) {k : Nat} {A : Around} {outer : List Env} {s : Shared} {H0 : Hp} {E : XK} (hr : Room (k + 10) (ApR K A s)) :
    ∃ t, PSs (XP P w K mg base A outer s H0 E) ((defBody s_law_parts_right).drop 10) t ∧ ∀ (a : Ad) (x c : Int) (H Hi : Hp) (fo du f0 f1 g0 g1 : Addr) (A B : Bool) (Q : VK), a.Ok → PB CB CR CQ a Hi → WT K a.p x c H Hi →
      Told4 a a.p H Hi fo du f0 f1 g0 g1 A B →
      (∀ (H' : Hp) (x' c' : Int), SL.KpN a.p H H' → LamX.Tabs (TT K) H' → H' a.p = some (.lst [.int x', .int c']) → Q (.bl true) H') →
      t { nx := fun _ H' => Q .non H', rt := Q } [some (.ref a.p), some (.ref a.kl), some (.ref a.kr), some (.ref a.pa), some (.ref a.mo), some (.ref a.as), some (.ref fo), some (.ref du), none, none, some (.ref a.it), some (.ref a.ma), none, some (.ref a.tg)] Hi := by
  obtain ⟨t4, ht4, q4⟩ := pr_t4 (outer := outer) (H0 := H0) (E := E) h hr
  have m_list := h.li
  have cl_B := h.cl
  have cl_R := h.rk.cl
  have cl_Q := h.qk.cl
  obtain ⟨f5, g5, G_Bpenalty, b_Bpenalty, me_Bpenalty⟩ := h.pen
  obtain ⟨f6, g6, G_Bsides, b_Bsides, me_Bsides⟩ := h.sid
  obtain ⟨r5, s5, G_Rpenalty, b_Rpenalty, me_Rpenalty⟩ := h.rk.pen
  obtain ⟨r6, s6, G_Rsides, b_Rsides, me_Rsides⟩ := h.rk.sid
  obtain ⟨t5, v5, G_Qpenalty, b_Qpenalty, me_Qpenalty⟩ := h.qk.pen
  refine ⟨_, pss_cons (ps_set (i := 6) sc_law_parts_right.nd rfl (.inl rfl) (pe_op op_cat (pv 6) (pe_lst (pa_cons (pe_meth ((pv 11)) cl_B me_Bpenalty G_Bpenalty (hr.mono (by omega)) b_Bpenalty .nil pass0 (pa_cons (pv 13) (pa_cons (pv 10) pa_nil))) (pa_cons (pe_callTy call_list_of (by rfl) m_list (by decide +kernel) (pa_cons (pe_meth ((pv 11)) cl_B me_Bsides G_Bsides (hr.mono (by omega)) b_Bsides .nil pass0 (pa_cons (pe_lst (pa_cons (pv 13) (pa_cons (pv 4) (pa_cons (pv 13) pa_nil)))) pa_nil)) pa_nil)) pa_nil)))))
    (pss_cons (ps_set (i := 7) sc_law_parts_right.nd rfl (.inl rfl) (pe_op op_cat (pv 7) (pe_lst (pa_cons (pe_op op_add (pe_meth ((pv 1)) cl_R me_Rpenalty G_Rpenalty (hr.mono (by omega)) b_Rpenalty .nil pass0 (pa_cons (pe_ix ix_tup (pv 13) pe_int (fun _ _ => rfl)) (pa_cons (pe_ix ix_tup (pv 10) pe_int (fun _ _ => rfl)) pa_nil))) (pe_meth ((pv 2)) cl_Q me_Qpenalty G_Qpenalty (hr.mono (by omega)) b_Qpenalty .nil pass0 (pa_cons (pe_ix ix_tup (pv 13) pe_int (fun _ _ => rfl)) (pa_cons (pe_ix ix_tup (pv 10) pe_int (fun _ _ => rfl)) pa_nil)))) pa_nil))))
    (pss_cons (ps_expr (pe_bm PySem.F.plainAttrs_list PySem.F.slot_list_append PySem.F.type_list_append mt_append (pv 7) (pa_cons (pe_callTy call_list_of (by rfl) m_list (by decide +kernel) (pa_cons (pe_meth ((pv 1)) cl_R me_Rsides G_Rsides (hr.mono (by omega)) b_Rsides .nil pass0 (pa_cons (pe_lst (pa_cons (pe_ix ix_tup (pv 13) pe_int (fun _ _ => rfl)) (pa_cons (pe_ix ix_tup (pv 4) pe_int (fun _ _ => rfl)) (pa_cons (pe_ix ix_tup (pv 13) pe_int (fun _ _ => rfl)) pa_nil)))) pa_nil)) pa_nil)) pa_nil)))
    (ht4))), fun a x c H Hi fo du f0 f1 g0 g1 A B Q ok BP W T q => ?_⟩
  -- penalty
  obtain ⟨dm, em⟩ := BP.ma
  obtain ⟨x1, y1⟩ := BP.kl
  obtain ⟨x2, y2⟩ := BP.kr
  refine ⟨_, rfl, _, rfl, a.ma, _, _, rfl, em, rfl, _, rfl, _, rfl, ?_⟩
  dsimp only [tNil]
  refine b2_pen h.rk h.qk ⟨dm, em⟩ y1 y2 BP.tg BP.it BP.a1 BP.b1 tag1 (tag0 ok.m0 ok.m1) (by decide) fun H1 s1 => ?_
  obtain ⟨pe, hpe⟩ : ∃ pe, pe = (max a.hi a.i - min a.lo a.i - (a.hi - a.lo)) + (if RS.jm 6 1 0 a.m = 6 ∧ RS.jr 6 1 0 a.m = 1 then (0 : Int) else 1) := ⟨_, rfl⟩
  rw [← hpe]
  have W1 := W.same s1
  have B1 := BP.by (KL.same s1)
  have T1 := T.same s1
  -- sides
  refine ⟨_, rfl, a.ma, _, _, rfl, s1 _ _ em, rfl, _, rfl, _, rfl, _, rfl, by show 3 ≤ sizeLine; decide, fun q1 nq1 => ?_⟩
  have s2 := same_upd (o := .lst [.ref a.tg, .ref a.mo, .ref a.tg]) nq1
  have hq2 := upd_same (H := H1) (a := q1) (o := .lst [.ref a.tg, .ref a.mo, .ref a.tg])
  have W2 := W1.same s2
  have B2 := B1.by (KL.same s2)
  have T2 := T1.same s2
  generalize upd H1 q1 (.lst [.ref a.tg, .ref a.mo, .ref a.tg]) = H2 at hq2 W2 B2 T2
  obtain ⟨z1, w1⟩ := B2.kl
  dsimp only [tNil]
  have hns : ∀ {G : Hp}, Same H2 G → Paired (fun p n => Tup2 G p n.1 n.2) [a.a1, a.a2, a.a1] [(a.lo, a.hi), (a.lp, a.hq), (a.lo, a.hi)] := fun {G} s => .cons (s _ _ B2.a1) (.cons (s _ _ B2.a2) (.cons (s _ _ B2.a1) .nil))
  refine b2_sid (ts := [a.tg, a.mo, a.tg]) (ps := [a.a1, a.a2, a.a1]) (ns := [(a.lo, a.hi), (a.lp, a.hq), (a.lo, a.hi)]) h.rk B2.ma w1 hq2 ⟨rfl, fun i t ht => ?_⟩ (hns (Same.refl H2)) (by show 3 ≤ 30; decide) (by show 3 ≤ 30; decide) W2.tb hns fun t H3 e3 tt3 ht3 => ?_
  · match i, ht with
    | 0, ht => cases ht; exact ⟨_, _, rfl, B2.tg⟩
    | 1, ht => cases ht; exact ⟨_, _, rfl, B2.mo⟩
    | 2, ht => cases ht; exact ⟨_, _, rfl, B2.tg⟩
    | n + 3, ht => cases ht
  generalize hns0 : RG.halvesOf (([(a.lo, a.hi), (a.lp, a.hq), (a.lo, a.hi)] : List (Int × Int)).map fun n => n.1 + n.2) = ns at ht3
  have W3 := W2.ext e3 tt3
  have B3 := B2.by (KL.ext e3)
  have T3 := T2.ext e3
  refine ⟨t, _, rfl, ht3, fun l1 nl1 => ?_⟩
  have s4 := same_upd (o := .lst (ns.map V.int)) nl1
  have L4 := Own1.new (xs := ns.map V.int) W3 nl1
  have W4 := W3.same s4
  have B4 := B3.by (KL.same s4)
  have T4 := T3.same s4
  have nd4 : l1 ≠ du := Ne.symm (ne_of_none T3.Du.hl nl1)
  generalize upd H3 l1 (.lst (ns.map V.int)) = H4 at L4 W4 B4 T4
  refine ⟨by show 2 ≤ sizeLine; decide, fun fl nfl => ?_⟩
  have s5 := same_upd (o := .lst [.int pe, .ref l1]) nfl
  have hfl := upd_same (H := H4) (a := fl) (o := .lst [.int pe, .ref l1])
  have W5 := W4.same s5
  have B5 := B4.by (KL.same s5)
  have T5 := T4.same s5
  have L5 := L4.same s5
  generalize upd H4 fl (.lst [.int pe, .ref l1]) = H5 at hfl W5 B5 T5 L5
  refine ⟨fo, fl, _, _, rfl, rfl, T5.Fo.hl, hfl, by show 4 + 2 ≤ sizeLine; decide, fun fo2 nfo2 => ?_⟩
  have s6 := same_upd (o := .lst ([.ref f0, .ref f1, .bl A, .bl B] ++ [.int pe, .ref l1])) nfo2
  have O6 := Own1.new (xs := [.ref f0, .ref f1, .bl A, .bl B] ++ [.int pe, .ref l1]) W5 nfo2
  have W6 := W5.same s6
  have B6 := B5.by (KL.same s6)
  have T6 := T5.same s6
  have L6 := L5.same s6
  generalize upd H5 fo2 (.lst ([.ref f0, .ref f1, .bl A, .bl B] ++ [.int pe, .ref l1])) = H6 at O6 W6 B6 T6 L6
  -- due: penalty
  obtain ⟨z2, w2⟩ := B6.kl
  obtain ⟨z3, w3⟩ := B6.kr
  refine ⟨_, rfl, _, rfl, a.kl, _, _, rfl, w2, rfl, _, rfl, a.tg, _, 0, _, rfl, rfl, .inl (.inl B6.tg), rfl, _, rfl, a.it, _, 0, _, rfl, rfl, .inl (.inl B6.it), rfl, ?_⟩
  dsimp only [tNil]
  refine ⟨a.kl, z2, a.a1, a.i, a.lo, a.hi, rfl, w2, B6.a1, fun H7 s7 => ?_⟩
  have B7 := B6.by (KL.same s7)
  refine ⟨_, rfl, a.kr, _, _, rfl, s7 _ _ w3, rfl, _, rfl, a.tg, _, 1, _, rfl, rfl, .inl (.inl B7.tg), rfl, _, rfl, a.it, _, 1, _, rfl, rfl, .inl (.inl B7.it), rfl, ?_⟩
  dsimp only [tNil]
  refine ⟨a.kr, z3, a.b1, 6, 1, a.m, 100, rfl, s7 _ _ w3, B7.b1, tag1, tag0 ok.m0 ok.m1, by decide, fun H8 s8 => ?_⟩
  refine ⟨_, _, rfl, rfl, ?_⟩
  dsimp only
  rw [← hpe]
  have s78 := s7.trans s8
  have W8 := W6.same s78
  have B8 := B6.by (KL.same s78)
  have T8 := T6.same s78
  have L8 := L6.same s78
  have O8 := O6.same s78
  refine ⟨by show 1 ≤ sizeLine; decide, fun dl ndl => ?_⟩
  have s9 := same_upd (o := .lst [.int pe]) ndl
  have hdl := upd_same (H := H8) (a := dl) (o := .lst [.int pe])
  have W9 := W8.same s9
  have B9 := B8.by (KL.same s9)
  have T9 := T8.same s9
  have L9 := L8.same s9
  have O9 := O8.same s9
  generalize upd H8 dl (.lst [.int pe]) = H9 at hdl W9 B9 T9 L9 O9
  refine ⟨du, dl, _, _, rfl, rfl, T9.Du.hl, hdl, by show 4 + 1 ≤ sizeLine; decide, fun du2 ndu2 => ?_⟩
  have s10 := same_upd (o := .lst ([.ref g0, .ref g1, .bl A, .bl B] ++ [.int pe])) ndu2
  have D10 := Own1.new (xs := [.ref g0, .ref g1, .bl A, .bl B] ++ [.int pe]) W9 ndu2
  have W10 := W9.same s10
  have B10 := B9.by (KL.same s10)
  have T10 := T9.same s10
  have L10 := L9.same s10
  have O10 := O9.same s10
  have nf10 : fo2 ≠ du2 := ne_of_none O9.hl ndu2
  have nl10 : l1 ≠ du2 := ne_of_none L9.hl ndu2
  generalize upd H9 du2 (.lst ([.ref g0, .ref g1, .bl A, .bl B] ++ [.int pe])) = H10 at D10 W10 B10 T10 L10 O10
  -- append sides
  obtain ⟨z4, w4⟩ := B10.kl
  refine ⟨_, rfl, .inl ⟨rfl, _, .inl (.inl D10.hl)⟩, _, rfl, a.kl, _, _, rfl, w4, rfl, _, rfl, a.tg, _, 0, _, rfl, rfl, .inl (.inl B10.tg), rfl, _, rfl, a.mo, _, 0, _, rfl, rfl, .inl (.inl B10.mo), rfl, _, rfl, a.tg, _, 0, _, rfl, rfl, .inl (.inl B10.tg), rfl, by show 3 ≤ sizeLine; decide, fun q2 nq2 => ?_⟩
  have s11 := same_upd (o := .lst [.ref a.a1, .ref a.a2, .ref a.a1]) nq2
  have hq11 := upd_same (H := H10) (a := q2) (o := .lst [.ref a.a1, .ref a.a2, .ref a.a1])
  have W11 := W10.same s11
  have B11 := B10.by (KL.same s11)
  have T11 := T10.same s11
  have L11 := L10.same s11
  have O11 := O10.same s11
  have D11 := D10.same s11
  generalize upd H10 q2 (.lst [.ref a.a1, .ref a.a2, .ref a.a1]) = H11 at hq11 W11 B11 T11 L11 O11 D11
  dsimp only [tNil]
  refine ⟨a.kl, q2, [a.a1, a.a2, a.a1], [(a.lo, a.hi), (a.lp, a.hq), (a.lo, a.hi)], rfl, ⟨.inl (.inl hq11), .cons B11.a1 (.cons B11.a2 (.cons B11.a1 .nil))⟩, by show 3 ≤ 30; decide, W11.tb, fun t2 H12 e12 tt12 ht12 => ?_⟩
  rw [hns0] at ht12
  have W12 := W11.ext e12 tt12
  have B12 := B11.by (KL.ext e12)
  have T12 := T11.ext e12
  have L12 := L11.ext e12
  have O12 := O11.ext e12
  have D12 := D11.ext e12
  refine ⟨t2, _, rfl, ht12, fun l2 nl2 => ?_⟩
  have s13 := same_upd (o := .lst (ns.map V.int)) nl2
  have M13 := Own1.new (xs := ns.map V.int) W12 nl2
  have W13 := W12.same s13
  have B13 := B12.by (KL.same s13)
  have T13 := T12.same s13
  have L13 := L12.same s13
  have O13 := O12.same s13
  have D13 := D12.same s13
  have nm13 : l2 ≠ du2 := Ne.symm (ne_of_none D12.hl nl2)
  generalize upd H12 l2 (.lst (ns.map V.int)) = H13 at M13 W13 B13 T13 L13 O13 D13
  refine ⟨du2, _, _, rfl, rfl, D13.hl, small1000 (by show 5 ≤ 1000; decide), ?_⟩
  have k14 := KL.set (o := .lst ([.ref g0, .ref g1, .bl A, .bl B] ++ [.int pe] ++ [.ref l2])) D13.hl
  exact q4 a x c pe H _ fo2 du2 l1 l2 f0 f1 g0 g1 A B ns Q ok (B13.by k14) (W13.put D13) ⟨O13.put nf10, D13.set, L13.put nl10, M13.put nm13, nl10, nm13, nf10, T13.F0.by k14, T13.G0.by k14, T13.F1.by k14, T13.G1.by k14⟩ q
end
end K16
set_option Elab.async false
set_option linter.all false
set_option maxRecDepth 100000
set_option maxHeartbeats 2000000
namespace K16
open PySem PySem.Spec PyProof.Rows L2 CM DN GR
section
variable {P : Program} {w : World} {K : PySem.W.Frag} {mg : Str → Option Value} {base : Heap}
theorem tw_of {H : Hp} {r u v : Addr} {a b c d : Int} (h : H r = some (.tup [.ref u, .ref v])) (hu : Tup2 H u a b) (hv : Tup2 H v c d) : Tw H r a b c d := ⟨u, v, h, hu, hv⟩
theorem pr_t2 {CB CR CQ CM CN : Addr} (h : PH P w K mg base CB CR CQ CM CN) {k : Nat} {A : Around} {outer : List Env} {s : Shared} {H0 : Hp} {E : XK} (hr : Room (k + 10) (ApR K A s)) :
    ∃ t, PSs (XP P w K mg base A outer s H0 E) ((defBody s_law_parts_right).drop 5) t ∧ ∀ (a : Ad) (x c : Int) (H Hi : Hp) (Q : VK), a.Ok → PB CB CR CQ a Hi → WT K a.p x c H Hi →
      (∀ (H' : Hp) (x' c' : Int), SL.KpN a.p H H' → LamX.Tabs (TT K) H' → H' a.p = some (.lst [.int x', .int c']) → Q (.bl true) H') →
      t { nx := fun _ H' => Q .non H', rt := Q } [some (.ref a.p), some (.ref a.kl), some (.ref a.kr), some (.ref a.pa), some (.ref a.mo), some (.ref a.as), none, none, none, none, some (.ref a.it), some (.ref a.ma), none, some (.ref a.tg)] Hi := by
  obtain ⟨t3, ht3, q3⟩ := pr_t3 (outer := outer) (H0 := H0) (E := E) h hr
  have cl_B := h.cl
  have cl_R := h.rk.cl
  have cl_Q := h.qk.cl
  obtain ⟨f1, g1, G_Bown, b_Bown, me_Bown⟩ := h.own
  obtain ⟨f2, g2, G_Bjoin, b_Bjoin, me_Bjoin⟩ := h.joi
  obtain ⟨f3, g3, G_Bconsistent, b_Bconsistent, me_Bconsistent⟩ := h.con
  obtain ⟨f4, g4, G_Bmatches, b_Bmatches, me_Bmatches⟩ := h.mat
  obtain ⟨r1, s1, G_Rown, b_Rown, me_Rown⟩ := h.rk.own
  obtain ⟨r2, s2, G_Rjoin, b_Rjoin, me_Rjoin⟩ := h.rk.joi
  obtain ⟨r3, s3, G_Rconsistent, b_Rconsistent, me_Rconsistent⟩ := h.rk.con
  obtain ⟨r4, s4, G_Rmatches, b_Rmatches, me_Rmatches⟩ := h.rk.mat
  obtain ⟨t1, v1, G_Qown, b_Qown, me_Qown⟩ := h.qk.own
  obtain ⟨t2, v2, G_Qjoin, b_Qjoin, me_Qjoin⟩ := h.qk.joi
  obtain ⟨t3', v3, G_Qconsistent, b_Qconsistent, me_Qconsistent⟩ := h.qk.con
  obtain ⟨t4, v4, G_Qmatches, b_Qmatches, me_Qmatches⟩ := h.qk.mat
  refine ⟨_, pss_cons (ps_set (i := 6) sc_law_parts_right.nd rfl (.inl rfl) (pe_lst (pa_cons (pe_meth ((pv 11)) cl_B me_Bown G_Bown (hr.mono (by omega)) b_Bown .nil pass0 (pa_cons (pv 10) pa_nil)) (pa_cons (pe_meth ((pv 11)) cl_B me_Bjoin G_Bjoin (hr.mono (by omega)) b_Bjoin .nil pass0 (pa_cons (pv 13) (pa_cons (pv 4) pa_nil))) (pa_cons (pe_meth ((pv 11)) cl_B me_Bmatches G_Bmatches (hr.mono (by omega)) b_Bmatches .nil pass0 (pa_cons (pv 10) (pa_cons (pv 5) pa_nil))) (pa_cons (pe_meth ((pv 11)) cl_B me_Bconsistent G_Bconsistent (hr.mono (by omega)) b_Bconsistent .nil pass0 (pa_cons (pv 13) (pa_cons (pv 5) pa_nil))) pa_nil))))))
    (pss_cons (ps_set (i := 7) sc_law_parts_right.nd rfl (.inl rfl) (pe_lst (pa_cons (pe_tup (pa_cons (pe_meth ((pv 1)) cl_R me_Rown G_Rown (hr.mono (by omega)) b_Rown .nil pass0 (pa_cons (pe_ix ix_tup (pv 10) pe_int (fun _ _ => rfl)) pa_nil)) (pa_cons (pe_meth ((pv 2)) cl_Q me_Qown G_Qown (hr.mono (by omega)) b_Qown .nil pass0 (pa_cons (pe_ix ix_tup (pv 10) pe_int (fun _ _ => rfl)) pa_nil)) pa_nil))) pa_nil)))
    (pss_cons (ps_expr (pe_bm PySem.F.plainAttrs_list PySem.F.slot_list_append PySem.F.type_list_append mt_append (pv 7) (pa_cons (pe_tup (pa_cons (pe_meth ((pv 1)) cl_R me_Rjoin G_Rjoin (hr.mono (by omega)) b_Rjoin .nil pass0 (pa_cons (pe_ix ix_tup (pv 13) pe_int (fun _ _ => rfl)) (pa_cons (pe_ix ix_tup (pv 4) pe_int (fun _ _ => rfl)) pa_nil))) (pa_cons (pe_meth ((pv 2)) cl_Q me_Qjoin G_Qjoin (hr.mono (by omega)) b_Qjoin .nil pass0 (pa_cons (pe_ix ix_tup (pv 13) pe_int (fun _ _ => rfl)) (pa_cons (pe_ix ix_tup (pv 4) pe_int (fun _ _ => rfl)) pa_nil))) pa_nil))) pa_nil)))
    (pss_cons (ps_expr (pe_bm PySem.F.plainAttrs_list PySem.F.slot_list_append PySem.F.type_list_append mt_append (pv 7) (pa_cons (pe_and (pe_meth ((pv 1)) cl_R me_Rmatches G_Rmatches (hr.mono (by omega)) b_Rmatches .nil pass0 (pa_cons (pe_ix ix_tup (pv 10) pe_int (fun _ _ => rfl)) (pa_cons (pe_ix ix_tup (pv 5) pe_int (fun _ _ => rfl)) pa_nil))) (pe_one (pe_meth ((pv 2)) cl_Q me_Qmatches G_Qmatches (hr.mono (by omega)) b_Qmatches .nil pass0 (pa_cons (pe_ix ix_tup (pv 10) pe_int (fun _ _ => rfl)) (pa_cons (pe_ix ix_tup (pv 5) pe_int (fun _ _ => rfl)) pa_nil))))) pa_nil)))
    (pss_cons (ps_expr (pe_bm PySem.F.plainAttrs_list PySem.F.slot_list_append PySem.F.type_list_append mt_append (pv 7) (pa_cons (pe_and (pe_meth ((pv 1)) cl_R me_Rconsistent G_Rconsistent (hr.mono (by omega)) b_Rconsistent .nil pass0 (pa_cons (pe_ix ix_tup (pv 13) pe_int (fun _ _ => rfl)) (pa_cons (pe_ix ix_tup (pv 5) pe_int (fun _ _ => rfl)) pa_nil))) (pe_one (pe_meth ((pv 2)) cl_Q me_Qconsistent G_Qconsistent (hr.mono (by omega)) b_Qconsistent .nil pass0 (pa_cons (pe_ix ix_tup (pv 13) pe_int (fun _ _ => rfl)) (pa_cons (pe_ix ix_tup (pv 5) pe_int (fun _ _ => rfl)) pa_nil))))) pa_nil)))
    (ht3))))), fun a x c H Hi Q ok BP W q => ?_⟩
  have r0 := tag0 ok.r0 ok.r1
  -- found
  obtain ⟨dm, em⟩ := BP.ma
  obtain ⟨x1, y1⟩ := BP.kl
  obtain ⟨x2, y2⟩ := BP.kr
  refine ⟨_, rfl, a.ma, _, _, rfl, em, rfl, _, rfl, ?_⟩
  dsimp only [tNil]
  refine b2_own h.rk h.qk ⟨dm, em⟩ y1 y2 BP.it fun f0 u0 v0 H1 s1 hf0 hu0 hv0 => ?_
  have B1 := BP.by (KL.same s1)
  have F01 := tw_of hf0 hu0 hv0
  refine ⟨_, rfl, a.ma, _, _, rfl, s1 _ _ em, rfl, _, rfl, _, rfl, ?_⟩
  dsimp only [tNil]
  refine b2_join (n := 100) h.rk h.qk ⟨dm, s1 _ _ em⟩ (s1 _ _ y1) (s1 _ _ y2) B1.tg B1.mo B1.a1 B1.b1 B1.a2 B1.b2 tag1 r0 (by decide) fun f1 u1 v1 H2 s2 hf1 hu1 hv1 => ?_
  have s02 := s1.trans s2
  have B2 := BP.by (KL.same s02)
  have F12 := tw_of hf1 hu1 hv1
  refine ⟨_, rfl, a.ma, _, _, rfl, s02 _ _ em, rfl, _, rfl, _, rfl, ?_⟩
  dsimp only [tNil]
  refine b2_mat h.rk h.qk ⟨dm, s02 _ _ em⟩ (s02 _ _ y1) (s02 _ _ y2) B2.it B2.as B2.a4 B2.b4 (by decide) ok.s0 ok.s1 fun H3 s3 => ?_
  have s03 := s02.trans s3
  have B3 := BP.by (KL.same s03)
  refine ⟨_, rfl, a.ma, _, _, rfl, s03 _ _ em, rfl, _, rfl, _, rfl, ?_⟩
  dsimp only [tNil]
  refine b2_con (n := 100) h.rk h.qk ⟨dm, s03 _ _ em⟩ (s03 _ _ y1) (s03 _ _ y2) B3.tg B3.as B3.a1 B3.b1 B3.a4 B3.b4 ok.lo1 tag1 (by decide) (by decide) ok.s0 ok.s1 (by decide) fun H4 s4 => ?_
  obtain ⟨A, hA⟩ : ∃ A, A = (decide (a.lz ≤ a.i ∧ a.i ≤ a.hz) && decide (a.m % 4 = a.s)) := ⟨_, rfl⟩
  obtain ⟨B, hB⟩ : ∃ B, B = (decide (a.lz ≤ a.hz ∧ max a.lz a.lo ≤ min a.hz a.hi) && decide ((Int.gcd 6 4 : Int) ∣ 1 - a.s)) := ⟨_, rfl⟩
  rw [← hA, ← hB]
  have s04 := s03.trans s4
  have W4 := W.same s04
  have B4 := BP.by (KL.same s04)
  have F04 := F01.by (KL.same ((s2.trans s3).trans s4))
  have F14 := F12.by (KL.same (s3.trans s4))
  refine ⟨by show 4 ≤ sizeLine; decide, fun fo nfo => ?_⟩
  have s5 := same_upd (o := .lst [.ref f0, .ref f1, .bl A, .bl B]) nfo
  have O5 := Own1.new (xs := [.ref f0, .ref f1, .bl A, .bl B]) W4 nfo
  have W5 := W4.same s5
  have B5 := B4.by (KL.same s5)
  have F05 := F04.by (KL.same s5)
  have F15 := F14.by (KL.same s5)
  generalize upd H4 fo (.lst [.ref f0, .ref f1, .bl A, .bl B]) = H5 at O5 W5 B5 F05 F15
  -- due
  obtain ⟨z1, w1⟩ := B5.kl
  obtain ⟨z2, w2⟩ := B5.kr
  refine ⟨_, rfl, a.kl, _, _, rfl, w1, rfl, _, rfl, a.it, _, 0, _, rfl, rfl, .inl (.inl B5.it), rfl, ?_⟩
  dsimp only [tNil]
  refine ⟨a.kl, a.i, rfl, fun p0 H6 s6 hp0 => ?_⟩
  refine ⟨_, rfl, a.kr, _, _, rfl, s6 _ _ w2, rfl, _, rfl, a.it, _, 1, _, rfl, rfl, .inl (.inl (s6 _ _ B5.it)), rfl, ?_⟩
  dsimp only [tNil]
  refine ⟨a.kr, a.m, rfl, fun p1 H7 s7 hp1 => ?_⟩
  refine ⟨by show 2 ≤ sizeLine; decide, fun g0 ng0 => ?_⟩
  have s8 := same_upd (o := .tup [.ref p0, .ref p1]) ng0
  have G08 : Tw (upd H7 g0 (.tup [.ref p0, .ref p1])) g0 a.i a.i 0 a.m := tw_of upd_same ((s7.trans s8) _ _ hp0) (s8 _ _ hp1)
  have s58 := (s6.trans s7).trans s8
  generalize upd H7 g0 (.tup [.ref p0, .ref p1]) = H8 at G08 s58
  refine ⟨by show 1 ≤ sizeLine; decide, fun du ndu => ?_⟩
  have W8 := W5.same s58
  have s9 := same_upd (o := .lst [.ref g0]) ndu
  have D9 := Own1.new (xs := [.ref g0]) W8 ndu
  have s59 := s58.trans s9
  have W9 := W5.same s59
  have B9 := B5.by (KL.same s59)
  have F09 := F05.by (KL.same s59)
  have F19 := F15.by (KL.same s59)
  have O9 := O5.same s59
  have G09 := G08.by (KL.same s9)
  have nf : fo ≠ du := ne_of_none (O5.same s58).hl ndu
  generalize upd H8 du (.lst [.ref g0]) = H9 at D9 W9 B9 F09 F19 O9 G09
  -- append join
  obtain ⟨z3, w3⟩ := B9.kl
  obtain ⟨z4, w4⟩ := B9.kr
  refine ⟨_, rfl, .inl ⟨rfl, _, .inl (.inl D9.hl)⟩, _, rfl, a.kl, _, _, rfl, w3, rfl, _, rfl, a.tg, _, 0, _, rfl, rfl, .inl (.inl B9.tg), rfl, _, rfl, a.mo, _, 0, _, rfl, rfl, .inl (.inl B9.mo), rfl, ?_⟩
  dsimp only [tNil]
  refine ⟨a.kl, a.a1, a.a2, a.lo, a.hi, a.lp, a.hq, rfl, B9.a1, B9.a2, fun p2 H10 s10 hp2 => ?_⟩
  have B10 := B9.by (KL.same s10)
  refine ⟨_, rfl, a.kr, _, _, rfl, s10 _ _ w4, rfl, _, rfl, a.tg, _, 1, _, rfl, rfl, .inl (.inl B10.tg), rfl, _, rfl, a.mo, _, 1, _, rfl, rfl, .inl (.inl B10.mo), rfl, ?_⟩
  dsimp only [tNil]
  refine ⟨a.kr, a.b1, a.b2, 6, 1, 0, a.r, 100, rfl, B10.b1, B10.b2, tag1, r0, by decide, fun p3 H11 s11 hp3 => ?_⟩
  refine ⟨by show 2 ≤ sizeLine; decide, fun g1 ng1 => ?_⟩
  have s12 := same_upd (o := .tup [.ref p2, .ref p3]) ng1
  have G12 : Tw (upd H11 g1 (.tup [.ref p2, .ref p3])) g1 (min a.lo a.lp) (max a.hi a.hq) (RS.jm 6 1 0 a.r) (RS.jr 6 1 0 a.r) := tw_of upd_same ((s11.trans s12) _ _ hp2) (s12 _ _ hp3)
  have s912 := (s10.trans s11).trans s12
  have W12 := W9.same s912
  have B12 := B9.by (KL.same s912)
  have F012 := F09.by (KL.same s912)
  have F112 := F19.by (KL.same s912)
  have O12 := O9.same s912
  have D12 := D9.same s912
  have G012 := G09.by (KL.same s912)
  generalize upd H11 g1 (.tup [.ref p2, .ref p3]) = H12 at G12 W12 B12 F012 F112 O12 D12 G012
  refine ⟨du, _, _, rfl, rfl, D12.hl, small1000 (by show 1 ≤ 1000; decide), ?_⟩
  have k13 := KL.set (o := .lst ([.ref g0] ++ [.ref g1])) D12.hl
  have W13 := W12.put (ys := [.ref g0] ++ [.ref g1]) D12
  have B13 := B12.by k13
  have F013 := F012.by k13
  have F113 := F112.by k13
  have O13 := O12.put (o := .lst ([.ref g0] ++ [.ref g1])) nf
  have D13 := D12.set (ys := [.ref g0] ++ [.ref g1])
  have G013 := G012.by k13
  have G113 := G12.by k13
  generalize upd H12 du (.lst ([.ref g0] ++ [.ref g1])) = H13 at W13 B13 F013 F113 O13 D13 G013 G113
  -- append matches
  obtain ⟨z5, w5⟩ := B13.kl
  obtain ⟨z6, w6⟩ := B13.kr
  refine ⟨_, rfl, .inl ⟨rfl, _, .inl (.inl D13.hl)⟩, _, rfl, a.kl, _, _, rfl, w5, rfl, _, rfl, a.it, _, 0, _, rfl, rfl, .inl (.inl B13.it), rfl, _, rfl, a.as, _, 0, _, rfl, rfl, .inl (.inl B13.as), rfl, ?_⟩
  dsimp only [tNil]
  refine ⟨a.kl, a.a4, a.i, a.lz, a.hz, rfl, B13.a4, fun H14 s14 => ?_⟩
  have B14 := B13.by (KL.same s14)
  refine ⟨_, rfl, and_step (B := decide (a.m % 4 = a.s)) (fun Q2 h2 => ?_) fun H15 s15 => ?_⟩
  · refine ⟨_, rfl, a.kr, _, _, rfl, s14 _ _ w6, rfl, _, rfl, a.it, _, 1, _, rfl, rfl, .inl (.inl B14.it), rfl, _, rfl, a.as, _, 1, _, rfl, rfl, .inl (.inl B14.as), rfl, ?_⟩
    dsimp only [tNil]
    exact ⟨a.kr, a.b4, a.m, 4, a.s, rfl, B14.b4, by decide, ok.s0, ok.s1, h2⟩
  rw [← hA]
  have s35 := s14.trans s15
  have W15 := W13.same s35
  have B15 := B13.by (KL.same s35)
  have F015 := F013.by (KL.same s35)
  have F115 := F113.by (KL.same s35)
  have O15 := O13.same s35
  have D15 := D13.same s35
  have G015 := G013.by (KL.same s35)
  have G115 := G113.by (KL.same s35)
  refine ⟨du, _, _, rfl, rfl, D15.hl, small1000 (by show 2 ≤ 1000; decide), ?_⟩
  have k16 := KL.set (o := .lst ([.ref g0] ++ [.ref g1] ++ [.bl A])) D15.hl
  have W16 := W15.put (ys := [.ref g0] ++ [.ref g1] ++ [.bl A]) D15
  have B16 := B15.by k16
  have F016 := F015.by k16
  have F116 := F115.by k16
  have O16 := O15.put (o := .lst ([.ref g0] ++ [.ref g1] ++ [.bl A])) nf
  have D16 := D15.set (ys := [.ref g0] ++ [.ref g1] ++ [.bl A])
  have G016 := G015.by k16
  have G116 := G115.by k16
  generalize upd H15 du (.lst ([.ref g0] ++ [.ref g1] ++ [.bl A])) = H16 at W16 B16 F016 F116 O16 D16 G016 G116
  -- append consistent
  obtain ⟨z7, w7⟩ := B16.kl
  obtain ⟨z8, w8⟩ := B16.kr
  refine ⟨_, rfl, .inl ⟨rfl, _, .inl (.inl D16.hl)⟩, _, rfl, a.kl, _, _, rfl, w7, rfl, _, rfl, a.tg, _, 0, _, rfl, rfl, .inl (.inl B16.tg), rfl, _, rfl, a.as, _, 0, _, rfl, rfl, .inl (.inl B16.as), rfl, ?_⟩
  dsimp only [tNil]
  refine ⟨a.kl, a.a1, a.a4, a.lo, a.hi, a.lz, a.hz, rfl, B16.a1, B16.a4, ok.lo1, fun H17 s17 => ?_⟩
  have B17 := B16.by (KL.same s17)
  refine ⟨_, rfl, and_step (B := decide ((Int.gcd 6 4 : Int) ∣ 1 - a.s)) (fun Q2 h2 => ?_) fun H18 s18 => ?_⟩
  · refine ⟨_, rfl, a.kr, _, _, rfl, s17 _ _ w8, rfl, _, rfl, a.tg, _, 1, _, rfl, rfl, .inl (.inl B17.tg), rfl, _, rfl, a.as, _, 1, _, rfl, rfl, .inl (.inl B17.as), rfl, ?_⟩
    dsimp only [tNil]
    exact ⟨a.kr, a.b1, a.b4, 6, 1, 4, a.s, 100, rfl, B17.b1, B17.b4, tag1, by decide, by decide, ok.s0, ok.s1, by decide, h2⟩
  rw [← hB]
  have s68 := s17.trans s18
  have W18 := W16.same s68
  have B18 := B16.by (KL.same s68)
  have D18 := D16.same s68
  refine ⟨du, _, _, rfl, rfl, D18.hl, small1000 (by show 3 ≤ 1000; decide), ?_⟩
  have k19 := KL.set (o := .lst ([.ref g0] ++ [.ref g1] ++ [.bl A] ++ [.bl B])) D18.hl
  have kk := (KL.same s68).trans k19
  exact q3 a x c H _ fo du f0 f1 g0 g1 A B Q ok (B18.by k19) (W18.put D18) ⟨(O16.same s68).put nf, D18.set, nf, F016.by kk, G016.by kk, F116.by kk, G116.by kk⟩ q
end
end K16
set_option Elab.async false
set_option linter.all false
set_option maxRecDepth 100000
set_option maxHeartbeats 2000000
namespace K16
open PySem PySem.Spec PyProof.Rows L2 CM DN GR
section
variable {P : Program} {w : World} {K : PySem.W.Frag} {mg : Str → Option Value} {base : Heap}
theorem ok_parts {CB CR CQ CM CN fB : Addr} {fd fdB : FuncData} {k : Nat} {gB : List Value → List Value → List Value} (F : FnP K "_law_parts_right" "_law_parts_right" s_law_parts_right (He.fAd K ("_law_parts_right", none)) fd) (hh : PH P w K mg base CB CR CQ CM CN)
    (M_R : MkO K CR) (m_R : mg "Ranges" = some (.ref CR)) (M_Q : MkO K CQ) (m_Q : mg "Rests" = some (.ref CQ)) (MB : MakeM P w K mg base "Both" CB fB fdB ["self", "one", "other"] (spBInit CB)) (kb_B : KBn K fdB ["self", "one", "other"] 1 ["one", "other"] gB (fun us zs => us ++ zs))
    (pr1 : ∃ (p q : Addr) (fd : FuncData), PropOf K CB "one" p q ∧ FnOk P w K mg base CX0 1 q fd ["self"] (getSp CB "first") ∧ Binds K fd ["self"] []) (pr2 : ∃ (p q : Addr) (fd : FuncData), PropOf K CB "other" p q ∧ FnOk P w K mg base CX0 1 q fd ["self"] (getSp CB "second") ∧ Binds K fd ["self"] []) :
    FnOk P w K mg base CX0 (k + 10 + 1) (He.fAd K ("_law_parts_right", none)) fd ["_law_well_here"] (spRight K) := by
  obtain ⟨f_law_draw, fd_law_draw, G_law_draw, b_law_draw, m_law_draw, k_law_draw⟩ := hh.dr
  obtain ⟨f_law_span, fd_law_span, G_law_span, b_law_span, m_law_span, k_law_span⟩ := hh.sp
  obtain ⟨p_one, q_one, fd_one, pr_one, G_one, b_one⟩ := pr1
  obtain ⟨p_oth, q_oth, fd_oth, pr_other, G_other, b_other⟩ := pr2
  have cl_B := hh.cl
  have neR := hh.neR
  have neQ := hh.neQ
  refine SL.okC F sc_law_parts_right (fun vs H Q E h => ?_) (fun A outer s H vs Q E hr h => ?_)
  · obtain ⟨p, x, c, rfl, _⟩ := h
    rfl
  · obtain ⟨p, x, c, rfl, hp, hT, q⟩ := h
    obtain ⟨tt2, ht2, qq2⟩ := pr_t2 (outer := outer) (H0 := H) (E := E) hh hr
    refine ⟨_, PSs.nox (pss_cons (ps_par (i := 1) (j := 2) rfl sc_law_parts_right.nd rfl rfl (by decide) rfl rfl (pa_cons (pe_make00 M_R (by rfl) m_R) (pa_cons (pe_make00 M_Q (by rfl) m_Q) pa_nil)) (by rfl))
    (pss_cons (ps_asg (pe_tup (pa_cons (pe_make MB.M MB.G (hr.mono (by omega)) (by rfl) MB.m MB.b .nil pass0 (pa_cons (pv 1) (pa_cons (pv 2) pa_nil))) (pa_cons (pe_makeK0 MB.M MB.G (hr.mono (by omega)) (by rfl) MB.m kb_B pass0 (pk_cons (pe_make00 M_R (by rfl) m_R) (pk_cons (pe_make00 M_R (by rfl) m_R) pk_nil))) pa_nil))) (pg_tup rfl (pgs_cons (pg_name (i := 11) sc_law_parts_right.nd rfl (.inr rfl)) (pgs_cons (pg_name (i := 3) sc_law_parts_right.nd rfl (.inl rfl)) (pgs_nil)))))
    (pss_cons (ps_if (PW.pt (pw_or (pt_not (pt_cmpR (OBQ.op_eqSelf hr.units0) (pe_prop (pv 11) cl_B pr_one G_one (hr.mono (by omega)) b_one .nil pass0 rfl) (pv 1) (nomark _))) (pw_or1 (pt_not (pt_cmpR (OBQ.op_eqSelf hr.units0) (pe_prop (pv 11) cl_B pr_other G_other (hr.mono (by omega)) b_other .nil pass0 rfl) (pv 2) (nomark _)))))) (pss_one (ps_ret pe_bl)) (pss_nil))
    (pss_cons (ps_asg (pe_tup (pa_cons (pe_tup (pa_cons (pe_call G_law_span (hr.mono (by omega)) (by rfl) m_law_span k_law_span b_law_span .nil pass0 (pa_cons (pv 0) pa_nil)) (pa_cons (pe_tup (pa_cons pe_int (pa_cons pe_int pa_nil))) pa_nil))) (pa_cons (pe_tup (pa_cons (pe_call G_law_span (hr.mono (by omega)) (by rfl) m_law_span k_law_span b_law_span .nil pass0 (pa_cons (pv 0) pa_nil)) (pa_cons (pe_tup (pa_cons pe_int (pa_cons (pe_call G_law_draw (hr.mono (by omega)) (by rfl) m_law_draw k_law_draw b_law_draw .nil pass0 (pa_cons (pv 0) (pa_cons pe_int pa_nil))) pa_nil))) pa_nil))) pa_nil))) (pg_tup rfl (pgs_cons (pg_name (i := 13) sc_law_parts_right.nd rfl (.inr rfl)) (pgs_cons (pg_name (i := 4) sc_law_parts_right.nd rfl (.inl rfl)) (pgs_nil)))))
    (pss_cons (ps_asg (pe_tup (pa_cons (pe_tup (pa_cons (pe_op op_sub (pe_call G_law_draw (hr.mono (by omega)) (by rfl) m_law_draw k_law_draw b_law_draw .nil pass0 (pa_cons (pv 0) (pa_cons pe_int pa_nil))) pe_int) (pa_cons (pe_call G_law_draw (hr.mono (by omega)) (by rfl) m_law_draw k_law_draw b_law_draw .nil pass0 (pa_cons (pv 0) (pa_cons pe_int pa_nil))) pa_nil))) (pa_cons (pe_tup (pa_cons (pe_call G_law_span (hr.mono (by omega)) (by rfl) m_law_span k_law_span b_law_span .nil pass0 (pa_cons (pv 0) pa_nil)) (pa_cons (pe_tup (pa_cons pe_int (pa_cons (pe_call G_law_draw (hr.mono (by omega)) (by rfl) m_law_draw k_law_draw b_law_draw .nil pass0 (pa_cons (pv 0) (pa_cons pe_int pa_nil))) pa_nil))) pa_nil))) pa_nil))) (pg_tup rfl (pgs_cons (pg_name (i := 10) sc_law_parts_right.nd rfl (.inr rfl)) (pgs_cons (pg_name (i := 5) sc_law_parts_right.nd rfl (.inl rfl)) (pgs_nil)))))
    (ht2)))))), ?_⟩
    -- left, right
    have S0 : PSt K p x c H H H := ⟨fun _ _ _ _ e => e, hp, hT, fun _ _ _ _ e => e⟩
    refine fun kl d1 nl nd1 ne1 => ?_
    have S1 := S0.same (made0 (C := CR) nl nd1)
    have hkl1 : (upd (upd H d1 (.own kl)) kl (.ins CR d1 [])) kl = some (.ins CR d1 []) := upd_same
    generalize upd (upd H d1 (.own kl)) kl (.ins CR d1 []) = H1 at S1 hkl1
    refine fun kr d2 nr nd2 ne2 => ?_
    have s12 := made0 (C := CQ) nr nd2
    have S2 := S1.same s12
    have hkr2 : (upd (upd H1 d2 (.own kr)) kr (.ins CQ d2 [])) kr = some (.ins CQ d2 []) := upd_same
    have hkl2 := s12 _ _ hkl1
    generalize upd (upd H1 d2 (.own kr)) kr (.ins CQ d2 []) = H2 at S2 hkr2 hkl2
    refine ⟨_, _, rfl, ?_⟩
    -- made, pair
    refine ⟨_, rfl, _, rfl, fun ma dm nm ndm nem => ⟨ma, dm, .ref kl, .ref kr, rfl, upd_same, rfl, ?_⟩⟩
    have s23 := same_made (C := CB) (o := .ins CB dm [("first", .ref kl), ("second", .ref kr)]) nm ndm
    have S3 := S2.same s23
    have ma3 : (upd (upd (upd H2 dm (.own ma)) ma (.ins CB dm [])) ma (.ins CB dm [("first", .ref kl), ("second", .ref kr)])) ma = some (.ins CB dm [("first", .ref kl), ("second", .ref kr)]) := upd_same
    have hkl3 := s23 _ _ hkl2
    have hkr3 := s23 _ _ hkr2
    generalize upd (upd (upd H2 dm (.own ma)) ma (.ins CB dm [])) ma (.ins CB dm [("first", .ref kl), ("second", .ref kr)]) = H3 at S3 ma3 hkl3 hkr3
    refine fun k1 e1 nk1 nde1 nee1 => ?_
    have s34 := made0 (C := CR) nk1 nde1
    have S4 := S3.same s34
    have hk14 : (upd (upd H3 e1 (.own k1)) k1 (.ins CR e1 [])) k1 = some (.ins CR e1 []) := upd_same
    have ma4 := s34 _ _ ma3
    have hkl4 := s34 _ _ hkl3
    have hkr4 := s34 _ _ hkr3
    generalize upd (upd H3 e1 (.own k1)) k1 (.ins CR e1 []) = H4 at S4 hk14 ma4 hkl4 hkr4
    refine fun k2 e2 nk2 nde2 nee2 => ?_
    have s45 := made0 (C := CR) nk2 nde2
    have S5 := S4.same s45
    have hk25 : (upd (upd H4 e2 (.own k2)) k2 (.ins CR e2 [])) k2 = some (.ins CR e2 []) := upd_same
    have hk15 := s45 _ _ hk14
    have ma5 := s45 _ _ ma4
    have hkl5 := s45 _ _ hkl4
    have hkr5 := s45 _ _ hkr4
    generalize upd (upd H4 e2 (.own k2)) k2 (.ins CR e2 []) = H5 at S5 hk25 hk15 ma5 hkl5 hkr5
    refine ⟨rfl, rfl, fun pa dp npa ndp nep => ⟨pa, dp, .ref k1, .ref k2, rfl, upd_same, rfl, ?_⟩⟩
    have s56 := same_made (C := CB) (o := .ins CB dp [("first", .ref k1), ("second", .ref k2)]) npa ndp
    have S6 := S5.same s56
    have pa6 : BothAt CB (upd (upd (upd H5 dp (.own pa)) pa (.ins CB dp [])) pa (.ins CB dp [("first", .ref k1), ("second", .ref k2)])) pa k1 k2 := ⟨dp, upd_same⟩
    have ma6 := s56 _ _ ma5
    have hkl6 := s56 _ _ hkl5
    have hkr6 := s56 _ _ hkr5
    have hk16 := s56 _ _ hk15
    have hk26 := s56 _ _ hk25
    generalize upd (upd (upd H5 dp (.own pa)) pa (.ins CB dp [])) pa (.ins CB dp [("first", .ref k1), ("second", .ref k2)]) = H6 at S6 pa6 ma6 hkl6 hkr6 hk16 hk26
    refine ⟨by show 2 ≤ sizeLine; decide, fun tp ntp => ?_⟩
    refine ⟨tp, _, rfl, .inl (.inl upd_same), rfl, _, _, rfl, _, _, rfl, rfl, ?_⟩
    have s67 := same_upd (o := .tup [.ref ma, .ref pa]) ntp
    have S7 := S6.same s67
    have pa7 := (KL.same s67).both pa6
    have ma7 := s67 _ _ ma6
    have hkl7 := s67 _ _ hkl6
    have hkr7 := s67 _ _ hkr6
    have hk17 := s67 _ _ hk16
    have hk27 := s67 _ _ hk26
    generalize upd H6 tp (.tup [.ref ma, .ref pa]) = H7 at S7 pa7 ma7 hkl7 hkr7 hk17 hk27
    -- one, other
    refine ⟨_, rfl, ma, dm, _, rfl, ma7, ⟨ma, dm, _, _, rfl, ma7, rfl, ?_⟩⟩
    refine ⟨_, rfl, kl, CR, d1, _, rfl, rfl, hkl7, neR, true, rfl, iteF ?_⟩
    refine ⟨_, rfl, ma, dm, _, rfl, ma7, ⟨ma, dm, _, _, rfl, ma7, rfl, ?_⟩⟩
    refine ⟨_, rfl, kr, CQ, d2, _, rfl, rfl, hkr7, neQ, true, rfl, iteF ?_⟩
    have S7r := S7.rebase
    refine ⟨_, rfl, p, x, c, rfl, S7r.hp, fun a1 H8 x_1 c_1 lo hi k_1 hp_1 h_1 lo0 lo1 lo2 => ?_⟩
    have S8r := S7r.draw k_1 hp_1
    have kk_8 := KL.kp S7r.hp k_1
    have a1_8 := h_1
    refine ⟨by show 2 ≤ sizeLine; decide, fun b1 nb1 => ?_⟩
    have s_9 := same_upd (o := .tup [.int 6, .int 1]) nb1
    have S9r := S8r.same s_9
    have a1_9 := s_9 _ _ a1_8
    have b1_9 := upd_same (H := H8) (a := b1) (o := .tup [.int 6, .int 1])
    generalize upd H8 b1 (.tup [.int 6, .int 1]) = H9 at S9r a1_9 b1_9
    refine ⟨by show 2 ≤ sizeLine; decide, fun tg ntg => ?_⟩
    have s_10 := same_upd (o := .tup [.ref a1, .ref b1]) ntg
    have S10r := S9r.same s_10
    have a1_10 := s_10 _ _ a1_9
    have b1_10 := s_10 _ _ b1_9
    have tg_10 := upd_same (H := H9) (a := tg) (o := .tup [.ref a1, .ref b1])
    generalize upd H9 tg (.tup [.ref a1, .ref b1]) = H10 at S10r a1_10 b1_10 tg_10
    refine ⟨_, rfl, p, x_1, c_1, rfl, S10r.hp, fun a2 H11 x_2 c_2 lp hq k_2 hp_2 h_2 lp0 lp1 lp2 => ?_⟩
    have S11r := S10r.draw k_2 hp_2
    have kk_11 := KL.kp S10r.hp k_2
    have a1_11 := kk_11.tup a1_10
    have b1_11 := kk_11.tup b1_10
    have tg_11 := kk_11.tup tg_10
    have a2_11 := h_2
    refine ⟨_, rfl, p, x_2, c_2, 30, rfl, S11r.hp, by decide, .of (k := 10) (by decide) (by decide), fun r x_3 c_3 r0 r1 => ?_⟩
    have k_3 : Kp p H11 (upd H11 p (.lst [.int x_3, .int c_3])) := Kp.set
    have hp_3 : (upd H11 p (.lst [.int x_3, .int c_3])) p = some (.lst [.int x_3, .int c_3]) := upd_same
    generalize upd H11 p (.lst [.int x_3, .int c_3]) = H12 at k_3 hp_3
    have S12r := S11r.draw k_3 hp_3
    have kk_12 := KL.kp S11r.hp k_3
    have a1_12 := kk_12.tup a1_11
    have b1_12 := kk_12.tup b1_11
    have tg_12 := kk_12.tup tg_11
    have a2_12 := kk_12.tup a2_11
    refine ⟨by show 2 ≤ sizeLine; decide, fun b2 nb2 => ?_⟩
    have s_13 := same_upd (o := .tup [.int 0, .int r]) nb2
    have S13r := S12r.same s_13
    have a1_13 := s_13 _ _ a1_12
    have b1_13 := s_13 _ _ b1_12
    have tg_13 := s_13 _ _ tg_12
    have a2_13 := s_13 _ _ a2_12
    have b2_13 := upd_same (H := H12) (a := b2) (o := .tup [.int 0, .int r])
    generalize upd H12 b2 (.tup [.int 0, .int r]) = H13 at S13r a1_13 b1_13 tg_13 a2_13 b2_13
    refine ⟨by show 2 ≤ sizeLine; decide, fun mo nmo => ?_⟩
    have s_14 := same_upd (o := .tup [.ref a2, .ref b2]) nmo
    have S14r := S13r.same s_14
    have a1_14 := s_14 _ _ a1_13
    have b1_14 := s_14 _ _ b1_13
    have tg_14 := s_14 _ _ tg_13
    have a2_14 := s_14 _ _ a2_13
    have b2_14 := s_14 _ _ b2_13
    have mo_14 := upd_same (H := H13) (a := mo) (o := .tup [.ref a2, .ref b2])
    generalize upd H13 mo (.tup [.ref a2, .ref b2]) = H14 at S14r a1_14 b1_14 tg_14 a2_14 b2_14 mo_14
    refine ⟨by show 2 ≤ sizeLine; decide, fun q1 nq1 => ?_⟩
    have s_15 := same_upd (o := .tup [.ref tg, .ref mo]) nq1
    have S15r := S14r.same s_15
    have a1_15 := s_15 _ _ a1_14
    have b1_15 := s_15 _ _ b1_14
    have tg_15 := s_15 _ _ tg_14
    have a2_15 := s_15 _ _ a2_14
    have b2_15 := s_15 _ _ b2_14
    have mo_15 := s_15 _ _ mo_14
    have q1_15 := upd_same (H := H14) (a := q1) (o := .tup [.ref tg, .ref mo])
    generalize upd H14 q1 (.tup [.ref tg, .ref mo]) = H15 at S15r a1_15 b1_15 tg_15 a2_15 b2_15 mo_15 q1_15
    refine ⟨q1, _, rfl, .inl (.inl q1_15), rfl, _, _, rfl, _, _, rfl, rfl, ?_⟩
    refine ⟨_, rfl, p, x_3, c_3, 41, rfl, S15r.hp, by decide, .of (k := 10) (by decide) (by decide), fun i x_4 c_4 i0 i1 => ?_⟩
    have k_4 : Kp p H15 (upd H15 p (.lst [.int x_4, .int c_4])) := Kp.set
    have hp_4 : (upd H15 p (.lst [.int x_4, .int c_4])) p = some (.lst [.int x_4, .int c_4]) := upd_same
    generalize upd H15 p (.lst [.int x_4, .int c_4]) = H16 at k_4 hp_4
    have S16r := S15r.draw k_4 hp_4
    have kk_16 := KL.kp S15r.hp k_4
    have a1_16 := kk_16.tup a1_15
    have b1_16 := kk_16.tup b1_15
    have tg_16 := kk_16.tup tg_15
    have a2_16 := kk_16.tup a2_15
    have b2_16 := kk_16.tup b2_15
    have mo_16 := kk_16.tup mo_15
    have q1_16 := kk_16.tup q1_15
    refine ⟨i, 20, rfl, rfl, ?_⟩
    refine ⟨_, rfl, p, x_4, c_4, 30, rfl, S16r.hp, by decide, .of (k := 10) (by decide) (by decide), fun m x_5 c_5 m0 m1 => ?_⟩
    have k_5 : Kp p H16 (upd H16 p (.lst [.int x_5, .int c_5])) := Kp.set
    have hp_5 : (upd H16 p (.lst [.int x_5, .int c_5])) p = some (.lst [.int x_5, .int c_5]) := upd_same
    generalize upd H16 p (.lst [.int x_5, .int c_5]) = H17 at k_5 hp_5
    have S17r := S16r.draw k_5 hp_5
    have kk_17 := KL.kp S16r.hp k_5
    have a1_17 := kk_17.tup a1_16
    have b1_17 := kk_17.tup b1_16
    have tg_17 := kk_17.tup tg_16
    have a2_17 := kk_17.tup a2_16
    have b2_17 := kk_17.tup b2_16
    have mo_17 := kk_17.tup mo_16
    have q1_17 := kk_17.tup q1_16
    refine ⟨by show 2 ≤ sizeLine; decide, fun it nit => ?_⟩
    have s_18 := same_upd (o := .tup [.int (i - 20), .int m]) nit
    have S18r := S17r.same s_18
    have a1_18 := s_18 _ _ a1_17
    have b1_18 := s_18 _ _ b1_17
    have tg_18 := s_18 _ _ tg_17
    have a2_18 := s_18 _ _ a2_17
    have b2_18 := s_18 _ _ b2_17
    have mo_18 := s_18 _ _ mo_17
    have q1_18 := s_18 _ _ q1_17
    have it_18 := upd_same (H := H17) (a := it) (o := .tup [.int (i - 20), .int m])
    generalize upd H17 it (.tup [.int (i - 20), .int m]) = H18 at S18r a1_18 b1_18 tg_18 a2_18 b2_18 mo_18 q1_18 it_18
    refine ⟨_, rfl, p, x_5, c_5, rfl, S18r.hp, fun a4 H19 x_6 c_6 lz hz k_6 hp_6 h_6 lz0 lz1 lz2 => ?_⟩
    have S19r := S18r.draw k_6 hp_6
    have kk_19 := KL.kp S18r.hp k_6
    have a1_19 := kk_19.tup a1_18
    have b1_19 := kk_19.tup b1_18
    have tg_19 := kk_19.tup tg_18
    have a2_19 := kk_19.tup a2_18
    have b2_19 := kk_19.tup b2_18
    have mo_19 := kk_19.tup mo_18
    have q1_19 := kk_19.tup q1_18
    have it_19 := kk_19.tup it_18
    have a4_19 := h_6
    refine ⟨_, rfl, p, x_6, c_6, 4, rfl, S19r.hp, by decide, .of (k := 10) (by decide) (by decide), fun s_ x_7 c_7 s_0 s_1 => ?_⟩
    have k_7 : Kp p H19 (upd H19 p (.lst [.int x_7, .int c_7])) := Kp.set
    have hp_7 : (upd H19 p (.lst [.int x_7, .int c_7])) p = some (.lst [.int x_7, .int c_7]) := upd_same
    generalize upd H19 p (.lst [.int x_7, .int c_7]) = H20 at k_7 hp_7
    have S20r := S19r.draw k_7 hp_7
    have kk_20 := KL.kp S19r.hp k_7
    have a1_20 := kk_20.tup a1_19
    have b1_20 := kk_20.tup b1_19
    have tg_20 := kk_20.tup tg_19
    have a2_20 := kk_20.tup a2_19
    have b2_20 := kk_20.tup b2_19
    have mo_20 := kk_20.tup mo_19
    have q1_20 := kk_20.tup q1_19
    have it_20 := kk_20.tup it_19
    have a4_20 := kk_20.tup a4_19
    refine ⟨by show 2 ≤ sizeLine; decide, fun b4 nb4 => ?_⟩
    have s_21 := same_upd (o := .tup [.int 4, .int s_]) nb4
    have S21r := S20r.same s_21
    have a1_21 := s_21 _ _ a1_20
    have b1_21 := s_21 _ _ b1_20
    have tg_21 := s_21 _ _ tg_20
    have a2_21 := s_21 _ _ a2_20
    have b2_21 := s_21 _ _ b2_20
    have mo_21 := s_21 _ _ mo_20
    have q1_21 := s_21 _ _ q1_20
    have it_21 := s_21 _ _ it_20
    have a4_21 := s_21 _ _ a4_20
    have b4_21 := upd_same (H := H20) (a := b4) (o := .tup [.int 4, .int s_])
    generalize upd H20 b4 (.tup [.int 4, .int s_]) = H21 at S21r a1_21 b1_21 tg_21 a2_21 b2_21 mo_21 q1_21 it_21 a4_21 b4_21
    refine ⟨by show 2 ≤ sizeLine; decide, fun as nas => ?_⟩
    have s_22 := same_upd (o := .tup [.ref a4, .ref b4]) nas
    have S22r := S21r.same s_22
    have a1_22 := s_22 _ _ a1_21
    have b1_22 := s_22 _ _ b1_21
    have tg_22 := s_22 _ _ tg_21
    have a2_22 := s_22 _ _ a2_21
    have b2_22 := s_22 _ _ b2_21
    have mo_22 := s_22 _ _ mo_21
    have q1_22 := s_22 _ _ q1_21
    have it_22 := s_22 _ _ it_21
    have a4_22 := s_22 _ _ a4_21
    have b4_22 := s_22 _ _ b4_21
    have as_22 := upd_same (H := H21) (a := as) (o := .tup [.ref a4, .ref b4])
    generalize upd H21 as (.tup [.ref a4, .ref b4]) = H22 at S22r a1_22 b1_22 tg_22 a2_22 b2_22 mo_22 q1_22 it_22 a4_22 b4_22 as_22
    refine ⟨by show 2 ≤ sizeLine; decide, fun q2 nq2 => ?_⟩
    have s_23 := same_upd (o := .tup [.ref it, .ref as]) nq2
    have S23r := S22r.same s_23
    have a1_23 := s_23 _ _ a1_22
    have b1_23 := s_23 _ _ b1_22
    have tg_23 := s_23 _ _ tg_22
    have a2_23 := s_23 _ _ a2_22
    have b2_23 := s_23 _ _ b2_22
    have mo_23 := s_23 _ _ mo_22
    have q1_23 := s_23 _ _ q1_22
    have it_23 := s_23 _ _ it_22
    have a4_23 := s_23 _ _ a4_22
    have b4_23 := s_23 _ _ b4_22
    have as_23 := s_23 _ _ as_22
    have q2_23 := upd_same (H := H22) (a := q2) (o := .tup [.ref it, .ref as])
    generalize upd H22 q2 (.tup [.ref it, .ref as]) = H23 at S23r a1_23 b1_23 tg_23 a2_23 b2_23 mo_23 q1_23 it_23 a4_23 b4_23 as_23 q2_23
    refine ⟨q2, _, rfl, .inl (.inl q2_23), rfl, _, _, rfl, _, _, rfl, rfl, ?_⟩
    have kf := S23r.kl
    exact qq2 ⟨p, ma, kl, kr, pa, k1, k2, a1, b1, tg, a2, b2, mo, it, a4, b4, as, lo, hi, lp, hq, r, i - 20, m, lz, hz, s_⟩ x_7 c_7 H H23 Q ⟨lo0, lo1, lp1, r0, r1, m0, m1, s_0, s_1⟩
      ⟨⟨dm, kf.ins ma7⟩, kf.both pa7, ⟨d1, kf.ins hkl7⟩, ⟨d2, kf.ins hkr7⟩, ⟨_, kf.ins hk17⟩, ⟨_, kf.ins hk27⟩, a1_23, b1_23, tg_23, a2_23, b2_23, mo_23, it_23, a4_23, b4_23, as_23⟩ ⟨S23r.kn, S23r.hp, S23r.tb⟩ q
end
end K16
set_option Elab.async false
set_option linter.all false
set_option maxRecDepth 100000
set_option maxHeartbeats 2000000
namespace K16
open PySem PySem.Spec PyProof.Rows L2 CM DN GR
section
variable {P : Program} {w : World} {K : PySem.W.Frag} {mg : Str → Option Value} {base : Heap}
/-! ### the order of asking -/
def oCall (e : Expr) : Expr := match e with
  | .ListComp (.Call _ (x :: _) _ _) _ _ _ => x
  | e => e
def oScope (e : Expr) : Scope := match e with
  | .ListComp _ _ c _ => c
  | _ => defScope s_law_well
def oVal (i : Nat) : Expr := match (defBody s_law_order_right).getD i (.Pass ⟨0, 0, 0, 0⟩) with
  | .Assign _ (.BinOp _ _ e _) _ => e
  | .Assign _ e _ => e
  | _ => .Constant .none 0 ⟨0, 0, 0, 0⟩
abbrev oE1 : Expr := oCall (oVal 1)
abbrev oE2 : Expr := oCall (oVal 2)
abbrev oC1 : Scope := oScope (oVal 1)
abbrev oC2 : Scope := oScope (oVal 2)
theorem t3 : NdefX.NScope ["_law_a", "_law_b", "_law_is_first"] ["_law_a", "_law_b"] ["_law_is_first"] (lamC oE1) := NdefX.nscope_by (by decide +kernel)
theorem t4 : NdefX.NScope ["_law_a", "_law_b", "_law_is_second"] ["_law_a", "_law_b"] ["_law_is_second"] (lamC oE2) := NdefX.nscope_by (by decide +kernel)
abbrev oNF (n : Nat) (e : Expr) (cs : Scope) (c' : Addr) : NdefX.NF := ⟨"<lambda>", ("_law_order_right" ++ ".<locals>.") ++ "<lambda>", lamA e, [], lamC e, cloFrom (cloFrom (cellsFrom (n + 1) (defScope s_law_order_right).names []) cs.names []) (lamC e).names [], c'⟩
/-- a lambda that returns the flag that its cell holds -/
def OrdL (H : Hp) (f : Addr) (e : Expr) (x : Str) (c : Bool) : Prop := ∃ q cl c', CLO.Clo H f ⟨"<lambda>", q, lamA e, [], lamC e, cl, c'⟩ (lamB e) [x] [.bl c]
theorem OrdL.fnk {H : Hp} {f : Addr} {e : Expr} {x : Str} {c : Bool} (h : OrdL H f e x c) : CLO.Fnk H f := let ⟨_, _, _, C⟩ := h; CLO.lamO_fnk C.fn
theorem ord1_calls {H : Hp} {f : Addr} {c : Bool} {x y : V} {Q : VK} (L : OrdL H f oE1 "_law_is_first" c) (q : Q (.bl c) H) : CLO.CallsTo P w K mg base CX0 1 true f [x, y] H Q E0 := by
  obtain ⟨q0, cl, c', C⟩ := L
  refine CLO.lam_calls (k := 0) t3 C rfl (fun pm ctv us hu => ?_) (fun A outer s hr => ⟨_, pv 2, ?_⟩)
  · match us, hu with
    | [u, v], _ => rfl
  · refine ⟨_, rfl, fun _ => ?_⟩
    rw [CLO.back_hide]
    exact q
theorem ord2_calls {H : Hp} {f : Addr} {c : Bool} {x y : V} {Q : VK} (L : OrdL H f oE2 "_law_is_second" c) (q : Q (.bl c) H) : CLO.CallsTo P w K mg base CX0 1 true f [x, y] H Q E0 := by
  obtain ⟨q0, cl, c', C⟩ := L
  refine CLO.lam_calls (k := 0) t4 C rfl (fun pm ctv us hu => ?_) (fun A outer s hr => ⟨_, pv 2, ?_⟩)
  · match us, hu with
    | [u, v], _ => rfl
  · refine ⟨_, rfl, fun _ => ?_⟩
    rw [CLO.back_hide]
    exact q
/-- all but the things at a and b stays -/
def Kp2 (a b : Addr) (H H' : Hp) : Prop := ∀ x o, x ≠ a → x ≠ b → H x = some o → H' x = some o
/-- all but one instance stays, it stays an instance: what speaks of functions stays -/
theorem OrdL.put {H : Hp} {f a C dx : Addr} {e : Expr} {x : Str} {c : Bool} {fs gs : List (Str × V)} (h : OrdL H f e x c) (ha : H a = some (.ins C dx fs)) : OrdL (upd H a (.ins C dx gs)) f e x c := by
  have st : ∀ b o, (∀ C dx fs, o ≠ .ins C dx fs) → H b = some o → (upd H a (.ins C dx gs)) b = some o := fun b o n q => by
    have ne : b ≠ a := fun z => by
      rw [z, ha] at q
      exact n _ _ _ (Option.some.inj q).symm
    exact (upd_ne ne).trans q
  obtain ⟨q0, cl, c', D⟩ := h
  refine ⟨q0, cl, c', st _ _ (fun _ _ _ z => by unfold CLO.LamO at z; cases z) D.fn, st _ _ (fun _ _ _ z => by unfold LamX.CodeO at z; cases z) D.co, fun p hp => ?_, D.inj, D.len, fun i y hi => ?_⟩
  · obtain ⟨ob, v, h1, h2⟩ := D.cels p hp
    exact ⟨ob, v, st _ _ (fun _ _ _ z => by unfold CLO.CelO at z; cases z) h1, h2⟩
  · obtain ⟨c2, v, h1, h2, ob, u, h3, h4⟩ := D.has i y hi
    exact ⟨c2, v, h1, h2, ob, u, st _ _ (fun _ _ _ z => by unfold CLO.CelO at z; cases z) h3, h4⟩
/-- counters -/
structure CountK (P : Program) (w : World) (K : PySem.W.Frag) (mg : Str → Option Value) (base : Heap) (CN g : Addr) : Prop where
  nc : NC K CN
  co : StX.CallO K CN g
  G : FnR P w K mg base CX0 2 g (spNCall P w K mg base CN)
theorem cnt_calls {CN g a da f : Addr} {H : Hp} {n : Int} {x y : V} {Q : VK} (ck : CountK P w K mg base CN g) (ha : H a = some (.ins CN da (cnt (.ref f) n))) (hf : CLO.Fnk (upd H a (.ins CN da (cnt (.ref f) (n + 1)))) f)
    (q : CLO.CallsTo P w K mg base CX0 1 true f [x, y] (upd H a (.ins CN da (cnt (.ref f) (n + 1)))) Q E0) : CLO.CallsTo P w K mg base CX0 3 false a [x, y] H Q E0 :=
  (CLO.own_calls ck.co ck.G ha ⟨a, da, f, true, n, x, y, rfl, ha, fun _ => hf, q⟩).mono (by omega)
/-- a kind whose function mf counts -/
def CntK (CK : Addr) (H : Hp) (kd a : Addr) (m mf : Str) : Prop := ∃ dx fs, H kd = some (.ins CK dx fs) ∧ fs.lookup m = none ∧ fs.lookup mf = some (.ref a)
theorem ord_run {CB CK CN g mb k1 k2 a b da db fa fb t r : Addr} {m mf : Str} {ps : List Str} {H : Hp} {x y x' y' : V} {c1 c2 : Bool} {Q : VK} {E : XK} (cm : CalM P w K mg base CX0 CK m 4 ps (spKF P w K mg base CK mf)) (kc : KC K CK) (ck : CountK P w K mg base CN g) (ab : a ≠ b)
    (hb : BothAt CB H mb k1 k2) (h1 : CntK CK H k1 a m mf) (h2 : CntK CK H k2 b m mf) (ha : H a = some (.ins CN da (cnt (.ref fa) 0))) (hb2 : H b = some (.ins CN db (cnt (.ref fb) 0))) (La : OrdL H fa oE1 "_law_is_first" c1) (Lb : OrdL H fb oE2 "_law_is_second" c2)
    (ht : H t = some (.tup [x, y])) (hr : H r = some (.tup [x', y'])) (n1 : k1 ≠ a) (n2 : k2 ≠ a) (n3 : mb ≠ a)
    (q : ∀ H', Kp2 a b H H' → H' a = some (.ins CN da (cnt (.ref fa) 1)) → H' b = some (.ins CN db (cnt (.ref fb) (if c1 then 1 else 0))) → Q (.bl (c1 && c2)) H') : spBAnd P w K mg base CB m [.ref mb, .ref t, .ref r] H Q E := by
  obtain ⟨d1, fs1, e1, l1, l2⟩ := h1
  obtain ⟨d2, fs2, e2, l3, l4⟩ := h2
  obtain ⟨dm, em⟩ := hb
  have Ha : (upd H a (.ins CN da (cnt (.ref fa) (0 + 1)))) a = some (.ins CN da (cnt (.ref fa) 1)) := upd_same
  refine ⟨mb, k1, k2, t, r, x, y, x', y', rfl, ⟨dm, em⟩, ht, hr, ask_of cm kc.cl (by omega) e1 l1 ⟨k1, d1, a, fs1, false, x, x', rfl, e1, l2, (fun z => by cases z), cnt_calls ck ha (La.put ha).fnk (ord1_calls (La.put ha) ⟨c1, rfl, fun z => ?_, fun z => ?_⟩)⟩⟩
  · subst z
    exact q _ (fun x o na _ e => (upd_ne na).trans e) Ha ((upd_ne (Ne.symm ab)).trans hb2)
  · subst z
    have ta : ∀ {u : Addr} {xs : List V}, H u = some (.tup xs) → u ≠ a := fun {u xs} e z => by
      rw [z, ha] at e
      cases e
    refine ⟨⟨dm, (upd_ne n3).trans em⟩, (upd_ne (ta ht)).trans ht, (upd_ne (ta hr)).trans hr, ?_⟩
    have hb3 := (upd_ne (H := H) (a := a) (o := .ins CN da (cnt (.ref fa) (0 + 1))) (Ne.symm ab)).trans hb2
    refine ask_of cm kc.cl (by omega) ((upd_ne n2).trans e2) l3 ⟨k2, d2, b, fs2, false, y, y', rfl, (upd_ne n2).trans e2, l4, (fun z => by cases z), cnt_calls ck hb3 ((Lb.put ha).put hb3).fnk (ord2_calls ((Lb.put ha).put hb3) ?_)⟩
    exact q _ (fun x o na nb e => (upd_ne nb).trans ((upd_ne na).trans e)) ((upd_ne ab).trans Ha) upd_same
/-- a maker with one default -/
structure MakeN (P : Program) (w : World) (K : PySem.W.Frag) (mg : Str → Option Value) (base : Heap) (C f : Addr) (fd : FuncData) (dv : Value) : Prop where
  M : Mk K C f
  G : FnOk P w K mg base CX0 2 f fd ["self", "function", "arguments"] (spNInit C)
  m : mg "Counted" = some (.ref C)
  b : Binds K fd ["self", "function", "arguments"] [dv]
  r : Vals [V.int 2] [dv]
/-- a counter made in the def, its lambda just made -/
def Cn (CN : Addr) (sz : Nat) (e : Expr) (cs : Scope) (H : Hp) (n d f : Addr) : Prop := ∃ c', H n = some (.ins CN d (cnt (.ref f) 0)) ∧ H f = some (CLO.LamO f (oNF sz e cs c') (lamB e)) ∧ H c' = some (LamX.CodeO c' (("_law_order_right" ++ ".<locals>.") ++ "<lambda>"))
theorem Cn.by {CN n d f : Addr} {sz : Nat} {e : Expr} {cs : Scope} {H H' : Hp} (h : Cn CN sz e cs H n d f) (k : KL H H') : Cn CN sz e cs H' n d f :=
  let ⟨c', h1, h2, h3⟩ := h
  ⟨c', k.ins h1, k _ _ (fun _ z => by unfold CLO.LamO at z; cases z) (fun _ z => by unfold CLO.LamO at z; cases z) h2, k.code h3⟩
theorem cnt_comp {CN p : Addr} {sz : Nat} {e : Expr} {cs : Scope} {x c : Int} {H Hi : Hp} {σ : L2.St} {Q : VK} (W : WT K p x c H Hi) (hz : ∀ v : V, wipe ((wipe σ [7]).set 7 (some v)) [7] = wipe σ [7])
    (k : ∀ (D n0 n1 d0 d1 f0 f1 : Addr) (H' : Hp), KL Hi H' → WT K p x c H H' → Own1 p H H' D [.ref n0, .ref n1] → n0 ≠ n1 → (∀ l ys, Own1 p H Hi l ys → Own1 p H H' l ys ∧ l ≠ D) → Cn CN sz e cs H' n0 d0 f0 → Cn CN sz e cs H' n1 d1 f1 →
      (∀ m C d fs, Hi m = some (.ins C d fs) → m ≠ n0 ∧ m ≠ n1) → (∀ b o, b ≠ p → (∀ ps, o ≠ .tbl ps) → H b = some o → b ≠ n0 ∧ b ≠ n1) → Q (.ref D) H') :
    tLc (iRng1 (tCons (tC (.int 2)) tNil)) (gName 7) tYes (tMake CN (spNInit CN) [.int 2] E0 (tCons (CLO.tLamV (TT K) (oNF sz e cs) (lamB e)) tNil)) [7] σ Hi Q := by
  refine ⟨2, rfl, by decide, by decide, fun D nD => ?_⟩
  have O0 := Own1.new (xs := []) W nD
  have W0 := W.same (same_upd (o := .lst []) nD)
  have k0 : KL Hi (upd Hi D (.lst [])) := KL.same (same_upd nD)
  refine lc_range (lo := 0) (n := 2) (fun j H' => WT K p x c H H' ∧ KL Hi H' ∧ (∀ l ys, Own1 p H Hi l ys → Own1 p H H' l ys ∧ l ≠ D) ∧ ∃ ns : List Addr, ns.length = j ∧ ns.Nodup ∧ Own1 p H H' D (ns.map V.ref) ∧ (∀ n ∈ ns, (∃ d f, Cn CN sz e cs H' n d f) ∧ (∀ m C d fs, Hi m = some (.ins C d fs) → m ≠ n) ∧ ∀ b o, b ≠ p → (∀ ps, o ≠ .tbl ps) → H b = some o → b ≠ n)) ?_ ?_ ?_
  · exact ⟨W0, k0, fun l ys O => ⟨O.same (same_upd nD), ne_of_none O.hl nD⟩, [], rfl, .nil, O0, fun n h => by cases h⟩
  · rintro j H1 hj ⟨W1, k1, o1, ns, hl, nd, O1, hn⟩
    refine ⟨hz _, W1.tb, fun f c' H2 e2 nn t2 f0 f1 c1 => fun n d nn2 nd2 ne2 => ⟨n, d, .ref f, rfl, upd_same, rfl, ?_⟩⟩
    have s3 := same_made (C := CN) (o := .ins CN d (cnt (.ref f) 0)) nn2 nd2
    have hn3 : (upd (upd (upd H2 d (.own n)) n (.ins CN d [])) n (.ins CN d (cnt (.ref f) 0))) n = some (.ins CN d (cnt (.ref f) 0)) := upd_same
    generalize upd (upd (upd H2 d (.own n)) n (.ins CN d [])) n (.ins CN d (cnt (.ref f) 0)) = H3 at s3 hn3
    have W3 := (W1.ext e2 t2).same s3
    have O3 := (O1.ext e2).same s3
    have k13 : KL H1 H3 := (KL.ext e2).trans (KL.same s3)
    have k34 : KL H3 (upd H3 D (.lst (ns.map V.ref ++ [.ref n]))) := KL.set O3.hl
    have old : ∀ m C dx fs, H1 m = some (.ins C dx fs) → m ≠ n := fun m C dx fs q => ne_of_none (e2 _ _ q fun _ z => by cases z) nn2
    refine ⟨_, O3.hl, small1000 (by rw [List.length_map, hl]; omega), W3.put O3, (k1.trans k13).trans k34, fun l ys O => ?_, ns ++ [n], by rw [List.length_append, hl]; rfl, ?_, ?_, fun m hm => ?_⟩
    · obtain ⟨z1, z2⟩ := o1 l ys O
      exact ⟨((z1.ext e2).same s3).put z2, z2⟩
    · refine List.nodup_append.mpr ⟨nd, List.nodup_cons.mpr ⟨List.not_mem_nil, .nil⟩, fun a ha b hb => ?_⟩
      rw [List.mem_singleton.mp hb]
      obtain ⟨⟨d2, f2, c2, q, _⟩, _⟩ := hn a ha
      exact old _ _ _ _ q
    · rw [List.map_append]
      exact O3.set
    · rcases List.mem_append.mp hm with hm | hm
      · obtain ⟨⟨d2, f2, q⟩, z⟩ := hn m hm
        exact ⟨⟨d2, f2, q.by (k13.trans k34)⟩, z⟩
      · rw [List.mem_singleton.mp hm]
        refine ⟨⟨d, f, Cn.by ⟨c', hn3, s3 _ _ f1, s3 _ _ c1⟩ k34⟩, fun m' C dx fs q => old m' C dx fs (k1.ins q), fun b o nb m' q => ne_of_none (e2 _ _ (W1.kn b o nb m' q) m') nn2⟩
  · rintro H1 ⟨W1, k1, o1, ns, hl, nd, O1, hn⟩
    match ns, hl, nd, O1, hn with
    | [n0, n1], _, nd, O1, hn =>
      obtain ⟨⟨d0, f0, q0⟩, z0, y0⟩ := hn n0 (by simp)
      obtain ⟨⟨d1, f1, q1⟩, z1, y1⟩ := hn n1 (by simp)
      have ne : n0 ≠ n1 := fun z => by
        have := (List.nodup_cons.mp nd).1
        exact this (by rw [z]; simp)
      exact k D n0 n1 d0 d1 f0 f1 H1 k1 W1 O1 ne o1 q0 q1 (fun m C dx fs q => ⟨z0 m C dx fs q, z1 m C dx fs q⟩) fun b o nb m' q => ⟨y0 b o nb m' q, y1 b o nb m' q⟩
/-! what stays where two counters were asked, the def's cells no longer frozen -/
theorem unfz_kp {sc : Scope} {cells : List (Str × Addr)} {N : List Str} {σ : L2.St} {Hi Hz H' : Hp} {a b : Addr} (fz : CLO.Frz sc cells N σ Hi Hz) (hc : ∀ y c, cells.lookup y = some c → Hi c = none) (kp : Kp2 a b Hz H') : Kp2 a b Hi (CLO.unfz cells H') := fun x o na nb e => by
  have nx : ¬ ∃ y, cells.lookup y = some x := fun ⟨y, z⟩ => by
    rw [hc y x z] at e
    cases e
  rw [CLO.unfz_out nx]
  exact kp x o na nb (fz.same x o e)
theorem unfz_at {cells : List (Str × Addr)} {Hi H' : Hp} {a : Addr} {o o' : HO} (hc : ∀ y c, cells.lookup y = some c → Hi c = none) (e : Hi a = some o) (e' : H' a = some o') : CLO.unfz cells H' a = some o' := by
  have nx : ¬ ∃ y, cells.lookup y = some a := fun ⟨y, z⟩ => by
    rw [hc y a z] at e
    cases e
  rw [CLO.unfz_out nx]
  exact e'
section
variable {H H' : Hp} {a b CN da db fa fb : Addr} {na nb : Int}
/-- what is no instance stays -/
theorem Kp2.no {o : HO} {x : Addr} (k : Kp2 a b H H') (ha : H a = some (.ins CN da (cnt (.ref fa) na))) (hb : H b = some (.ins CN db (cnt (.ref fb) nb))) (n : ∀ C d fs, o ≠ .ins C d fs) (e : H x = some o) : H' x = some o :=
  k x o (fun z => by rw [z, ha] at e; exact n _ _ _ (Option.some.inj e).symm) (fun z => by rw [z, hb] at e; exact n _ _ _ (Option.some.inj e).symm) e
theorem Kp2.cn {sz : Nat} {e : Expr} {cs : Scope} {n d f : Addr} (k : Kp2 a b H H') (ha : H a = some (.ins CN da (cnt (.ref fa) na))) (hb : H b = some (.ins CN db (cnt (.ref fb) nb))) (n1 : n ≠ a) (n2 : n ≠ b) (h : Cn CN sz e cs H n d f) : Cn CN sz e cs H' n d f :=
  let ⟨c', h1, h2, h3⟩ := h
  ⟨c', k _ _ n1 n2 h1, k.no ha hb (fun _ _ _ z => by unfold CLO.LamO at z; cases z) h2, k.no ha hb (fun _ _ _ z => by unfold LamX.CodeO at z; cases z) h3⟩
theorem Kp2.tabs {T : List (Addr × Str)} (k : Kp2 a b H H') (ha : H a = some (.ins CN da (cnt (.ref fa) na))) (hb : H b = some (.ins CN db (cnt (.ref fb) nb))) (t : LamX.Tabs T H) : LamX.Tabs T H' := fun p hp => by
  obtain ⟨ps, h1, h2, h3⟩ := t p hp
  refine ⟨ps, k.no ha hb (fun _ _ _ z => by cases z) h1, h2, fun pos cv hc => ?_⟩
  obtain ⟨c, e1, e2⟩ := h3 pos cv hc
  exact ⟨c, e1, k.no ha hb (fun _ _ _ z => by unfold LamX.CodeO at z; cases z) e2⟩
theorem Kp2.wt {p : Addr} {x c : Int} {H0 : Hp} (k : Kp2 a b H H') (ha : H a = some (.ins CN da (cnt (.ref fa) na))) (hb : H b = some (.ins CN db (cnt (.ref fb) nb))) (W : WT K p x c H0 H) (n1 : ∀ b o, b ≠ p → (∀ ps, o ≠ .tbl ps) → H0 b = some o → b ≠ a) (n2 : ∀ y o, y ≠ p → (∀ ps, o ≠ .tbl ps) → H0 y = some o → y ≠ b) : WT K p x c H0 H' :=
  ⟨fun y o ny m e => k y o (n1 y o ny m e) (n2 y o ny m e) (W.kn y o ny m e), k.no ha hb (fun _ _ _ z => by cases z) W.hp, k.tabs ha hb W.tb⟩
theorem Kp2.own {p : Addr} {H0 : Hp} {l : Addr} {xs : List V} (k : Kp2 a b H H') (ha : H a = some (.ins CN da (cnt (.ref fa) na))) (hb : H b = some (.ins CN db (cnt (.ref fb) nb))) (O : Own1 p H0 H l xs) : Own1 p H0 H' l xs := ⟨k.no ha hb (fun _ _ _ z => by cases z) O.hl, O.ne, O.nw⟩
end
theorem ordL_of {CN : Addr} {e : Expr} {cs : Scope} {x : Str} {b : Bool} {σ : L2.St} {H Hz : Hp} {sz : Nat} {n d f : Addr} {j : Nat} (fz : CLO.Frz (defScope s_law_order_right) (cellsFrom (sz + 1) (defScope s_law_order_right).names []) n_law_order_right σ H Hz) (C : Cn CN sz e cs H n d f)
    (h1 : ∀ y ∈ cs.names, y.2 = .free → (defScope s_law_order_right).names.lookup y.1 = some .cell) (h2 : ∀ y ∈ (lamC e).names, y.2 = .free → (y.1, NameKind.free) ∈ cs.names) (h3 : (x, NameKind.free) ∈ (lamC e).names) (hj : n_law_order_right[j]? = some x) (hs : NdefX.slotAt σ j = some (.bl b)) : OrdL Hz f e x b := by
  obtain ⟨c', e1, e2, e3⟩ := C
  refine ⟨_, _, c', CLO.clo_of2 (csc := cs) (js := [j]) fz (fz.same _ _ e2) (fz.same _ _ e3) h1 h2 (fun y hy => by rw [List.mem_singleton.mp hy]; exact h3) ?_ ?_⟩
  · show [n_law_order_right[j]?] = [some x]
    rw [hj]
  · show [NdefX.slotAt σ j] = [some (.bl b)]
    rw [hs]
theorem o1a : ∀ y ∈ oC1.names, y.2 = .free → (defScope s_law_order_right).names.lookup y.1 = some .cell := by decide +kernel
theorem o1b : ∀ y ∈ (lamC oE1).names, y.2 = .free → (y.1, NameKind.free) ∈ oC1.names := by decide +kernel
theorem o1c : (("_law_is_first" : Str), NameKind.free) ∈ (lamC oE1).names := by decide +kernel
theorem o2a : ∀ y ∈ oC2.names, y.2 = .free → (defScope s_law_order_right).names.lookup y.1 = some .cell := by decide +kernel
theorem o2b : ∀ y ∈ (lamC oE2).names, y.2 = .free → (y.1, NameKind.free) ∈ oC2.names := by decide +kernel
theorem o2c : (("_law_is_second" : Str), NameKind.free) ∈ (lamC oE2).names := by decide +kernel
theorem abs_hp {Q : VK} {v : V} {U0 : Hp} (R : Hp → Prop) (h0 : R U0) (key : ∀ U, R U → Q v U) : Q v U0 := key _ h0
end
end K16
set_option Elab.async false
set_option linter.all false
set_option maxRecDepth 100000
set_option maxHeartbeats 2000000
namespace K16
open PySem PySem.Spec PyProof.Rows L2 CM DN GR
section
variable {P : Program} {w : World} {K : PySem.W.Frag} {mg : Str → Option Value} {base : Heap}
theorem ok_order {CB CK CN g fB fK fN : Addr} {fd fdB fdK fdN : FuncData} {dv : Value} {k : Nat} {gg : List Value → List Value → List Value} (F : FnP K "_law_order_right" "_law_order_right" s_law_order_right (He.fAd K ("_law_order_right", none)) fd) (TB : LamX.TabB base mg (He.cT K ("_law_order_right", none)).1 (He.cT K ("_law_order_right", none)).2) (ds : Dst K)
    (m_range : mg "range" = none) (m_int : mg "int" = none) (ck : CallsK P w K mg base CK) (nk : CountK P w K mg base CN g) (C_draw : Cal P w K mg base CX0 "_law_draw" 1 ["_law_well_here", "_law_many"] spDraw)
    (MB : MakeM P w K mg base "Both" CB fB fdB ["self", "one", "other"] (spBInit CB)) (MC : MakeC P w K mg base CK fK fdK ["own", "join", "consistent", "matches"] gg g4) (MN : MakeN P w K mg base CN fN fdN dv) (cl_N : Cls K CN) (cl_B : Cls K CB)
    (pr : ∃ (p q : Addr) (fd : FuncData), PropOf K CN "calls" p q ∧ FnOk P w K mg base CX0 1 q fd ["self"] (getSp CN "made") ∧ Binds K fd ["self"] [])
    (C_con : CalM P w K mg base CX0 CB "consistent" 7 ["self", "label", "question"] (spBAnd P w K mg base CB "consistent")) (C_mat : CalM P w K mg base CX0 CB "matches" 7 ["self", "key", "question"] (spBAnd P w K mg base CB "matches")) :
    FnOk P w K mg base CX0 (k + 10 + 1) (He.fAd K ("_law_order_right", none)) fd ["_law_well_here"] (spRight K) := by
  obtain ⟨f_law_draw, fd_law_draw, G_law_draw, b_law_draw, m_law_draw, k_law_draw⟩ := C_draw
  obtain ⟨p_c, q_c, fd_c, pr_calls, G_calls, b_calls⟩ := pr
  refine SL.okC F sc_law_order_right (fun vs H Q E h => ?_) (fun A outer s H vs Q E hr h => ?_)
  · obtain ⟨p, x, c, rfl, _⟩ := h
    rfl
  · obtain ⟨p, x, c, rfl, hp, hT, q⟩ := h
    have hyo : CLO.Young (cxOf CX0 P w K mg base n_law_order_right "_law_order_right" (defScope s_law_order_right) (He.fAd K ("_law_order_right", none)) (.ref (He.codeOf K ("_law_order_right", none))) A outer s H E).nox :=
      fun y c z => CLO.young_of (CX := CX0) (P := P) (w := w) (K := K) (mg := mg) (base := base) (N := n_law_order_right) (qual := "_law_order_right") (f := He.fAd K ("_law_order_right", none)) (cd := .ref (He.codeOf K ("_law_order_right", none))) (A := A) (outer := outer) (H := H) (E := E) y c z
    refine ⟨_, PSs.nox (pss_cons (ps_asg (pe_tup (pa_cons (pe_cmpR (DN.op_eqD hr.units) (pe_call G_law_draw (hr.mono (by omega)) (by rfl) m_law_draw k_law_draw b_law_draw .nil pass0 (pa_cons (pv 0) (pa_cons pe_int pa_nil))) pe_int (nomark _)) (pa_cons (pe_cmpR (DN.op_eqD hr.units) (pe_call G_law_draw (hr.mono (by omega)) (by rfl) m_law_draw k_law_draw b_law_draw .nil pass0 (pa_cons (pv 0) (pa_cons pe_int pa_nil))) pe_int (nomark _)) pa_nil))) (pg_tup rfl (pgs_cons (pg_name (i := 5) sc_law_order_right.nd rfl (.inr rfl)) (pgs_cons (pg_name (i := 6) sc_law_order_right.nd rfl (.inr rfl)) (pgs_nil)))))
    (pss_cons (CMP.ps_setLcA (i := 1) (own := [("_law_k", 7)]) rfl sc_law_order_right.nd rfl rfl (sw_true rfl rfl rfl (by decide +kernel)) (pi_range1 (by rfl) m_range (pa_cons pe_int pa_nil)) (blkOk_by (N := n_law_order_right) (sc := defScope s_law_order_right) (by decide +kernel)) (fun _ _ _ => pg_name (i := 7) sc_law_order_right.nd rfl (.inl rfl)) (fun _ _ _ => pe_make MN.M MN.G (hr.mono (by omega)) (by rfl) MN.m MN.b MN.r pass0 (pa_cons (CLO.pe_lamV (T := TT K) (mk := oNF s.heap.objs.size oE1 oC1) TB rfl (List.mem_of_getElem? (i := 2) rfl) (tt_q ds (i := 2) rfl) rfl (NdefX.ndef_free (sc := relS oC1 (defScope s_law_order_right)) (fr := []) (by decide +kernel)) rfl) pa_nil)))
    (pss_cons (ps_set (i := 1) sc_law_order_right.nd rfl (.inl rfl) (pe_op op_cat (pv 1) (CMP.pe_lcA (own := [("_law_k", 7)]) rfl sc_law_order_right.nd (pi_range1 (by rfl) m_range (pa_cons pe_int pa_nil)) (blkOk_by (N := n_law_order_right) (sc := defScope s_law_order_right) (by decide +kernel)) (fun _ _ _ => pg_name (i := 7) sc_law_order_right.nd rfl (.inl rfl)) (fun _ _ _ => pe_make MN.M MN.G (hr.mono (by omega)) (by rfl) MN.m MN.b MN.r pass0 (pa_cons (CLO.pe_lamV (T := TT K) (mk := oNF s.heap.objs.size oE2 oC2) TB rfl (List.mem_of_getElem? (i := 2) rfl) (tt_q ds (i := 2) rfl) rfl (NdefX.ndef_free (sc := relS oC2 (defScope s_law_order_right)) (fr := []) (by decide +kernel)) rfl) pa_nil)))))
    (pss_cons (ps_set (i := 2) sc_law_order_right.nd rfl (.inl rfl) (pe_make MB.M MB.G (hr.mono (by omega)) (by rfl) MB.m MB.b .nil pass0 (pa_cons (pe_makeK0 MC.M MC.G (hr.mono (by omega)) (by rfl) MC.m MC.b pass0 (pk_cons (CLO.pe_lamV (T := TT K) TB rfl (List.mem_of_getElem? (i := 2) rfl) (tt_q ds (i := 2) rfl) rfl (NdefX.ndef_free (sc := defScope s_law_order_right) (fr := []) (by decide +kernel))) (pk_cons (CLO.pe_lamV (T := TT K) TB rfl (List.mem_of_getElem? (i := 2) rfl) (tt_q ds (i := 2) rfl) rfl (NdefX.ndef_free (sc := defScope s_law_order_right) (fr := []) (by decide +kernel))) (pk_cons (pe_ix ix_list (pv 1) pe_int (fun _ _ => rfl)) (pk_cons (pe_ix ix_list (pv 1) pe_int (fun _ _ => rfl)) pk_nil))))) (pa_cons (pe_makeK0 MC.M MC.G (hr.mono (by omega)) (by rfl) MC.m MC.b pass0 (pk_cons (CLO.pe_lamV (T := TT K) TB rfl (List.mem_of_getElem? (i := 2) rfl) (tt_q ds (i := 2) rfl) rfl (NdefX.ndef_free (sc := defScope s_law_order_right) (fr := []) (by decide +kernel))) (pk_cons (CLO.pe_lamV (T := TT K) TB rfl (List.mem_of_getElem? (i := 2) rfl) (tt_q ds (i := 2) rfl) rfl (NdefX.ndef_free (sc := defScope s_law_order_right) (fr := []) (by decide +kernel))) (pk_cons (pe_ix ix_list (pv 1) pe_int (fun _ _ => rfl)) (pk_cons (pe_ix ix_list (pv 1) pe_int (fun _ _ => rfl)) pk_nil))))) pa_nil))))
    (pss_cons (ps_set (i := 3) sc_law_order_right.nd rfl (.inl rfl) (pe_lst (pa_cons (CLO.pe_methZ (n := 7) (E := E0) hyo (pv 2) (hr.mono (by omega)) (pa_cons (pe_tup (pa_cons pe_int (pa_cons pe_int pa_nil))) (pa_cons (pe_tup (pa_cons pe_int (pa_cons pe_int pa_nil))) pa_nil))) (pa_cons (CLO.pe_methZ (n := 7) (E := E0) hyo (pv 2) (hr.mono (by omega)) (pa_cons (pe_tup (pa_cons pe_int (pa_cons pe_int pa_nil))) (pa_cons (pe_tup (pa_cons pe_int (pa_cons pe_int pa_nil))) pa_nil))) pa_nil))))
    (pss_cons (ps_setLc (i := 4) (own := [("_law_it", 8)]) rfl sc_law_order_right.nd rfl rfl (sw_true rfl rfl rfl (by decide +kernel)) (pi_list (pv 1)) (blkOk_by (N := n_law_order_right) (sc := defScope s_law_order_right) (by decide +kernel)) (fun _ _ _ _ _ => pg_name (i := 8) sc_law_order_right.nd rfl (.inl rfl)) (fun _ _ _ _ _ => pts_nil) (fun _ _ _ _ _ => (pe_prop (pv 8) cl_N pr_calls G_calls (hr.mono (by omega)) b_calls .nil pass0 rfl)))
    (pss_one (ps_ret (pe_and (pe_cmpR (DN.op_eqD hr.units) (pv 3) (pe_op op_rep (pe_lst (pa_cons (pe_and (pv 5) (pe_one (pv 6))) pa_nil)) pe_int) (nomark _)) (pe_one (pe_cmpR (DN.op_eqD hr.units) (pv 4) (pe_lst (pa_cons pe_int (pa_cons pe_int (pa_cons (pe_callTy call_int1 (by rfl) m_int boot_int (pa_cons (pv 5) pa_nil)) (pa_cons (pe_callTy call_int1 (by rfl) m_int boot_int (pa_cons (pv 5) pa_nil)) pa_nil))))) (nomark _)))))))))))), ?_⟩
    -- flags
    refine ⟨_, rfl, p, x, c, 2, rfl, hp, by decide, .of (k := 10) (by decide) (by decide), fun r1 x1 c1 _ _ => ⟨.int r1, .int 0, .int _, .int _, by simp [PyData.depth], ?_⟩⟩
    refine ⟨_, rfl, p, x1, c1, 2, rfl, upd_same, by decide, .of (k := 10) (by decide) (by decide), fun r2 x2 c2 _ _ => ⟨.int r2, .int 0, .int _, .int _, by simp [PyData.depth], ?_⟩⟩
    have ef : ∀ b : Bool, (if false = true then !b else b) = b := fun _ => rfl
    rw [ef, ef]
    generalize PyData.eqv (.int r1) (.int 0) = b1
    generalize PyData.eqv (.int r2) (.int 0) = b2
    have W0 : WT K p x c H H := ⟨fun _ _ _ _ e => e, hp, hT⟩
    have W1 := W0.draw (Kp.set.trans Kp.set : Kp p H (upd (upd H p (.lst [.int x1, .int c1])) p (.lst [.int x2, .int c2]))) upd_same
    generalize upd (upd H p (.lst [.int x1, .int c1])) p (.lst [.int x2, .int c2]) = H1 at W1
    refine ⟨by show 2 ≤ sizeLine; decide, fun tp ntp => ⟨tp, _, rfl, .inl (.inl upd_same), rfl, _, _, rfl, _, _, rfl, rfl, ?_⟩⟩
    have W2 := W1.same (same_upd (o := .tup [.bl b1, .bl b2]) ntp)
    generalize upd H1 tp (.tup [.bl b1, .bl b2]) = H2 at W2
    -- the counters
    unfold tSeq
    dsimp only
    unfold tAsg
    dsimp only [List.map]
    refine cnt_comp (e := oE1) (cs := oC1) W2 ?_ fun D1 n0 n1 d0 d1 f0 f1 H3 k3 W3 O3 ne01 _ C0 C1 _ y01 => ?_
    · exact fun _ => rfl
    refine ⟨_, rfl, ?_⟩
    refine cnt_comp (e := oE2) (cs := oC2) W3 ?_ fun D2 n2 n3 d2 d3 f2 f3 H4 k4 W4 O4 ne23 o4 C2 C3 z23 y23 => ?_
    · exact fun _ => rfl
    obtain ⟨O3', nD⟩ := o4 _ _ O3
    have C04 := C0.by k4
    have C14 := C1.by k4
    refine ⟨D1, D2, _, _, rfl, rfl, O3'.hl, O4.hl, by show 2 + 2 ≤ sizeLine; decide, fun D nD3 => ?_⟩
    have s5 := same_upd (o := .lst ([.ref n0, .ref n1] ++ [.ref n2, .ref n3])) nD3
    have O5 := Own1.new (xs := [.ref n0, .ref n1] ++ [.ref n2, .ref n3]) W4 nD3
    have W5 := W4.same s5
    have C05 := C04.by (KL.same s5)
    have C15 := C14.by (KL.same s5)
    have C25 := C2.by (KL.same s5)
    have C35 := C3.by (KL.same s5)
    obtain ⟨_, i0, _, _⟩ := id C0
    obtain ⟨_, i1, _, _⟩ := id C1
    have ne02 := z23 _ _ _ _ i0
    have ne13 := z23 _ _ _ _ i1
    generalize upd H4 D (.lst ([.ref n0, .ref n1] ++ [.ref n2, .ref n3])) = H5 at O5 W5 C05 C15 C25 C35
    -- made
    refine ⟨W5.tb, fun fa ca H6 e6 _ t6 _ _ _ => ⟨t6, fun fb cb H7 e7 _ t7 _ _ _ => ?_⟩⟩
    have e57 := e6.trans e7
    have O7 := O5.ext e57
    have W7 := W5.ext e57 t7
    refine ⟨_, rfl, D, _, 0, _, rfl, rfl, .inl (.inl O7.hl), rfl, _, rfl, D, _, 1, _, rfl, rfl, .inl (.inl O7.hl), rfl, rfl, rfl, fun k1 dk1 nk1 ndk1 ne1 => ⟨k1, dk1, .ref fa, .ref fb, .ref n0, .ref n1, .non, .non, .non, .non, rfl, upd_same, rfl, ?_⟩⟩
    have s8 := same_made (C := CK) (o := .ins CK dk1 (fs8 (.ref fa) (.ref fb) (.ref n0) (.ref n1) .non .non .non .non)) nk1 ndk1
    have hk18 : (upd (upd (upd H7 dk1 (.own k1)) k1 (.ins CK dk1 [])) k1 (.ins CK dk1 (fs8 (.ref fa) (.ref fb) (.ref n0) (.ref n1) .non .non .non .non))) k1 = some (.ins CK dk1 (fs8 (.ref fa) (.ref fb) (.ref n0) (.ref n1) .non .non .non .non)) := upd_same
    have k58 := (KL.ext e57).trans (KL.same s8)
    have kn10 : ∀ n d fs, H7 n = some (.ins CN d fs) → k1 ≠ n := fun n d fs e => Ne.symm (ne_of_none e nk1)
    have O8 := O7.same s8
    have W8 := W7.same s8
    generalize upd (upd (upd H7 dk1 (.own k1)) k1 (.ins CK dk1 [])) k1 (.ins CK dk1 (fs8 (.ref fa) (.ref fb) (.ref n0) (.ref n1) .non .non .non .non)) = H8 at s8 hk18 k58 O8 W8
    refine ⟨W8.tb, fun fc cc H9 e9 _ t9 _ _ _ => ⟨t9, fun fd2 cd H10 e10 _ t10 _ _ _ => ?_⟩⟩
    have e810 := e9.trans e10
    have O10 := O8.ext e810
    have W10 := W8.ext e810 t10
    refine ⟨_, rfl, D, _, 2, _, rfl, rfl, .inl (.inl O10.hl), rfl, _, rfl, D, _, 3, _, rfl, rfl, .inl (.inl O10.hl), rfl, rfl, rfl, fun k2 dk2 nk2 ndk2 ne2 => ⟨k2, dk2, .ref fc, .ref fd2, .ref n2, .ref n3, .non, .non, .non, .non, rfl, upd_same, rfl, ?_⟩⟩
    have s11 := same_made (C := CK) (o := .ins CK dk2 (fs8 (.ref fc) (.ref fd2) (.ref n2) (.ref n3) .non .non .non .non)) nk2 ndk2
    have hk2 : (upd (upd (upd H10 dk2 (.own k2)) k2 (.ins CK dk2 [])) k2 (.ins CK dk2 (fs8 (.ref fc) (.ref fd2) (.ref n2) (.ref n3) .non .non .non .non))) k2 = some (.ins CK dk2 (fs8 (.ref fc) (.ref fd2) (.ref n2) (.ref n3) .non .non .non .non)) := upd_same
    have k811 := (KL.ext e810).trans (KL.same s11)
    have kn20 : ∀ n d fs, H10 n = some (.ins CN d fs) → k2 ≠ n := fun n d fs e => Ne.symm (ne_of_none e nk2)
    have O11 := O10.same s11
    have W11 := W10.same s11
    generalize upd (upd (upd H10 dk2 (.own k2)) k2 (.ins CK dk2 [])) k2 (.ins CK dk2 (fs8 (.ref fc) (.ref fd2) (.ref n2) (.ref n3) .non .non .non .non)) = H11 at s11 hk2 k811 O11 W11
    refine fun mb dmb nmb ndmb nemb => ⟨mb, dmb, .ref k1, .ref k2, rfl, upd_same, rfl, ?_⟩
    have s12 := same_made (C := CB) (o := .ins CB dmb [("first", .ref k1), ("second", .ref k2)]) nmb ndmb
    have hmb : (upd (upd (upd H11 dmb (.own mb)) mb (.ins CB dmb [])) mb (.ins CB dmb [("first", .ref k1), ("second", .ref k2)])) mb = some (.ins CB dmb [("first", .ref k1), ("second", .ref k2)]) := upd_same
    have kmn : ∀ n d fs, H11 n = some (.ins CN d fs) → mb ≠ n := fun n d fs e => Ne.symm (ne_of_none e nmb)
    have O12 := O11.same s12
    have W12 := W11.same s12
    have hk112 := s12 _ _ (k811.ins hk18)
    have hk212 := s12 _ _ hk2
    have k512 := (k58.trans k811).trans (KL.same s12)
    have C012 := C05.by k512
    have C112 := C15.by k512
    have C212 := C25.by k512
    have C312 := C35.by k512
    have nk1n : ∀ n d f sz e cs, Cn CN sz e cs H5 n d f → k1 ≠ n ∧ k2 ≠ n ∧ mb ≠ n := fun n d f sz e cs ⟨_, h1, _, _⟩ =>
      ⟨kn10 _ _ _ ((KL.ext e57).ins h1), kn20 _ _ _ ((k58.trans (KL.ext e810)).ins h1), kmn _ _ _ ((k58.trans k811).ins h1)⟩
    obtain ⟨q10, q20, qm0⟩ := nk1n _ _ _ _ _ _ C05
    obtain ⟨q11, q21, qm1⟩ := nk1n _ _ _ _ _ _ C15
    obtain ⟨q12, q22, qm2⟩ := nk1n _ _ _ _ _ _ C25
    obtain ⟨q13, q23, qm3⟩ := nk1n _ _ _ _ _ _ C35
    generalize upd (upd (upd H11 dmb (.own mb)) mb (.ins CB dmb [])) mb (.ins CB dmb [("first", .ref k1), ("second", .ref k2)]) = H12 at hmb O12 W12 hk112 hk212 C012 C112 C212 C312
    clear k512 nk1n kmn kn20 kn10 s12 s11 s8 C05 C15 C25 C35 C04 C14 C0 C1 C2 C3
    -- told: consistent
    generalize hcells : (cxOf CX0 P w K mg base n_law_order_right "_law_order_right" (defScope s_law_order_right) (He.fAd K ("_law_order_right", none)) (.ref (He.codeOf K ("_law_order_right", none))) A outer s H E).nox.env.cells = cells
    have ec : cells = cellsFrom (s.heap.objs.size + 1) (defScope s_law_order_right).names [] := hcells.symm
    clear hcells
    obtain ⟨f_con, fd_con, G_con, b_con, me_con⟩ := C_con
    obtain ⟨f_mat, fd_mat, G_mat, b_mat, me_mat⟩ := C_mat
    refine ⟨_, rfl, mb, CB, dmb, _, f_con, rfl, hmb, rfl, cl_B, me_con, by show 2 ≤ sizeLine; decide, fun u1 nu1 => ⟨by show 2 ≤ sizeLine; decide, fun u2 nu2 => fun Hz hc fz => ?_⟩⟩
    have s14 := (same_upd (o := .tup [.int 1, .int 2]) nu1).trans (same_upd (o := .tup [.int 3, .int 4]) nu2)
    have hu1 := (same_upd (o := .tup [.int 3, .int 4]) nu2) u1 _ (upd_same (H := H12) (a := u1) (o := .tup [.int 1, .int 2]))
    have hu2 := upd_same (H := upd H12 u1 (.tup [.int 1, .int 2])) (a := u2) (o := .tup [.int 3, .int 4])
    have O14 := O12.same s14
    have W14 := W12.same s14
    have C014 := C012.by (KL.same s14)
    have C114 := C112.by (KL.same s14)
    have C214 := C212.by (KL.same s14)
    have C314 := C312.by (KL.same s14)
    have hmb14 := s14 _ _ hmb
    have hk114 := s14 _ _ hk112
    have hk214 := s14 _ _ hk212
    have fz : CLO.Frz (defScope s_law_order_right) cells n_law_order_right _ (upd (upd H12 u1 (.tup [.int 1, .int 2])) u2 (.tup [.int 3, .int 4])) Hz := fz
    generalize upd (upd H12 u1 (.tup [.int 1, .int 2])) u2 (.tup [.int 3, .int 4]) = H14 at hc fz hu1 hu2 O14 W14 C014 C114 C214 C314 hmb14 hk114 hk214
    obtain ⟨_, j0, _, _⟩ := id C014
    obtain ⟨_, j1, _, _⟩ := id C114
    obtain ⟨_, j2, _, _⟩ := id C214
    obtain ⟨_, j3, _, _⟩ := id C314
    refine CLO.RunsTo.mk (raw0 G_con b_con) ?_
    have fz2 := fz
    rw [ec] at fz2
    have La := ordL_of (b := b1) (j := 5) fz2 C014 o1a o1b o1c rfl rfl
    have Lb := ordL_of (b := b2) (j := 6) fz2 C214 o2a o2b o2c rfl rfl
    refine ord_run (x := .int 1) (y := .int 2) (x' := .int 3) (y' := .int 4) (k1 := k1) (k2 := k2) ck.con ck.kc nk ne02.1 ⟨dmb, fz.same _ _ hmb14⟩ ⟨dk1, _, fz.same _ _ hk114, rfl, rfl⟩ ⟨dk2, _, fz.same _ _ hk214, rfl, rfl⟩ (fz.same _ _ j0) (fz.same _ _ j2) La Lb (fz.same _ _ hu1) (fz.same _ _ hu2) q10 q20 qm0 fun H' kp hA hB => ?_
    have kU := unfz_kp fz hc kp
    have aU := unfz_at hc j0 hA
    have bU := unfz_at hc j2 hB
    have WU := kU.wt j0 j2 W14 (fun b o nb m e => (y01 b o nb m e).1) (fun b o nb m e => (y23 b o nb m e).1)
    have OU := kU.own j0 j2 O14
    have C1U := kU.cn j0 j2 (Ne.symm ne01) ne13.1 C114
    have C3U := kU.cn j0 j2 (Ne.symm ne02.2) (Ne.symm ne23) C314
    have mbU := kU _ _ qm0 qm2 hmb14
    have k1U := kU _ _ q10 q12 hk114
    have k2U := kU _ _ q20 q22 hk214
    generalize CLO.unfz cells H' = U at kU aU bU WU OU C1U C3U mbU k1U k2U
    clear fz fz2 hc kp La Lb hA hB kU
    -- told: matches
    refine ⟨_, rfl, mb, CB, dmb, _, f_mat, rfl, mbU, rfl, cl_B, me_mat, by show 2 ≤ sizeLine; decide, fun u3 nu3 => ⟨by show 2 ≤ sizeLine; decide, fun u4 nu4 => fun Hz hc fz => ?_⟩⟩
    have s16 := (same_upd (o := .tup [.int 1, .int 2]) nu3).trans (same_upd (o := .tup [.int 3, .int 4]) nu4)
    have hu3 := (same_upd (o := .tup [.int 3, .int 4]) nu4) u3 _ (upd_same (H := U) (a := u3) (o := .tup [.int 1, .int 2]))
    have hu4 := upd_same (H := upd U u3 (.tup [.int 1, .int 2])) (a := u4) (o := .tup [.int 3, .int 4])
    have O16 := OU.same s16
    have W16 := WU.same s16
    have C116 := C1U.by (KL.same s16)
    have C316 := C3U.by (KL.same s16)
    have a16 := s16 _ _ aU
    have b16 := s16 _ _ bU
    have hmb16 := s16 _ _ mbU
    have hk116 := s16 _ _ k1U
    have hk216 := s16 _ _ k2U
    have fz : CLO.Frz (defScope s_law_order_right) cells n_law_order_right _ (upd (upd U u3 (.tup [.int 1, .int 2])) u4 (.tup [.int 3, .int 4])) Hz := fz
    generalize upd (upd U u3 (.tup [.int 1, .int 2])) u4 (.tup [.int 3, .int 4]) = H16 at hc fz hu3 hu4 O16 W16 C116 C316 a16 b16 hmb16 hk116 hk216
    obtain ⟨_, l1, _, _⟩ := id C116
    obtain ⟨_, l3, _, _⟩ := id C316
    refine CLO.RunsTo.mk (raw0 G_mat b_mat) ?_
    have fz2 := fz
    rw [ec] at fz2
    have La := ordL_of (b := b1) (j := 5) fz2 C116 o1a o1b o1c rfl rfl
    have Lb := ordL_of (b := b2) (j := 6) fz2 C316 o2a o2b o2c rfl rfl
    refine ord_run (x := .int 1) (y := .int 2) (x' := .int 3) (y' := .int 4) (k1 := k1) (k2 := k2) ck.mat ck.kc nk ne13.2 ⟨dmb, fz.same _ _ hmb16⟩ ⟨dk1, _, fz.same _ _ hk116, rfl, rfl⟩ ⟨dk2, _, fz.same _ _ hk216, rfl, rfl⟩ (fz.same _ _ l1) (fz.same _ _ l3) La Lb (fz.same _ _ hu3) (fz.same _ _ hu4) q11 q21 qm1 fun H' kp hA hB => ?_
    have kV := unfz_kp fz hc kp
    have cV := unfz_at hc l1 hA
    have dV := unfz_at hc l3 hB
    have WV := kV.wt l1 l3 W16 (fun b o nb m e => (y01 b o nb m e).2) (fun b o nb m e => (y23 b o nb m e).2)
    have OV := kV.own l1 l3 O16
    have aV := kV _ _ ne01 ne02.2 a16
    have bV := kV _ _ (Ne.symm ne13.1) ne23 b16
    generalize CLO.unfz cells H' = V' at kV cV dV WV OV aV bV
    clear fz fz2 hc kp La Lb hA hB kV
    -- counts
    refine ⟨by show 2 ≤ sizeLine; decide, fun tl ntl => ?_⟩
    have s17 := same_upd (o := .lst [.bl (b1 && b2), .bl (b1 && b2)]) ntl
    have T17 := Own1.new (xs := [.bl (b1 && b2), .bl (b1 && b2)]) WV ntl
    have W17 := WV.same s17
    have O17 := OV.same s17
    have a17 := s17 _ _ aV
    have b17 := s17 _ _ bV
    have c17 := s17 _ _ cV
    have d17 := s17 _ _ dV
    generalize upd V' tl (.lst [.bl (b1 && b2), .bl (b1 && b2)]) = H17 at T17 W17 O17 a17 b17 c17 d17
    refine ⟨_, rfl, D, rfl, ⟨_, .inl (.inl O17.hl)⟩, fun Dc nDc => ?_⟩
    have x0 : Int := if b1 then 1 else 0
    refine lc_list (xs := [.ref n0, .ref n1] ++ [.ref n2, .ref n3]) (fun j H' => ∃ done : List Int, Same H17 H' ∧ done = ([1, 1, (if b1 then 1 else 0), (if b1 then 1 else 0)] : List Int).take j ∧ H' Dc = some (.lst (done.map V.int))) ⟨[], same_upd nDc, rfl, upd_same⟩ (fun j H' _ ⟨_, z, _⟩ => .inl (.inl (z _ _ O17.hl))) ?_ ?_
    · rintro i v H18 hv ⟨done, s18, rfl, hD⟩
      match i, hv with
      | 0, hv =>
        cases hv
        exact ⟨rfl, _, rfl, n0, d0, _, rfl, s18 _ _ a17, n0, d0, _, _, rfl, s18 _ _ a17, rfl, _, hD, small1000 (by show 0 ≤ 1000; decide), _, same_put s18 nDc, rfl, upd_same⟩
      | 1, hv =>
        cases hv
        exact ⟨rfl, _, rfl, n1, d1, _, rfl, s18 _ _ c17, n1, d1, _, _, rfl, s18 _ _ c17, rfl, _, hD, small1000 (by show 1 ≤ 1000; decide), _, same_put s18 nDc, rfl, upd_same⟩
      | 2, hv =>
        cases hv
        exact ⟨rfl, _, rfl, n2, d2, _, rfl, s18 _ _ b17, n2, d2, _, _, rfl, s18 _ _ b17, rfl, _, hD, small1000 (by show 2 ≤ 1000; decide), _, same_put s18 nDc, rfl, upd_same⟩
      | 3, hv =>
        cases hv
        exact ⟨rfl, _, rfl, n3, d3, _, rfl, s18 _ _ d17, n3, d3, _, _, rfl, s18 _ _ d17, rfl, _, hD, small1000 (by show 3 ≤ 1000; decide), _, same_put s18 nDc, rfl, upd_same⟩
      | n + 4, hv => cases hv
    · rintro H18 ⟨done, s18, rfl, hD⟩
      have W18 := W17.same s18
      have T18 := T17.same s18
      refine ⟨_, rfl, _, rfl, b1, rfl, and_step (B := b2) (fun Q2 h2 => ⟨_, rfl, h2 H18 (Same.refl H18)⟩) fun H19 s19 => ?_⟩
      have hD19 := s19 _ _ hD
      have W19 := W18.same s19
      have T19 := T18.same s19
      refine ⟨by show 1 ≤ sizeLine; decide, fun e1 ne1 => ?_⟩
      have s20 := same_upd (o := .lst [.bl (b1 && b2)]) ne1
      refine ⟨e1, 2, _, rfl, rfl, upd_same, by decide, by decide, by show 1 * 2 ≤ sizeLine; decide, fun e2 ne2 => ?_⟩
      have s21 := s20.trans (same_upd (o := .lst (List.replicate (2 : Int).toNat [V.bl (b1 && b2)]).flatten) ne2)
      have W21 := W19.same s21
      have T21 := T19.same s21
      have hD21 := s21 _ _ hD19
      have shB : ∀ G, RZ.ShwAll G [V.bl (b1 && b2), V.bl (b1 && b2)] [.bool (b1 && b2), .bool (b1 && b2)] := fun G => .cons (.bl _) (.cons (.bl _) .nil)
      refine rEq_same (D := .list [.bool (b1 && b2), .bool (b1 && b2)]) (.lst T21.hl (shB _)) (.lst upd_same (shB _)) rfl (by simp [PyData.depth, PyData.depthAll]) ⟨true, rfl, iteT ?_⟩
      refine ⟨_, rfl, _, rfl, .inr ⟨b1, rfl, _, rfl, .inr ⟨b1, rfl, by show 4 ≤ sizeLine; decide, fun e3 ne3 => ?_⟩⟩⟩
      have s22 := same_upd (o := .lst [.int 1, .int 1, .int (if b1 then 1 else 0), .int (if b1 then 1 else 0)]) ne3
      have W22 := W21.same s22
      exact rEq_same (D := .list (([1, 1, (if b1 then 1 else 0), (if b1 then 1 else 0)] : List Int).map PyData.int)) (.lst (s22 _ _ hD21) (shw_ints ([1, 1, (if b1 then 1 else 0), (if b1 then 1 else 0)] : List Int))) (.lst upd_same (shw_ints ([1, 1, (if b1 then 1 else 0), (if b1 then 1 else 0)] : List Int))) (by simp only [PyData.canLay0]; exact lay_ints _) (by simp [PyData.depth, PyData.depthAll]) (q _ x2 c2 W22.kn W22.tb W22.hp)
end
end K16
set_option Elab.async false
set_option linter.all false
set_option maxRecDepth 100000
set_option maxHeartbeats 2000000
namespace K16
open PySem PySem.Spec PyProof.Rows L2 CM DN GR
section
variable {P : Program} {w : World} {K : PySem.W.Frag} {mg : Str → Option Value} {base : Heap}
/-! ### the law -/
def spLaw (K : PySem.W.Frag) : Sp := fun vs H Q _ => ∃ (a : Addr) (ns : List Int), vs = [.ref a] ∧ SqL K H a (ns.map V.int) ∧ ns.length ≤ 63 ∧ LamX.Tabs (TT K) H ∧ ∀ H', Q (.bl true) H'
theorem cut_mem {xs : List V} {v : V} {lo hi : Option Int} (h : v ∈ cutV xs lo hi) : v ∈ xs := by
  unfold cutV at h
  exact List.mem_of_mem_drop (List.mem_of_mem_take h)
theorem ok_law {f : Addr} {fd : FuncData} {k : Nat} (F : FnP K "law" "law" s_law f fd) (m_range : mg "range" = none) (C_well : Cal P w K mg base CX0 "_law_well" k ["_law_cell"] spWell) (C_parts : Cal P w K mg base CX0 "_law_parts_right" k ["_law_well_here"] (spRight K))
    (C_order : Cal P w K mg base CX0 "_law_order_right" k ["_law_well_here"] (spRight K)) (C_coarse : Cal P w K mg base CX0 "_law_coarse_right" k ["_law_well_here"] (spRight K)) (C_sums : Cal P w K mg base CX0 "_law_sums_right" k ["_law_well_here"] (spRight K)) :
    FnOk P w K mg base CX0 (k + 1) f fd ["_law_script"] (spLaw K) := by
  obtain ⟨f_law_well, fd_law_well, G_law_well, b_law_well, m_law_well, k_law_well⟩ := C_well
  obtain ⟨f1, g1, G_law_parts_right, b_law_parts_right, m_law_parts_right, k_law_parts_right⟩ := C_parts
  obtain ⟨f2, g2, G_law_order_right, b_law_order_right, m_law_order_right, k_law_order_right⟩ := C_order
  obtain ⟨f3, g3, G_law_coarse_right, b_law_coarse_right, m_law_coarse_right, k_law_coarse_right⟩ := C_coarse
  obtain ⟨f4, g4, G_law_sums_right, b_law_sums_right, m_law_sums_right, k_law_sums_right⟩ := C_sums
  refine F.ok sc_law (fun vs H Q E h => ?_) (fun cdv A outer s H vs Q E hr h => ?_)
  · obtain ⟨a, ns, rfl, _⟩ := h
    rfl
  · obtain ⟨a, ns, rfl, ha, hz, hT, q⟩ := h
    refine ⟨_, PSs.nox (pss_cons (ps_for PassesOwn.never rfl (pi_list (pe_op op_cat (pe_slice sl_list (pv 0) po_none (po_some pe_int)) (pe_lst (pa_cons pe_int pa_nil)))) (pg_name (i := 1) sc_law.nd rfl (.inl rfl))
      (pss_cons (ps_set (i := 2) sc_law.nd rfl (.inl rfl) (pe_call G_law_well (hr.mono (by omega)) (by rfl) m_law_well k_law_well b_law_well .nil pass0 (pa_cons (pv 1) pa_nil)))
      (pss_one (ps_for PassesOwn.never rfl (pi_range1 (by rfl) m_range (pa_cons pe_int pa_nil)) (pg_name (i := 3) sc_law.nd rfl (.inl rfl))
        (pss_cons (ps_if (PW.pt (pw_or (pt_not (pt_val (pe_call G_law_parts_right (hr.mono (by omega)) (by rfl) m_law_parts_right k_law_parts_right b_law_parts_right .nil pass0 (pa_cons (pv 2) pa_nil)))) (pw_or (pt_not (pt_val (pe_call G_law_order_right (hr.mono (by omega)) (by rfl) m_law_order_right k_law_order_right b_law_order_right .nil pass0 (pa_cons (pv 2) pa_nil)))) (pw_or1 (pt_not (pt_val (pe_call G_law_coarse_right (hr.mono (by omega)) (by rfl) m_law_coarse_right k_law_coarse_right b_law_coarse_right .nil pass0 (pa_cons (pv 2) pa_nil)))))))) (pss_one (ps_ret pe_bl)) (pss_nil))
        (pss_one (ps_if (pt_not (pt_val (pe_call G_law_sums_right (hr.mono (by omega)) (by rfl) m_law_sums_right k_law_sums_right b_law_sums_right .nil pass0 (pa_cons (pv 2) pa_nil)))) (pss_one (ps_ret pe_bl)) (pss_nil))))))))
    (pss_one (ps_ret pe_bl))), ?_⟩
    refine ⟨_, rfl, 4, rfl, a, _, rfl, ha, fun c nc => ⟨by show 1 ≤ sizeLine; decide, fun d nd => ?_⟩⟩
    have hc : (upd (upd H c (.lst (cutV (ns.map V.int) none (some 4)))) d (.lst [V.int 0])) c = some (.lst (cutV (ns.map V.int) none (some 4))) := by
      rw [upd_ne (ne_of_none upd_same nd), upd_same]
    have hl : (cutV (ns.map V.int) none (some 4)).length ≤ 63 := Nat.le_trans (cutV_length ..) (by rw [List.length_map]; exact hz)
    refine ⟨c, d, _, _, rfl, rfl, hc, upd_same, Nat.le_of_lt (small1000 (by rw [List.length_singleton]; omega)), fun e ne => ?_⟩
    generalize hX : cutV (ns.map V.int) none (some 4) ++ [V.int 0] = X
    have hXi : ∀ v ∈ X, ∃ z : Int, v = .int z := fun v hv => by
      rw [← hX] at hv
      rcases List.mem_append.mp hv with h1 | h1
      · obtain ⟨z, _, rfl⟩ := List.mem_map.mp (cut_mem h1)
        exact ⟨z, rfl⟩
      · exact ⟨0, List.mem_singleton.mp h1⟩
    have hT1 := SL.Tabs.same hT ((same_upd (o := .lst (cutV (ns.map V.int) none (some 4))) nc).trans (same_upd (o := .lst [V.int 0]) nd))
    generalize upd (upd H c (.lst (cutV (ns.map V.int) none (some 4)))) d (.lst [V.int 0]) = H1 at ne hT1
    refine ⟨e, rfl, ⟨X, .inl (.inl upd_same)⟩, ?_⟩
    refine for_list (K := K) (a := e) (xs := X) (fun i σ H' => ∃ v1 v2 v3 : Option V, σ = [some (.ref a), v1, v2, v3] ∧ H' e = some (.lst X) ∧ LamX.Tabs (TT K) H') ?_ (fun i σ H' _ ⟨_, _, _, _, he, _⟩ => .inl (.inl he)) ?_ ?_
    · exact ⟨none, none, none, rfl, upd_same, SL.Tabs.same hT1 (same_upd ne)⟩
    · rintro i y σ H2 hi ⟨v1, v2, v3, rfl, he, hTi⟩
      obtain ⟨z, rfl⟩ := hXi y (List.mem_of_getElem? hi)
      refine ⟨_, rfl, z, rfl, fun p np => ?_⟩
      have hpe : e ≠ p := ne_of_none he np
      have s3 := same_upd (o := .lst [.int z, .int 0]) np
      have hp3 := upd_same (H := H2) (a := p) (o := .lst [.int z, .int 0])
      have he3 := s3 _ _ he
      have hT3 := SL.Tabs.same hTi s3
      generalize upd H2 p (.lst [.int z, .int 0]) = H3 at hp3 he3 hT3
      refine ⟨4, rfl, by decide, by decide, for_range (n := 4) (fun _ σ H' => ∃ (v3 : Option V) (x c : Int), σ = [some (.ref a), some (.int z), some (.ref p), v3] ∧ H' p = some (.lst [.int x, .int c]) ∧ H' e = some (.lst X) ∧ LamX.Tabs (TT K) H') ⟨_, z, 0, rfl, hp3, he3, hT3⟩ ?_ ?_⟩
      · rintro t σ H4 _ ⟨v3', x, c, rfl, hp4, he4, hT4⟩
        refine ⟨_, rfl, p, x, c, rfl, hp4, hT4, fun H5 x5 c5 k5 t5 hp5 => ⟨true, rfl, iteF ?_⟩⟩
        have he5 := k5 _ _ hpe (fun _ z => by cases z) he4
        refine ⟨_, rfl, p, x5, c5, rfl, hp5, t5, fun H6 x6 c6 k6 t6 hp6 => ⟨true, rfl, iteF ?_⟩⟩
        have he6 := k6 _ _ hpe (fun _ z => by cases z) he5
        refine ⟨_, rfl, p, x6, c6, rfl, hp6, t6, fun H7 x7 c7 k7 t7 hp7 => ⟨true, rfl, iteF ?_⟩⟩
        have he7 := k7 _ _ hpe (fun _ z => by cases z) he6
        refine ⟨_, rfl, p, x7, c7, rfl, hp7, t7, fun H8 x8 c8 k8 t8 hp8 => ⟨true, rfl, iteF ?_⟩⟩
        have he8 := k8 _ _ hpe (fun _ z => by cases z) he7
        exact ⟨_, x8, c8, rfl, hp8, he8, t8⟩
      · rintro σ H4 ⟨v3', x, c, rfl, hp4, he4, hT4⟩
        exact ⟨_, _, _, rfl, he4, hT4⟩
    · rintro σ H2 ⟨v1, v2, v3, rfl, he, _⟩
      exact q H2
end
end K16
set_option Elab.async false
set_option linter.all false
set_option maxRecDepth 100000
set_option maxHeartbeats 2000000
namespace K16
open PySem PySem.Spec PyProof.Rows L2 CM DN GR
section
variable {P : Program} {w : World} {K : PySem.W.Frag} {mg : Str → Option Value} {base : Heap}
/-! ### the head -/
def insKB (K : PySem.W.Frag) (C : Addr) : Bool := He.eqO (PySem.W.findIn K (.ref C) "__class__") (some (some (.builtin "object.__class__"))) && (He.eqO (PySem.W.specialIn K (.builtin "object.__class__") "__get__") (some (some (.builtin "getset_descriptor.__get__"))) && (decide (PySem.W.takesIn K (.builtin "object.__class__") = some true) && (decide (PySem.W.mroIn K C (.type "object") = some true) && (decide (PySem.W.kitOne K (.ref C) (.type "int") = some false) && (decide (PySem.W.kitOne K (.ref C) (.type "str") = some false) && decide (PySem.W.kitOne K (.ref C) (.type "tuple") = some false))))))
theorem insKB_ok {K : PySem.W.Frag} {C : Addr} (cl : Cls K C) (h : insKB K C = true) : InsK K C := by
  obtain ⟨h1, h⟩ := He.ba h
  obtain ⟨h2, h⟩ := He.ba h
  obtain ⟨h3, h⟩ := He.ba h
  obtain ⟨h4, h⟩ := He.ba h
  obtain ⟨h5, h⟩ := He.ba h
  obtain ⟨h6, h7⟩ := He.ba h
  exact ⟨cl, He.eqO_ok h1, He.eqO_ok h2, of_decide_eq_true h3, of_decide_eq_true h4, of_decide_eq_true h5, of_decide_eq_true h6, of_decide_eq_true h7⟩
def neB (K : PySem.W.Frag) (C : Addr) : Bool := decide (PySem.W.mroIn K C (.type "object") = some true) && (He.eqO (PySem.W.findIn K (.ref C) "__eq__") (some (some (.builtin "object.__eq__"))) && (PySem.W.subIn K (.ref C) (.ref C)).isSome)
theorem neB_ok {K : PySem.W.Frag} {C : Addr} (h : neB K C = true) : OBQ.NoEq K C := by
  obtain ⟨h1, h⟩ := He.ba h
  obtain ⟨h2, h3⟩ := He.ba h
  exact ⟨of_decide_eq_true h1, He.eqO_ok h2, Option.isSome_iff_exists.mp h3⟩
def kitB (K : PySem.W.Frag) (x y : Str) (b : Bool) : Bool := decide (PySem.W.kitOne K (.ref (He.ga K x)) (.ref (He.ga K y)) = some b)
def exL (K : PySem.W.Frag) : List Bool := [OX.errB K (He.ga K "NotGiven") "name", insKB K (He.ga K "Calls"), insKB K (He.ga K "Ranges"), insKB K (He.ga K "Rests"), insKB K (He.ga K "Signs"), kitB K "Calls" "Measured" true, kitB K "Ranges" "Measured" true, kitB K "Rests" "Measured" false, kitB K "Signs" "Measured" false,
  PR.propB K (He.ga K "Both") "one" "first", PR.propB K (He.ga K "Both") "other" "second", PR.propB K (He.ga K "Counted") "calls" "made", ownB K (He.ga K "Counted") "__call__", neB K (He.ga K "Ranges"), neB K (He.ga K "Rests"), mkoB K (He.ga K "Ranges"), mkoB K (He.ga K "Rests"), mkoB K (He.ga K "Stems"), decide (((TT K).map (·.1)).Nodup)]
theorem exi {l : List Bool} (h : l.all id = true) (i : Nat) {b : Bool} (e : l[i]? = some b) : b = true := List.all_eq_true.mp h b (List.mem_of_getElem? e)
def d_NotGiven___init : He.DefD := ⟨("NotGiven", some "__init__"), "__init__", "NotGiven.__init__", defArgs s_NotGiven___init, defBody s_NotGiven___init, defScope s_NotGiven___init, [], []⟩
def d_Calls___init : He.DefD := ⟨("Calls", some "__init__"), "__init__", "Calls.__init__", defArgs s_Calls___init, defBody s_Calls___init, defScope s_Calls___init, [], [(("penalty" : Str), He.Dv.non), (("sides" : Str), He.Dv.non), (("distance" : Str), He.Dv.non), (("bound" : Str), He.Dv.non)]⟩
def d_Calls_consistent : He.DefD := ⟨("Calls", some "consistent"), "consistent", "Calls.consistent", defArgs s_Calls_consistent, defBody s_Calls_consistent, defScope s_Calls_consistent, [], []⟩
def d_Calls_matches : He.DefD := ⟨("Calls", some "matches"), "matches", "Calls.matches", defArgs s_Calls_matches, defBody s_Calls_matches, defScope s_Calls_matches, [], []⟩
def d_is_int : He.DefD := ⟨("is_int", none), "is_int", "is_int", defArgs s_is_int, defBody s_is_int, defScope s_is_int, [], []⟩
def d_is_plain : He.DefD := ⟨("is_plain", none), "is_plain", "is_plain", defArgs s_is_plain, defBody s_is_plain, defScope s_is_plain, [], []⟩
def d_is_plain_within : He.DefD := ⟨("is_plain_within", none), "is_plain_within", "is_plain_within", defArgs s_is_plain_within, defBody s_is_plain_within, defScope s_is_plain_within, [], []⟩
def d_own_label : He.DefD := ⟨("own_label", none), "own_label", "own_label", defArgs s_own_label, defBody s_own_label, defScope s_own_label, [], []⟩
def d_joined : He.DefD := ⟨("joined", none), "joined", "joined", defArgs s_joined, defBody s_joined, defScope s_joined, [], []⟩
def d_checked : He.DefD := ⟨("checked", none), "checked", "checked", defArgs s_checked, defBody s_checked, defScope s_checked, [], []⟩
def d_Both___init : He.DefD := ⟨("Both", some "__init__"), "__init__", "Both.__init__", defArgs s_Both___init, defBody s_Both___init, defScope s_Both___init, [], []⟩
def d_Both_own : He.DefD := ⟨("Both", some "own"), "own", "Both.own", defArgs s_Both_own, defBody s_Both_own, defScope s_Both_own, [], []⟩
def d_Both_join : He.DefD := ⟨("Both", some "join"), "join", "Both.join", defArgs s_Both_join, defBody s_Both_join, defScope s_Both_join, [], []⟩
def d_Both_consistent : He.DefD := ⟨("Both", some "consistent"), "consistent", "Both.consistent", defArgs s_Both_consistent, defBody s_Both_consistent, defScope s_Both_consistent, [], []⟩
def d_Both_matches : He.DefD := ⟨("Both", some "matches"), "matches", "Both.matches", defArgs s_Both_matches, defBody s_Both_matches, defScope s_Both_matches, [], []⟩
def d_Both_penalty : He.DefD := ⟨("Both", some "penalty"), "penalty", "Both.penalty", defArgs s_Both_penalty, defBody s_Both_penalty, defScope s_Both_penalty, [], []⟩
def d_Both_sides : He.DefD := ⟨("Both", some "sides"), "sides", "Both.sides", defArgs s_Both_sides, defBody s_Both_sides, defScope s_Both_sides, [], []⟩
def d_Both_distance : He.DefD := ⟨("Both", some "distance"), "distance", "Both.distance", defArgs s_Both_distance, defBody s_Both_distance, defScope s_Both_distance, [], []⟩
def d_Both_bound : He.DefD := ⟨("Both", some "bound"), "bound", "Both.bound", defArgs s_Both_bound, defBody s_Both_bound, defScope s_Both_bound, [], []⟩
def d_Coarse___init : He.DefD := ⟨("Coarse", some "__init__"), "__init__", "Coarse.__init__", defArgs s_Coarse___init, defBody s_Coarse___init, defScope s_Coarse___init, [], []⟩
def d_Coarse_own : He.DefD := ⟨("Coarse", some "own"), "own", "Coarse.own", defArgs s_Coarse_own, defBody s_Coarse_own, defScope s_Coarse_own, [], []⟩
def d_Coarse_join : He.DefD := ⟨("Coarse", some "join"), "join", "Coarse.join", defArgs s_Coarse_join, defBody s_Coarse_join, defScope s_Coarse_join, [], []⟩
def d_Coarse_consistent : He.DefD := ⟨("Coarse", some "consistent"), "consistent", "Coarse.consistent", defArgs s_Coarse_consistent, defBody s_Coarse_consistent, defScope s_Coarse_consistent, [], []⟩
def d_Coarse_matches : He.DefD := ⟨("Coarse", some "matches"), "matches", "Coarse.matches", defArgs s_Coarse_matches, defBody s_Coarse_matches, defScope s_Coarse_matches, [], []⟩
def d_Coarse_penalty : He.DefD := ⟨("Coarse", some "penalty"), "penalty", "Coarse.penalty", defArgs s_Coarse_penalty, defBody s_Coarse_penalty, defScope s_Coarse_penalty, [], []⟩
def d_Coarse_sides : He.DefD := ⟨("Coarse", some "sides"), "sides", "Coarse.sides", defArgs s_Coarse_sides, defBody s_Coarse_sides, defScope s_Coarse_sides, [], []⟩
def d_Coarse_distance : He.DefD := ⟨("Coarse", some "distance"), "distance", "Coarse.distance", defArgs s_Coarse_distance, defBody s_Coarse_distance, defScope s_Coarse_distance, [], []⟩
def d_Coarse_bound : He.DefD := ⟨("Coarse", some "bound"), "bound", "Coarse.bound", defArgs s_Coarse_bound, defBody s_Coarse_bound, defScope s_Coarse_bound, [], []⟩
def d_distance_by : He.DefD := ⟨("distance_by", none), "distance_by", "distance_by", defArgs s_distance_by, defBody s_distance_by, defScope s_distance_by, [], []⟩
def d_bound_by : He.DefD := ⟨("bound_by", none), "bound_by", "bound_by", defArgs s_bound_by, defBody s_bound_by, defScope s_bound_by, [], []⟩
def d_Counted___init : He.DefD := ⟨("Counted", some "__init__"), "__init__", "Counted.__init__", defArgs s_Counted___init, defBody s_Counted___init, defScope s_Counted___init, [.int 2], []⟩
def d_Counted___call : He.DefD := ⟨("Counted", some "__call__"), "__call__", "Counted.__call__", defArgs s_Counted___call, defBody s_Counted___call, defScope s_Counted___call, [.non], []⟩
def d_halves_by : He.DefD := ⟨("halves_by", none), "halves_by", "halves_by", defArgs s_halves_by, defBody s_halves_by, defScope s_halves_by, [], []⟩
def d_Ranges_own : He.DefD := ⟨("Ranges", some "own"), "own", "Ranges.own", defArgs s_Ranges_own, defBody s_Ranges_own, defScope s_Ranges_own, [], []⟩
def d_Ranges_join : He.DefD := ⟨("Ranges", some "join"), "join", "Ranges.join", defArgs s_Ranges_join, defBody s_Ranges_join, defScope s_Ranges_join, [], []⟩
def d_Ranges_consistent : He.DefD := ⟨("Ranges", some "consistent"), "consistent", "Ranges.consistent", defArgs s_Ranges_consistent, defBody s_Ranges_consistent, defScope s_Ranges_consistent, [], []⟩
def d_Ranges_matches : He.DefD := ⟨("Ranges", some "matches"), "matches", "Ranges.matches", defArgs s_Ranges_matches, defBody s_Ranges_matches, defScope s_Ranges_matches, [], []⟩
def d_Ranges_penalty : He.DefD := ⟨("Ranges", some "penalty"), "penalty", "Ranges.penalty", defArgs s_Ranges_penalty, defBody s_Ranges_penalty, defScope s_Ranges_penalty, [], []⟩
def d_Ranges_sides : He.DefD := ⟨("Ranges", some "sides"), "sides", "Ranges.sides", defArgs s_Ranges_sides, defBody s_Ranges_sides, defScope s_Ranges_sides, [], []⟩
def d_Ranges_distance : He.DefD := ⟨("Ranges", some "distance"), "distance", "Ranges.distance", defArgs s_Ranges_distance, defBody s_Ranges_distance, defScope s_Ranges_distance, [], []⟩
def d_Ranges_bound : He.DefD := ⟨("Ranges", some "bound"), "bound", "Ranges.bound", defArgs s_Ranges_bound, defBody s_Ranges_bound, defScope s_Ranges_bound, [], []⟩
def d_hull : He.DefD := ⟨("hull", none), "hull", "hull", defArgs s_hull, defBody s_hull, defScope s_hull, [], []⟩
def d_share_integer : He.DefD := ⟨("share_integer", none), "share_integer", "share_integer", defArgs s_share_integer, defBody s_share_integer, defScope s_share_integer, [], []⟩
def d_width_of : He.DefD := ⟨("width_of", none), "width_of", "width_of", defArgs s_width_of, defBody s_width_of, defScope s_width_of, [], []⟩
def d_gap : He.DefD := ⟨("gap", none), "gap", "gap", defArgs s_gap, defBody s_gap, defScope s_gap, [], []⟩
def d_Rests_own : He.DefD := ⟨("Rests", some "own"), "own", "Rests.own", defArgs s_Rests_own, defBody s_Rests_own, defScope s_Rests_own, [], []⟩
def d_Rests_join : He.DefD := ⟨("Rests", some "join"), "join", "Rests.join", defArgs s_Rests_join, defBody s_Rests_join, defScope s_Rests_join, [], []⟩
def d_Rests_consistent : He.DefD := ⟨("Rests", some "consistent"), "consistent", "Rests.consistent", defArgs s_Rests_consistent, defBody s_Rests_consistent, defScope s_Rests_consistent, [], []⟩
def d_Rests_matches : He.DefD := ⟨("Rests", some "matches"), "matches", "Rests.matches", defArgs s_Rests_matches, defBody s_Rests_matches, defScope s_Rests_matches, [], []⟩
def d_Rests_penalty : He.DefD := ⟨("Rests", some "penalty"), "penalty", "Rests.penalty", defArgs s_Rests_penalty, defBody s_Rests_penalty, defScope s_Rests_penalty, [], []⟩
def d_Stems_own : He.DefD := ⟨("Stems", some "own"), "own", "Stems.own", defArgs s_Stems_own, defBody s_Stems_own, defScope s_Stems_own, [], []⟩
def d_Signs___init : He.DefD := ⟨("Signs", some "__init__"), "__init__", "Signs.__init__", defArgs s_Signs___init, defBody s_Signs___init, defScope s_Signs___init, [.int 8], []⟩
def d_Signs_own : He.DefD := ⟨("Signs", some "own"), "own", "Signs.own", defArgs s_Signs_own, defBody s_Signs_own, defScope s_Signs_own, [], []⟩
def d_Signs_join : He.DefD := ⟨("Signs", some "join"), "join", "Signs.join", defArgs s_Signs_join, defBody s_Signs_join, defScope s_Signs_join, [], []⟩
def d_Signs_penalty : He.DefD := ⟨("Signs", some "penalty"), "penalty", "Signs.penalty", defArgs s_Signs_penalty, defBody s_Signs_penalty, defScope s_Signs_penalty, [], []⟩
def d_common_rest : He.DefD := ⟨("common_rest", none), "common_rest", "common_rest", defArgs s_common_rest, defBody s_common_rest, defScope s_common_rest, [], []⟩
def d_common_divisor : He.DefD := ⟨("common_divisor", none), "common_divisor", "common_divisor", defArgs s_common_divisor, defBody s_common_divisor, defScope s_common_divisor, [], []⟩
def d_signs_of : He.DefD := ⟨("signs_of", none), "signs_of", "signs_of", defArgs s_signs_of, defBody s_signs_of, defScope s_signs_of, [], []⟩
def d_bits_in : He.DefD := ⟨("bits_in", none), "bits_in", "bits_in", defArgs s_bits_in, defBody s_bits_in, defScope s_bits_in, [], []⟩
def d_law_well : He.DefD := ⟨("_law_well", none), "_law_well", "_law_well", defArgs s_law_well, defBody s_law_well, defScope s_law_well, [], []⟩
def d_law_draw : He.DefD := ⟨("_law_draw", none), "_law_draw", "_law_draw", defArgs s_law_draw, defBody s_law_draw, defScope s_law_draw, [], []⟩
def d_law_span : He.DefD := ⟨("_law_span", none), "_law_span", "_law_span", defArgs s_law_span, defBody s_law_span, defScope s_law_span, [], []⟩
def d_law_name_of : He.DefD := ⟨("_law_name_of", none), "_law_name_of", "_law_name_of", defArgs s_law_name_of, defBody s_law_name_of, defScope s_law_name_of, [], []⟩
def d_law_parts_right : He.DefD := ⟨("_law_parts_right", none), "_law_parts_right", "_law_parts_right", defArgs s_law_parts_right, defBody s_law_parts_right, defScope s_law_parts_right, [], []⟩
def d_law_order_right : He.DefD := ⟨("_law_order_right", none), "_law_order_right", "_law_order_right", defArgs s_law_order_right, defBody s_law_order_right, defScope s_law_order_right, [], []⟩
def d_law_noted : He.DefD := ⟨("_law_noted", none), "_law_noted", "_law_noted", defArgs s_law_noted, defBody s_law_noted, defScope s_law_noted, [], []⟩
def d_law_noting : He.DefD := ⟨("_law_noting", none), "_law_noting", "_law_noting", defArgs s_law_noting, defBody s_law_noting, defScope s_law_noting, [], []⟩
def d_law_sums_right : He.DefD := ⟨("_law_sums_right", none), "_law_sums_right", "_law_sums_right", defArgs s_law_sums_right, defBody s_law_sums_right, defScope s_law_sums_right, [], []⟩
def d_law_wider : He.DefD := ⟨("_law_wider", none), "_law_wider", "_law_wider", defArgs s_law_wider, defBody s_law_wider, defScope s_law_wider, [], []⟩
def d_law_coarse_right : He.DefD := ⟨("_law_coarse_right", none), "_law_coarse_right", "_law_coarse_right", defArgs s_law_coarse_right, defBody s_law_coarse_right, defScope s_law_coarse_right, [], []⟩
def d_law : He.DefD := ⟨("law", none), "law", "law", defArgs s_law, defBody s_law, defScope s_law, [], []⟩
def fn : List He.DefD := [d_NotGiven___init, d_Calls___init, d_Calls_consistent, d_Calls_matches, d_is_int, d_is_plain, d_is_plain_within, d_own_label, d_joined, d_checked, d_Both___init, d_Both_own, d_Both_join, d_Both_consistent, d_Both_matches, d_Both_penalty, d_Both_sides, d_Both_distance, d_Both_bound, d_Coarse___init, d_Coarse_own, d_Coarse_join, d_Coarse_consistent, d_Coarse_matches, d_Coarse_penalty, d_Coarse_sides, d_Coarse_distance, d_Coarse_bound, d_distance_by, d_bound_by, d_Counted___init, d_Counted___call, d_halves_by, d_Ranges_own, d_Ranges_join, d_Ranges_consistent, d_Ranges_matches, d_Ranges_penalty, d_Ranges_sides, d_Ranges_distance, d_Ranges_bound, d_hull, d_share_integer, d_width_of, d_gap, d_Rests_own, d_Rests_join, d_Rests_consistent, d_Rests_matches, d_Rests_penalty, d_Stems_own, d_Signs___init, d_Signs_own, d_Signs_join, d_Signs_penalty, d_common_rest, d_common_divisor, d_signs_of, d_bits_in, d_law_well, d_law_draw, d_law_span, d_law_name_of, d_law_parts_right, d_law_order_right, d_law_noted, d_law_noting, d_law_sums_right, d_law_wider, d_law_coarse_right, d_law]
def fa : List He.Fa := [.glo "is_int", .glo "is_plain", .glo "is_plain_within", .glo "own_label", .glo "joined", .glo "checked", .glo "distance_by", .glo "bound_by", .glo "halves_by", .glo "hull", .glo "share_integer", .glo "width_of", .glo "gap", .glo "common_rest", .glo "common_divisor", .glo "signs_of", .glo "bits_in", .glo "_law_well", .glo "_law_draw", .glo "_law_span", .glo "_law_name_of", .glo "_law_parts_right", .glo "_law_order_right", .glo "_law_noted", .glo "_law_noting", .glo "_law_sums_right", .glo "_law_wider", .glo "_law_coarse_right", .glo "law", .glo "Both", .cls "Both", .meth "Both" "__init__", .meth "Both" "own", .meth "Both" "join", .meth "Both" "consistent", .meth "Both" "matches", .meth "Both" "penalty", .meth "Both" "sides", .meth "Both" "distance", .meth "Both" "bound", .glo "Coarse", .cls "Coarse", .meth "Coarse" "__init__", .meth "Coarse" "own", .meth "Coarse" "join", .meth "Coarse" "consistent", .meth "Coarse" "matches", .meth "Coarse" "penalty", .meth "Coarse" "sides", .meth "Coarse" "distance", .meth "Coarse" "bound", .glo "Calls", .cls "Calls", .meth "Calls" "__init__", .meth "Calls" "consistent", .meth "Calls" "matches", .meth "Calls" "penalty", .meth "Calls" "distance", .meth "Calls" "bound", .glo "Counted", .cls "Counted", .meth "Counted" "__init__", .meth "Counted" "__call__", .glo "Ranges", .cls "Ranges", .meth "Ranges" "own", .meth "Ranges" "join", .meth "Ranges" "consistent", .meth "Ranges" "matches", .meth "Ranges" "penalty", .meth "Ranges" "sides", .meth "Ranges" "distance", .meth "Ranges" "bound", .glo "Rests", .cls "Rests", .meth "Rests" "own", .meth "Rests" "join", .meth "Rests" "consistent", .meth "Rests" "matches", .meth "Rests" "penalty", .glo "Stems", .cls "Stems", .meth "Stems" "own", .glo "Signs", .cls "Signs", .meth "Signs" "__init__", .meth "Signs" "own", .meth "Signs" "join", .meth "Signs" "penalty", .glo "NotGiven", .glo "Measured", .free "int", .free "len", .free "range", .free "list", .free "tuple", .free "str", .free "bool", .free "isinstance", .free "abs", .free "sum", .free "max", .free "min", .free "sorted", .int "DEEPEST" 4, .int "MOST_BITS" 60, .mkr "Both", .mkr "Coarse", .mkr "Calls", .mkr "Counted", .mkr "Signs", .noat "Both" "first", .noat "Both" "second", .noat "Coarse" "kind", .noat "Coarse" "squeeze", .noat "Counted" "function", .noat "Counted" "arguments", .noat "Counted" "made", .noat "Signs" "bits", .noat "Calls" "own_function", .noat "Calls" "join_function", .noat "Calls" "consistent_function", .noat "Calls" "matches_function", .noat "Calls" "penalty_function", .noat "Calls" "sides_function", .noat "Calls" "distance_function", .noat "Calls" "bound_function"]
def loose : List PySem.Str := (["_wall", "GroveError", "BadValue", "NotGiven", "Kind", "Measured", "Calls", "DEEPEST", "is_int", "is_plain", "is_plain_within", "own_label"] : List PySem.Str) ++ (["joined", "checked", "Both", "Coarse", "distance_by", "bound_by", "Counted", "halves_by", "Ranges", "hull", "share_integer", "width_of"] : List PySem.Str) ++ (["gap", "MOST_BITS", "Rests", "Stems", "Signs", "common_rest", "common_divisor", "common_stem", "signs_of", "bits_in", "_law_well", "_law_draw"] : List PySem.Str) ++ (["_law_one", "_law_span", "_law_name_of", "_law_parts_right", "_law_order_right", "_law_noted", "_law_noting", "_law_sums_right", "_law_wider", "_law_coarse_right"] : List PySem.Str)
def ex (K : PySem.W.Frag) : Bool := (exL K).all id
abbrev R : PySem.W.OpenRow := PySem.W.OpenLaw.row PySem.Challenge.rw_kindgrove_k16_both_and_coarse
def tf : List He.Defn := [("halves_by", none), ("_law_parts_right", none), ("_law_order_right", none), ("_law_noting", none), ("_law_wider", none), ("_law_coarse_right", none), ("_law_noted", none)]
def da : List He5.DefA := []
def dc : List CF.DefC := [⟨"Calls", "penalty", "Calls.penalty", s_Calls_penalty⟩, ⟨"Calls", "distance", "Calls.distance", s_Calls_distance⟩, ⟨"Calls", "bound", "Calls.bound", s_Calls_bound⟩]
abbrev hk : PySem.W.Hook := RC.hookW 6 fa fn tf da dc ex
def ob (s : PySem.W.SharedT) : CF.AlW := RC.obsW 6 fa fn tf da dc ex (HandSHeadRun.getT s)
theorem ob_eq (s : PySem.W.SharedT) : ob s = hk.obs s.abs := RC.obsW_eq (HandSHeadRun.getT_eq s)
theorem run (w : World) : HandSHeadRun.RunEq R (PySem.W.view R.prog [56]) hk ob 8000 loose w := by
  intro os
  kernel_rfl
theorem glo {h : Heap} (X : K.In h) (G : h.Ns mainGlobals mg) (c : He.SaysD fa fn K) {x : Str} (hx : He.Fa.glo x ∈ fa) : mg x = some (.ref (He.ga K x)) := He.glo_ok X G (c.facts hx)
theorem fre {h : Heap} (X : K.In h) (G : h.Ns mainGlobals mg) (c : He.SaysD fa fn K) {x : Str} (hx : He.Fa.free x ∈ fa) : mg x = none := He.free_ok X G (c.facts hx)
theorem cal {h : Heap} (X : K.In h) (G : h.Ns mainGlobals mg) (c : He.SaysD fa fn K) {x qn : Str} {st : Stmt} {fd : FuncData} {k : Nat} {ps : List Str} {sp : Sp} (F : FnP K x qn st (He.ga K x) fd)
    (hx : He.Fa.glo x ∈ fa) (ok : FnOk P w K mg base CX0 k (He.ga K x) fd ps sp)
    (hb : ∀ (kV doc pm : Value) (an : Option Addr) (cdv ct : Value) (us : List Value), us.length = ps.length → bindArgs (PySem.W.fnOf x qn (defArgs st) (defBody st) (defScope st) .none kV doc pm an cdv ct) ⟨us, []⟩ = pure (ps.zip us)) : Cal P w K mg base CX0 x k ps sp :=
  ⟨He.ga K x, fd, ok, F.bindsN hb, glo X G c hx, F.kp⟩
theorem calm (c : He.SaysD fa fn K) {C m qn : Str} {st : Stmt} {fd : FuncData} {k : Nat} {ps : List Str} {sp : Sp} (F : FnP K m qn st (He.ma K (He.ga K C) m) fd)
    (hx : He.Fa.meth C m ∈ fa) (ok : FnOk P w K mg base CX0 k (He.ma K (He.ga K C) m) fd ps sp)
    (hb : ∀ (kV doc pm : Value) (an : Option Addr) (cdv ct : Value) (us : List Value), us.length = ps.length → bindArgs (PySem.W.fnOf m qn (defArgs st) (defBody st) (defScope st) .none kV doc pm an cdv ct) ⟨us, []⟩ = pure (ps.zip us)) : CalM P w K mg base CX0 (He.ga K C) m k ps sp :=
  ⟨He.ma K (He.ga K C) m, fd, ok, F.bindsN hb, He.meth_ok (c.facts hx)⟩
end
end K16
set_option Elab.async false
set_option linter.all false
set_option maxRecDepth 100000
set_option maxHeartbeats 2000000
namespace K16
open PySem PySem.Spec PyProof.Rows L2 CM DN GR
section
variable {P : Program} {w : World} {K : PySem.W.Frag} {mg : Str → Option Value} {base : Heap}
theorem tabs_of {H : Hp} (h : ∀ p ∈ tf.map (He.cT K), H p.2 = some (.tbl #[])) : LamX.Tabs (TT K) H := fun p hp => by
  simp only [TT, List.mem_cons, List.not_mem_nil, or_false] at hp
  rcases hp with rfl | rfl | rfl | rfl | rfl | rfl | rfl
  · exact LamX.TabS.nil (h _ (List.mem_map.mpr ⟨("halves_by", none), by decide, rfl⟩))
  · exact LamX.TabS.nil (h _ (List.mem_map.mpr ⟨("_law_parts_right", none), by decide, rfl⟩))
  · exact LamX.TabS.nil (h _ (List.mem_map.mpr ⟨("_law_order_right", none), by decide, rfl⟩))
  · exact LamX.TabS.nil (h _ (List.mem_map.mpr ⟨("_law_noting", none), by decide, rfl⟩))
  · exact LamX.TabS.nil (h _ (List.mem_map.mpr ⟨("_law_wider", none), by decide, rfl⟩))
  · exact LamX.TabS.nil (h _ (List.mem_map.mpr ⟨("_law_coarse_right", none), by decide, rfl⟩))
  · exact LamX.TabS.nil (h _ (List.mem_map.mpr ⟨("_law_noted", none), by decide, rfl⟩))
theorem facts {h : Heap} {f : Addr} (X : K.In h) (G : h.Ns mainGlobals mg) (hfa : mg ("law" : Str) = some (.ref f)) (c : He.SaysD fa fn K) (m : ex K = true) (c0 : ∃ (F : NdefX.NF) (fd : FuncData), CF.ClsF K (He.ma K (He.ga K "Calls") "penalty") F fd ∧ F.params = defArgs s_Calls_penalty ∧ F.body = defBody s_Calls_penalty ∧ F.scope = defScope s_Calls_penalty ∧ F.name = "penalty" ∧ F.qual = "Calls.penalty")
    (c1 : ∃ (F : NdefX.NF) (fd : FuncData), CF.ClsF K (He.ma K (He.ga K "Calls") "distance") F fd ∧ F.params = defArgs s_Calls_distance ∧ F.body = defBody s_Calls_distance ∧ F.scope = defScope s_Calls_distance ∧ F.name = "distance" ∧ F.qual = "Calls.distance")
    (c2 : ∃ (F : NdefX.NF) (fd : FuncData), CF.ClsF K (He.ma K (He.ga K "Calls") "bound") F fd ∧ F.params = defArgs s_Calls_bound ∧ F.body = defBody s_Calls_bound ∧ F.scope = defScope s_Calls_bound ∧ F.name = "bound" ∧ F.qual = "Calls.bound") :
    ∃ fd : FuncData, (∀ (s : Shared) (v : Value), BindsTo s fd ⟨[v], []⟩ [("_law_script", v)]) ∧ ∀ base : Heap, K.In base → base.Ns mainGlobals mg → (∀ p ∈ tf.map (He.cT K), LamX.TabB base mg p.1 p.2) → GD.FnG P w K mg base CX0 20 f fd ["_law_script"] (spLaw K) := by
  have EB := OX.errB_ok (exi m 0 rfl)
  have ds : Dst K := by
    unfold Dst
    exact of_decide_eq_true (exi m 18 rfl)
  obtain ⟨fd_NotGiven___init, F_NotGiven___init⟩ : ∃ fd, FnP K "__init__" "NotGiven.__init__" s_NotGiven___init (He.ma K (He.ga K "NotGiven") "__init__") fd := c.def_ 0 (d := d_NotGiven___init) rfl
  obtain ⟨fd_Calls___init, F_Calls___init⟩ : ∃ fd, FunD K "__init__" "Calls.__init__" (defArgs s_Calls___init) (defBody s_Calls___init) (defScope s_Calls___init) [] [((("penalty" : Str), He.Dv.non).1, He.Dv.v K ((("penalty" : Str), He.Dv.non)).2), ((("sides" : Str), He.Dv.non).1, He.Dv.v K ((("sides" : Str), He.Dv.non)).2), ((("distance" : Str), He.Dv.non).1, He.Dv.v K ((("distance" : Str), He.Dv.non)).2), ((("bound" : Str), He.Dv.non).1, He.Dv.v K ((("bound" : Str), He.Dv.non)).2)] (He.ma K (He.ga K "Calls") "__init__") fd := c.def_ 1 (d := d_Calls___init) rfl
  obtain ⟨fd_Calls_consistent, F_Calls_consistent⟩ : ∃ fd, FnP K "consistent" "Calls.consistent" s_Calls_consistent (He.ma K (He.ga K "Calls") "consistent") fd := c.def_ 2 (d := d_Calls_consistent) rfl
  obtain ⟨fd_Calls_matches, F_Calls_matches⟩ : ∃ fd, FnP K "matches" "Calls.matches" s_Calls_matches (He.ma K (He.ga K "Calls") "matches") fd := c.def_ 3 (d := d_Calls_matches) rfl
  obtain ⟨fd_is_int, F_is_int⟩ : ∃ fd, FnP K "is_int" "is_int" s_is_int (He.ga K "is_int") fd := c.def_ 4 (d := d_is_int) rfl
  obtain ⟨fd_is_plain, F_is_plain⟩ : ∃ fd, FnP K "is_plain" "is_plain" s_is_plain (He.ga K "is_plain") fd := c.def_ 5 (d := d_is_plain) rfl
  obtain ⟨fd_is_plain_within, F_is_plain_within⟩ : ∃ fd, FnP K "is_plain_within" "is_plain_within" s_is_plain_within (He.ga K "is_plain_within") fd := c.def_ 6 (d := d_is_plain_within) rfl
  obtain ⟨fd_own_label, F_own_label⟩ : ∃ fd, FnP K "own_label" "own_label" s_own_label (He.ga K "own_label") fd := c.def_ 7 (d := d_own_label) rfl
  obtain ⟨fd_joined, F_joined⟩ : ∃ fd, FnP K "joined" "joined" s_joined (He.ga K "joined") fd := c.def_ 8 (d := d_joined) rfl
  obtain ⟨fd_checked, F_checked⟩ : ∃ fd, FnP K "checked" "checked" s_checked (He.ga K "checked") fd := c.def_ 9 (d := d_checked) rfl
  obtain ⟨fd_Both___init, F_Both___init⟩ : ∃ fd, FnP K "__init__" "Both.__init__" s_Both___init (He.ma K (He.ga K "Both") "__init__") fd := c.def_ 10 (d := d_Both___init) rfl
  obtain ⟨fd_Both_own, F_Both_own⟩ : ∃ fd, FnP K "own" "Both.own" s_Both_own (He.ma K (He.ga K "Both") "own") fd := c.def_ 11 (d := d_Both_own) rfl
  obtain ⟨fd_Both_join, F_Both_join⟩ : ∃ fd, FnP K "join" "Both.join" s_Both_join (He.ma K (He.ga K "Both") "join") fd := c.def_ 12 (d := d_Both_join) rfl
  obtain ⟨fd_Both_consistent, F_Both_consistent⟩ : ∃ fd, FnP K "consistent" "Both.consistent" s_Both_consistent (He.ma K (He.ga K "Both") "consistent") fd := c.def_ 13 (d := d_Both_consistent) rfl
  obtain ⟨fd_Both_matches, F_Both_matches⟩ : ∃ fd, FnP K "matches" "Both.matches" s_Both_matches (He.ma K (He.ga K "Both") "matches") fd := c.def_ 14 (d := d_Both_matches) rfl
  obtain ⟨fd_Both_penalty, F_Both_penalty⟩ : ∃ fd, FnP K "penalty" "Both.penalty" s_Both_penalty (He.ma K (He.ga K "Both") "penalty") fd := c.def_ 15 (d := d_Both_penalty) rfl
  obtain ⟨fd_Both_sides, F_Both_sides⟩ : ∃ fd, FnP K "sides" "Both.sides" s_Both_sides (He.ma K (He.ga K "Both") "sides") fd := c.def_ 16 (d := d_Both_sides) rfl
  obtain ⟨fd_Both_distance, F_Both_distance⟩ : ∃ fd, FnP K "distance" "Both.distance" s_Both_distance (He.ma K (He.ga K "Both") "distance") fd := c.def_ 17 (d := d_Both_distance) rfl
  obtain ⟨fd_Both_bound, F_Both_bound⟩ : ∃ fd, FnP K "bound" "Both.bound" s_Both_bound (He.ma K (He.ga K "Both") "bound") fd := c.def_ 18 (d := d_Both_bound) rfl
  obtain ⟨fd_Coarse___init, F_Coarse___init⟩ : ∃ fd, FnP K "__init__" "Coarse.__init__" s_Coarse___init (He.ma K (He.ga K "Coarse") "__init__") fd := c.def_ 19 (d := d_Coarse___init) rfl
  obtain ⟨fd_Coarse_own, F_Coarse_own⟩ : ∃ fd, FnP K "own" "Coarse.own" s_Coarse_own (He.ma K (He.ga K "Coarse") "own") fd := c.def_ 20 (d := d_Coarse_own) rfl
  obtain ⟨fd_Coarse_join, F_Coarse_join⟩ : ∃ fd, FnP K "join" "Coarse.join" s_Coarse_join (He.ma K (He.ga K "Coarse") "join") fd := c.def_ 21 (d := d_Coarse_join) rfl
  obtain ⟨fd_Coarse_consistent, F_Coarse_consistent⟩ : ∃ fd, FnP K "consistent" "Coarse.consistent" s_Coarse_consistent (He.ma K (He.ga K "Coarse") "consistent") fd := c.def_ 22 (d := d_Coarse_consistent) rfl
  obtain ⟨fd_Coarse_matches, F_Coarse_matches⟩ : ∃ fd, FnP K "matches" "Coarse.matches" s_Coarse_matches (He.ma K (He.ga K "Coarse") "matches") fd := c.def_ 23 (d := d_Coarse_matches) rfl
  obtain ⟨fd_Coarse_penalty, F_Coarse_penalty⟩ : ∃ fd, FnP K "penalty" "Coarse.penalty" s_Coarse_penalty (He.ma K (He.ga K "Coarse") "penalty") fd := c.def_ 24 (d := d_Coarse_penalty) rfl
  obtain ⟨fd_Coarse_sides, F_Coarse_sides⟩ : ∃ fd, FnP K "sides" "Coarse.sides" s_Coarse_sides (He.ma K (He.ga K "Coarse") "sides") fd := c.def_ 25 (d := d_Coarse_sides) rfl
  obtain ⟨fd_Coarse_distance, F_Coarse_distance⟩ : ∃ fd, FnP K "distance" "Coarse.distance" s_Coarse_distance (He.ma K (He.ga K "Coarse") "distance") fd := c.def_ 26 (d := d_Coarse_distance) rfl
  obtain ⟨fd_Coarse_bound, F_Coarse_bound⟩ : ∃ fd, FnP K "bound" "Coarse.bound" s_Coarse_bound (He.ma K (He.ga K "Coarse") "bound") fd := c.def_ 27 (d := d_Coarse_bound) rfl
  obtain ⟨fd_distance_by, F_distance_by⟩ : ∃ fd, FnP K "distance_by" "distance_by" s_distance_by (He.ga K "distance_by") fd := c.def_ 28 (d := d_distance_by) rfl
  obtain ⟨fd_bound_by, F_bound_by⟩ : ∃ fd, FnP K "bound_by" "bound_by" s_bound_by (He.ga K "bound_by") fd := c.def_ 29 (d := d_bound_by) rfl
  obtain ⟨fd_Counted___init, F_Counted___init⟩ : ∃ fd, FunD K "__init__" "Counted.__init__" (defArgs s_Counted___init) (defBody s_Counted___init) (defScope s_Counted___init) [(He.Dv.v K (.int 2 : He.Dv))] [] (He.ma K (He.ga K "Counted") "__init__") fd := c.def_ 30 (d := d_Counted___init) rfl
  obtain ⟨fd_Counted___call, F_Counted___call⟩ : ∃ fd, FunD K "__call__" "Counted.__call__" (defArgs s_Counted___call) (defBody s_Counted___call) (defScope s_Counted___call) [(He.Dv.v K (.non : He.Dv))] [] (He.ma K (He.ga K "Counted") "__call__") fd := c.def_ 31 (d := d_Counted___call) rfl
  obtain ⟨fd_halves_by, F_halves_by⟩ : ∃ fd, FnP K "halves_by" "halves_by" s_halves_by (He.ga K "halves_by") fd := c.def_ 32 (d := d_halves_by) rfl
  obtain ⟨fd_Ranges_own, F_Ranges_own⟩ : ∃ fd, FnP K "own" "Ranges.own" s_Ranges_own (He.ma K (He.ga K "Ranges") "own") fd := c.def_ 33 (d := d_Ranges_own) rfl
  obtain ⟨fd_Ranges_join, F_Ranges_join⟩ : ∃ fd, FnP K "join" "Ranges.join" s_Ranges_join (He.ma K (He.ga K "Ranges") "join") fd := c.def_ 34 (d := d_Ranges_join) rfl
  obtain ⟨fd_Ranges_consistent, F_Ranges_consistent⟩ : ∃ fd, FnP K "consistent" "Ranges.consistent" s_Ranges_consistent (He.ma K (He.ga K "Ranges") "consistent") fd := c.def_ 35 (d := d_Ranges_consistent) rfl
  obtain ⟨fd_Ranges_matches, F_Ranges_matches⟩ : ∃ fd, FnP K "matches" "Ranges.matches" s_Ranges_matches (He.ma K (He.ga K "Ranges") "matches") fd := c.def_ 36 (d := d_Ranges_matches) rfl
  obtain ⟨fd_Ranges_penalty, F_Ranges_penalty⟩ : ∃ fd, FnP K "penalty" "Ranges.penalty" s_Ranges_penalty (He.ma K (He.ga K "Ranges") "penalty") fd := c.def_ 37 (d := d_Ranges_penalty) rfl
  obtain ⟨fd_Ranges_sides, F_Ranges_sides⟩ : ∃ fd, FnP K "sides" "Ranges.sides" s_Ranges_sides (He.ma K (He.ga K "Ranges") "sides") fd := c.def_ 38 (d := d_Ranges_sides) rfl
  obtain ⟨fd_Ranges_distance, F_Ranges_distance⟩ : ∃ fd, FnP K "distance" "Ranges.distance" s_Ranges_distance (He.ma K (He.ga K "Ranges") "distance") fd := c.def_ 39 (d := d_Ranges_distance) rfl
  obtain ⟨fd_Ranges_bound, F_Ranges_bound⟩ : ∃ fd, FnP K "bound" "Ranges.bound" s_Ranges_bound (He.ma K (He.ga K "Ranges") "bound") fd := c.def_ 40 (d := d_Ranges_bound) rfl
  obtain ⟨fd_hull, F_hull⟩ : ∃ fd, FnP K "hull" "hull" s_hull (He.ga K "hull") fd := c.def_ 41 (d := d_hull) rfl
  obtain ⟨fd_share_integer, F_share_integer⟩ : ∃ fd, FnP K "share_integer" "share_integer" s_share_integer (He.ga K "share_integer") fd := c.def_ 42 (d := d_share_integer) rfl
  obtain ⟨fd_width_of, F_width_of⟩ : ∃ fd, FnP K "width_of" "width_of" s_width_of (He.ga K "width_of") fd := c.def_ 43 (d := d_width_of) rfl
  obtain ⟨fd_gap, F_gap⟩ : ∃ fd, FnP K "gap" "gap" s_gap (He.ga K "gap") fd := c.def_ 44 (d := d_gap) rfl
  obtain ⟨fd_Rests_own, F_Rests_own⟩ : ∃ fd, FnP K "own" "Rests.own" s_Rests_own (He.ma K (He.ga K "Rests") "own") fd := c.def_ 45 (d := d_Rests_own) rfl
  obtain ⟨fd_Rests_join, F_Rests_join⟩ : ∃ fd, FnP K "join" "Rests.join" s_Rests_join (He.ma K (He.ga K "Rests") "join") fd := c.def_ 46 (d := d_Rests_join) rfl
  obtain ⟨fd_Rests_consistent, F_Rests_consistent⟩ : ∃ fd, FnP K "consistent" "Rests.consistent" s_Rests_consistent (He.ma K (He.ga K "Rests") "consistent") fd := c.def_ 47 (d := d_Rests_consistent) rfl
  obtain ⟨fd_Rests_matches, F_Rests_matches⟩ : ∃ fd, FnP K "matches" "Rests.matches" s_Rests_matches (He.ma K (He.ga K "Rests") "matches") fd := c.def_ 48 (d := d_Rests_matches) rfl
  obtain ⟨fd_Rests_penalty, F_Rests_penalty⟩ : ∃ fd, FnP K "penalty" "Rests.penalty" s_Rests_penalty (He.ma K (He.ga K "Rests") "penalty") fd := c.def_ 49 (d := d_Rests_penalty) rfl
  obtain ⟨fd_Stems_own, F_Stems_own⟩ : ∃ fd, FnP K "own" "Stems.own" s_Stems_own (He.ma K (He.ga K "Stems") "own") fd := c.def_ 50 (d := d_Stems_own) rfl
  obtain ⟨fd_Signs___init, F_Signs___init⟩ : ∃ fd, FunD K "__init__" "Signs.__init__" (defArgs s_Signs___init) (defBody s_Signs___init) (defScope s_Signs___init) [(He.Dv.v K (.int 8 : He.Dv))] [] (He.ma K (He.ga K "Signs") "__init__") fd := c.def_ 51 (d := d_Signs___init) rfl
  obtain ⟨fd_Signs_own, F_Signs_own⟩ : ∃ fd, FnP K "own" "Signs.own" s_Signs_own (He.ma K (He.ga K "Signs") "own") fd := c.def_ 52 (d := d_Signs_own) rfl
  obtain ⟨fd_Signs_join, F_Signs_join⟩ : ∃ fd, FnP K "join" "Signs.join" s_Signs_join (He.ma K (He.ga K "Signs") "join") fd := c.def_ 53 (d := d_Signs_join) rfl
  obtain ⟨fd_Signs_penalty, F_Signs_penalty⟩ : ∃ fd, FnP K "penalty" "Signs.penalty" s_Signs_penalty (He.ma K (He.ga K "Signs") "penalty") fd := c.def_ 54 (d := d_Signs_penalty) rfl
  obtain ⟨fd_common_rest, F_common_rest⟩ : ∃ fd, FnP K "common_rest" "common_rest" s_common_rest (He.ga K "common_rest") fd := c.def_ 55 (d := d_common_rest) rfl
  obtain ⟨fd_common_divisor, F_common_divisor⟩ : ∃ fd, FnP K "common_divisor" "common_divisor" s_common_divisor (He.ga K "common_divisor") fd := c.def_ 56 (d := d_common_divisor) rfl
  obtain ⟨fd_signs_of, F_signs_of⟩ : ∃ fd, FnP K "signs_of" "signs_of" s_signs_of (He.ga K "signs_of") fd := c.def_ 57 (d := d_signs_of) rfl
  obtain ⟨fd_bits_in, F_bits_in⟩ : ∃ fd, FnP K "bits_in" "bits_in" s_bits_in (He.ga K "bits_in") fd := c.def_ 58 (d := d_bits_in) rfl
  obtain ⟨fd_law_well, F_law_well⟩ : ∃ fd, FnP K "_law_well" "_law_well" s_law_well (He.ga K "_law_well") fd := c.def_ 59 (d := d_law_well) rfl
  obtain ⟨fd_law_draw, F_law_draw⟩ : ∃ fd, FnP K "_law_draw" "_law_draw" s_law_draw (He.ga K "_law_draw") fd := c.def_ 60 (d := d_law_draw) rfl
  obtain ⟨fd_law_span, F_law_span⟩ : ∃ fd, FnP K "_law_span" "_law_span" s_law_span (He.ga K "_law_span") fd := c.def_ 61 (d := d_law_span) rfl
  obtain ⟨fd_law_name_of, F_law_name_of⟩ : ∃ fd, FnP K "_law_name_of" "_law_name_of" s_law_name_of (He.ga K "_law_name_of") fd := c.def_ 62 (d := d_law_name_of) rfl
  obtain ⟨fd_law_parts_right, F_law_parts_right⟩ : ∃ fd, FnP K "_law_parts_right" "_law_parts_right" s_law_parts_right (He.ga K "_law_parts_right") fd := c.def_ 63 (d := d_law_parts_right) rfl
  obtain ⟨fd_law_order_right, F_law_order_right⟩ : ∃ fd, FnP K "_law_order_right" "_law_order_right" s_law_order_right (He.ga K "_law_order_right") fd := c.def_ 64 (d := d_law_order_right) rfl
  obtain ⟨fd_law_noted, F_law_noted⟩ : ∃ fd, FnP K "_law_noted" "_law_noted" s_law_noted (He.ga K "_law_noted") fd := c.def_ 65 (d := d_law_noted) rfl
  obtain ⟨fd_law_noting, F_law_noting⟩ : ∃ fd, FnP K "_law_noting" "_law_noting" s_law_noting (He.ga K "_law_noting") fd := c.def_ 66 (d := d_law_noting) rfl
  obtain ⟨fd_law_sums_right, F_law_sums_right⟩ : ∃ fd, FnP K "_law_sums_right" "_law_sums_right" s_law_sums_right (He.ga K "_law_sums_right") fd := c.def_ 67 (d := d_law_sums_right) rfl
  obtain ⟨fd_law_wider, F_law_wider⟩ : ∃ fd, FnP K "_law_wider" "_law_wider" s_law_wider (He.ga K "_law_wider") fd := c.def_ 68 (d := d_law_wider) rfl
  obtain ⟨fd_law_coarse_right, F_law_coarse_right⟩ : ∃ fd, FnP K "_law_coarse_right" "_law_coarse_right" s_law_coarse_right (He.ga K "_law_coarse_right") fd := c.def_ 69 (d := d_law_coarse_right) rfl
  obtain ⟨fd_law, F_law⟩ : ∃ fd, FnP K "law" "law" s_law (He.ga K "law") fd := c.def_ 70 (d := d_law) rfl
  have e := hfa.symm.trans (glo X G c (x := "law") (List.mem_of_getElem? (i := 28) rfl))
  cases e
  have b := FunD.bindsA (ps := ["_law_script"]) F_law fun _ _ _ _ _ _ us hl => match us, hl with | [_], _ => rfl
  refine ⟨fd_law, fun s v => b s [v] rfl, fun base _ _ tb => ?_⟩
  have m_int := fre X G c (List.mem_of_getElem? (i := 91) rfl)
  have m_len := fre X G c (List.mem_of_getElem? (i := 92) rfl)
  have m_range := fre X G c (List.mem_of_getElem? (i := 93) rfl)
  have m_list := fre X G c (List.mem_of_getElem? (i := 94) rfl)
  have m_tuple := fre X G c (List.mem_of_getElem? (i := 95) rfl)
  have m_str := fre X G c (List.mem_of_getElem? (i := 96) rfl)
  have m_bool := fre X G c (List.mem_of_getElem? (i := 97) rfl)
  have m_isinstance := fre X G c (List.mem_of_getElem? (i := 98) rfl)
  have m_abs := fre X G c (List.mem_of_getElem? (i := 99) rfl)
  have m_sum := fre X G c (List.mem_of_getElem? (i := 100) rfl)
  have m_max := fre X G c (List.mem_of_getElem? (i := 101) rfl)
  have m_min := fre X G c (List.mem_of_getElem? (i := 102) rfl)
  have m_sorted := fre X G c (List.mem_of_getElem? (i := 103) rfl)
  have m_N := glo X G c (x := "NotGiven") (List.mem_of_getElem? (i := 89) rfl)
  have m_M := glo X G c (x := "Measured") (List.mem_of_getElem? (i := 90) rfl)
  obtain ⟨td, hD⟩ := He.int_ok X G (c.facts (List.mem_of_getElem? (i := 104) rfl))
  have hM : ∃ t, mg "MOST_BITS" = some (.int 60 t) := He.int_ok X G (c.facts (List.mem_of_getElem? (i := 105) rfl))
  have clB := He.cls_ok (c.facts (List.mem_of_getElem? (i := 30) rfl))
  have clO := He.cls_ok (c.facts (List.mem_of_getElem? (i := 41) rfl))
  have clK := He.cls_ok (c.facts (List.mem_of_getElem? (i := 52) rfl))
  have clN := He.cls_ok (c.facts (List.mem_of_getElem? (i := 60) rfl))
  have clR := He.cls_ok (c.facts (List.mem_of_getElem? (i := 64) rfl))
  have clQ := He.cls_ok (c.facts (List.mem_of_getElem? (i := 74) rfl))
  have clT := He.cls_ok (c.facts (List.mem_of_getElem? (i := 81) rfl))
  have clS := He.cls_ok (c.facts (List.mem_of_getElem? (i := 84) rfl))
  have bc : BC K (He.ga K "Both") := ⟨clB, He.noat_ok (c.facts (List.mem_of_getElem? (i := 111) rfl)), He.noat_ok (c.facts (List.mem_of_getElem? (i := 112) rfl))⟩
  have cc : CC K (He.ga K "Coarse") := ⟨clO, He.noat_ok (c.facts (List.mem_of_getElem? (i := 113) rfl)), He.noat_ok (c.facts (List.mem_of_getElem? (i := 114) rfl))⟩
  have nc : NC K (He.ga K "Counted") := ⟨clN, He.noat_ok (c.facts (List.mem_of_getElem? (i := 115) rfl)), He.noat_ok (c.facts (List.mem_of_getElem? (i := 116) rfl)), He.noat_ok (c.facts (List.mem_of_getElem? (i := 117) rfl))⟩
  have kc : KC K (He.ga K "Calls") := ⟨clK, fun x hx => by
    simp only [kNames, List.mem_cons, List.not_mem_nil, or_false] at hx
    rcases hx with rfl | rfl | rfl | rfl | rfl | rfl | rfl | rfl
    · exact He.noat_ok (c.facts (List.mem_of_getElem? (i := 119) rfl))
    · exact He.noat_ok (c.facts (List.mem_of_getElem? (i := 120) rfl))
    · exact He.noat_ok (c.facts (List.mem_of_getElem? (i := 121) rfl))
    · exact He.noat_ok (c.facts (List.mem_of_getElem? (i := 122) rfl))
    · exact He.noat_ok (c.facts (List.mem_of_getElem? (i := 123) rfl))
    · exact He.noat_ok (c.facts (List.mem_of_getElem? (i := 124) rfl))
    · exact He.noat_ok (c.facts (List.mem_of_getElem? (i := 125) rfl))
    · exact He.noat_ok (c.facts (List.mem_of_getElem? (i := 126) rfl))⟩
  have nbS := He.noat_ok (c.facts (List.mem_of_getElem? (i := 118) rfl))
  have tbH := tb _ (List.mem_map.mpr ⟨("halves_by", none), by decide, rfl⟩)
  have tbP := tb _ (List.mem_map.mpr ⟨("_law_parts_right", none), by decide, rfl⟩)
  have tbO := tb _ (List.mem_map.mpr ⟨("_law_order_right", none), by decide, rfl⟩)
  have tbN := tb _ (List.mem_map.mpr ⟨("_law_noting", none), by decide, rfl⟩)
  have tbW := tb _ (List.mem_map.mpr ⟨("_law_wider", none), by decide, rfl⟩)
  have tbC := tb _ (List.mem_map.mpr ⟨("_law_coarse_right", none), by decide, rfl⟩)
  have tbD := tb _ (List.mem_map.mpr ⟨("_law_noted", none), by decide, rfl⟩)
  have CWl : Cal P w K mg base CX0 "_law_well" 19 ["_law_cell"] spWell := (cal X G c F_law_well (List.mem_of_getElem? (i := 17) rfl) ((ok_well (k := 0) F_law_well m_int).mono (by omega)) fun _ _ _ _ _ _ us hl => match us, hl with | [_], _ => rfl)
  have CDr : Cal P w K mg base CX0 "_law_draw" 1 ["_law_well_here", "_law_many"] spDraw := (cal X G c F_law_draw (List.mem_of_getElem? (i := 18) rfl) (ok_draw F_law_draw m_int) fun _ _ _ _ _ _ us hl => match us, hl with | [_, _], _ => rfl)
  have CSp : Cal P w K mg base CX0 "_law_span" 2 ["_law_well_here"] spSpan := (cal X G c F_law_span (List.mem_of_getElem? (i := 19) rfl) (ok_span F_law_span CDr) fun _ _ _ _ _ _ us hl => match us, hl with | [_], _ => rfl)
  have CIn : Cal P w K mg base CX0 "is_int" 1 ["thing"] (spInt K) := (cal X G c F_is_int (List.mem_of_getElem? (i := 0) rfl) (ok_int F_is_int m_isinstance m_int m_bool) fun _ _ _ _ _ _ us hl => match us, hl with | [_], _ => rfl)
  have CPw : Cal P w K mg base CX0 "is_plain_within" 6 ["thing", "deepest"] (spW K 5) := (cal X G c F_is_plain_within (List.mem_of_getElem? (i := 2) rfl) (ok_within F_is_plain_within m_isinstance m_str m_tuple m_len CIn (F_is_plain_within.bindsN (ps := ["thing", "deepest"]) fun _ _ _ _ _ _ us hl => match us, hl with | [_, _], _ => rfl) (glo X G c (List.mem_of_getElem? (i := 2) rfl)) F_is_plain_within.kp 5) fun _ _ _ _ _ _ us hl => match us, hl with | [_, _], _ => rfl)
  have CPl : Cal P w K mg base CX0 "is_plain" 7 ["thing"] (spPlain K) := (cal X G c F_is_plain (List.mem_of_getElem? (i := 1) rfl) (ok_plain F_is_plain hD CPw) fun _ _ _ _ _ _ us hl => match us, hl with | [_], _ => rfl)
  have CCk : Cal P w K mg base CX0 "checked" 8 ["label"] (spChecked K) := (cal X G c F_checked (List.mem_of_getElem? (i := 5) rfl) (ok_checked F_checked CPl) fun _ _ _ _ _ _ us hl => match us, hl with | [_], _ => rfl)
  have COL : Cal P w K mg base CX0 "own_label" 9 ["kind", "key"] (spOL P w K mg base) := (cal X G c F_own_label (List.mem_of_getElem? (i := 3) rfl) (ok_OL (by omega) F_own_label CCk) fun _ _ _ _ _ _ us hl => match us, hl with | [_, _], _ => rfl)
  have CJL : Cal P w K mg base CX0 "joined" 9 ["kind", "one", "other"] (spJL P w K mg base) := (cal X G c F_joined (List.mem_of_getElem? (i := 4) rfl) (ok_JL (by omega) F_joined CCk) fun _ _ _ _ _ _ us hl => match us, hl with | [_, _, _], _ => rfl)
  -- NotGiven
  have GNG := ok_NG (P := P) (w := w) (mg := mg) (base := base) (k := 0) F_NotGiven___init EB.ox EB.no
  have bNG := F_NotGiven___init.bindsN (ps := ["self", "name"]) fun _ _ _ _ _ _ us hl => match us, hl with | [_, _], _ => rfl
  have ER : Er P w K mg base (He.ga K "NotGiven") (He.ma K (He.ga K "NotGiven") "__init__") fd_NotGiven___init := ⟨m_N, EB.ox, EB.iC, EB.tI, GNG, bNG⟩
  have NF : NgF K mg (He.ga K "NotGiven") := ⟨m_N, EB.xf, EB.no, EB.te⟩
  have bDB := F_distance_by.bindsN (ps := ["kind", "key", "point"]) fun _ _ _ _ _ _ us hl => match us, hl with | [_, _, _], _ => rfl
  have bBB := F_bound_by.bindsN (ps := ["kind", "label", "point"]) fun _ _ _ _ _ _ us hl => match us, hl with | [_, _, _], _ => rfl
  have CDB : Cal P w K mg base (L2.CX P w) "distance_by" 7 ["kind", "key", "point"] (spDB P w K mg base (He.ga K "Measured") (He.ga K "NotGiven") "distance") := ⟨_, _, ok_DB (k := 6) (by omega) F_distance_by m_isinstance m_M ER, bDB, glo X G c (List.mem_of_getElem? (i := 6) rfl), F_distance_by.kp⟩
  have CBB : Cal P w K mg base (L2.CX P w) "bound_by" 7 ["kind", "label", "point"] (spDB P w K mg base (He.ga K "Measured") (He.ga K "NotGiven") "bound") := ⟨_, _, ok_BB (k := 6) (by omega) F_bound_by m_isinstance m_M ER, bBB, glo X G c (List.mem_of_getElem? (i := 7) rfl), F_bound_by.kp⟩
  -- Both
  have MBo : CalM P w K mg base CX0 (He.ga K "Both") "own" 10 ["self", "key"] (spBOwn P w K mg base (He.ga K "Both")) := (calm c F_Both_own (List.mem_of_getElem? (i := 32) rfl) (ok_Bown F_Both_own bc COL) fun _ _ _ _ _ _ us hl => match us, hl with | [_, _], _ => rfl)
  have MBj : CalM P w K mg base CX0 (He.ga K "Both") "join" 10 ["self", "one", "other"] (spBJoin P w K mg base (He.ga K "Both")) := (calm c F_Both_join (List.mem_of_getElem? (i := 33) rfl) (ok_Bjoin F_Both_join bc CJL) fun _ _ _ _ _ _ us hl => match us, hl with | [_, _, _], _ => rfl)
  have MBc : CalM P w K mg base CX0 (He.ga K "Both") "consistent" 7 ["self", "label", "question"] (spBAnd P w K mg base (He.ga K "Both") "consistent") := (calm c F_Both_consistent (List.mem_of_getElem? (i := 34) rfl) (ok_Bcons (k := 6) (by omega) F_Both_consistent bc) fun _ _ _ _ _ _ us hl => match us, hl with | [_, _, _], _ => rfl)
  have MBm : CalM P w K mg base CX0 (He.ga K "Both") "matches" 7 ["self", "key", "question"] (spBAnd P w K mg base (He.ga K "Both") "matches") := (calm c F_Both_matches (List.mem_of_getElem? (i := 35) rfl) (ok_Bmat (k := 6) (by omega) F_Both_matches bc) fun _ _ _ _ _ _ us hl => match us, hl with | [_, _, _], _ => rfl)
  have MBp : CalM P w K mg base CX0 (He.ga K "Both") "penalty" 7 ["self", "label", "key"] (spBPen P w K mg base (He.ga K "Both")) := (calm c F_Both_penalty (List.mem_of_getElem? (i := 36) rfl) (ok_Bpen (k := 6) (by omega) F_Both_penalty bc) fun _ _ _ _ _ _ us hl => match us, hl with | [_, _, _], _ => rfl)
  have MBs : CalM P w K mg base CX0 (He.ga K "Both") "sides" 7 ["self", "labels"] (spBSides P w K mg base (He.ga K "Both")) := (calm c F_Both_sides (List.mem_of_getElem? (i := 37) rfl) (ok_Bsides (k := 6) (by omega) F_Both_sides bc) fun _ _ _ _ _ _ us hl => match us, hl with | [_, _], _ => rfl)
  have MBd : CalM P w K mg base (L2.CX P w) (He.ga K "Both") "distance" 8 ["self", "key", "point"] (spBDist P w K mg base (He.ga K "Both") (He.ga K "Measured") (He.ga K "NotGiven") "distance") := ⟨_, _, ok_Bdist F_Both_distance bc CDB, F_Both_distance.bindsN (fun _ _ _ _ _ _ us hl => match us, hl with | [_, _, _], _ => rfl), He.meth_ok (c.facts (List.mem_of_getElem? (i := 38) rfl))⟩
  have MBb : CalM P w K mg base (L2.CX P w) (He.ga K "Both") "bound" 8 ["self", "label", "point"] (spBDist P w K mg base (He.ga K "Both") (He.ga K "Measured") (He.ga K "NotGiven") "bound") := ⟨_, _, ok_Bbound F_Both_bound bc CBB, F_Both_bound.bindsN (fun _ _ _ _ _ _ us hl => match us, hl with | [_, _, _], _ => rfl), He.meth_ok (c.facts (List.mem_of_getElem? (i := 39) rfl))⟩
  -- Coarse
  have MCo : CalM P w K mg base CX0 (He.ga K "Coarse") "own" 10 ["self", "key"] (spCOwn P w K mg base (He.ga K "Coarse")) := (calm c F_Coarse_own (List.mem_of_getElem? (i := 43) rfl) (ok_Cown (by omega) F_Coarse_own cc COL) fun _ _ _ _ _ _ us hl => match us, hl with | [_, _], _ => rfl)
  have MCj : CalM P w K mg base CX0 (He.ga K "Coarse") "join" 10 ["self", "one", "other"] (spCJoin P w K mg base (He.ga K "Coarse")) := (calm c F_Coarse_join (List.mem_of_getElem? (i := 44) rfl) (ok_Cjoin (by omega) F_Coarse_join cc CJL) fun _ _ _ _ _ _ us hl => match us, hl with | [_, _, _], _ => rfl)
  have MCc : CalM P w K mg base CX0 (He.ga K "Coarse") "consistent" 8 ["self", "label", "question"] (spCAsk P w K mg base (He.ga K "Coarse") "consistent") := (calm c F_Coarse_consistent (List.mem_of_getElem? (i := 45) rfl) (ok_Ccons (k := 7) (by omega) F_Coarse_consistent cc) fun _ _ _ _ _ _ us hl => match us, hl with | [_, _, _], _ => rfl)
  have MCm : CalM P w K mg base CX0 (He.ga K "Coarse") "matches" 8 ["self", "key", "question"] (spCAsk P w K mg base (He.ga K "Coarse") "matches") := (calm c F_Coarse_matches (List.mem_of_getElem? (i := 46) rfl) (ok_Cmat (k := 7) (by omega) F_Coarse_matches cc) fun _ _ _ _ _ _ us hl => match us, hl with | [_, _, _], _ => rfl)
  have MCp : CalM P w K mg base CX0 (He.ga K "Coarse") "penalty" 8 ["self", "label", "key"] (spCAsk P w K mg base (He.ga K "Coarse") "penalty") := (calm c F_Coarse_penalty (List.mem_of_getElem? (i := 47) rfl) (ok_Cpen (k := 7) (by omega) F_Coarse_penalty cc) fun _ _ _ _ _ _ us hl => match us, hl with | [_, _, _], _ => rfl)
  have MCs : CalM P w K mg base CX0 (He.ga K "Coarse") "sides" 8 ["self", "labels"] (spCSides P w K mg base (He.ga K "Coarse")) := (calm c F_Coarse_sides (List.mem_of_getElem? (i := 48) rfl) (ok_Csides (k := 7) (by omega) F_Coarse_sides cc) fun _ _ _ _ _ _ us hl => match us, hl with | [_, _], _ => rfl)
  have MCd : CalM P w K mg base (L2.CX P w) (He.ga K "Coarse") "distance" 8 ["self", "key", "point"] (spCDist P w K mg base (He.ga K "Coarse") (He.ga K "Measured") (He.ga K "NotGiven") "distance") := ⟨_, _, ok_Cdist F_Coarse_distance cc CDB, F_Coarse_distance.bindsN (fun _ _ _ _ _ _ us hl => match us, hl with | [_, _, _], _ => rfl), He.meth_ok (c.facts (List.mem_of_getElem? (i := 49) rfl))⟩
  have MCb : CalM P w K mg base (L2.CX P w) (He.ga K "Coarse") "bound" 8 ["self", "label", "point"] (spCDist P w K mg base (He.ga K "Coarse") (He.ga K "Measured") (He.ga K "NotGiven") "bound") := ⟨_, _, ok_Cbound F_Coarse_bound cc CBB, F_Coarse_bound.bindsN (fun _ _ _ _ _ _ us hl => match us, hl with | [_, _, _], _ => rfl), He.meth_ok (c.facts (List.mem_of_getElem? (i := 50) rfl))⟩
  -- Ranges
  have CHb : Cal P w K mg base CX0 "halves_by" 2 ["marks"] (RG.spHB K) := ⟨_, _, RG.ok_halvesby (k := 1) F_halves_by tbH ds m_sorted m_list m_range m_len, F_halves_by.bindsN (fun _ _ _ _ _ _ us hl => match us, hl with | [_], _ => rfl), glo X G c (List.mem_of_getElem? (i := 8) rfl), F_halves_by.kp⟩
  have CHu : Cal P w K mg base CX0 "hull" 2 ["one", "other"] RG.spHull := (cal X G c F_hull (List.mem_of_getElem? (i := 9) rfl) (RG.ok_hull (k := 1) F_hull m_max m_min) fun _ _ _ _ _ _ us hl => match us, hl with | [_, _], _ => rfl)
  have CSi : Cal P w K mg base CX0 "share_integer" 2 ["one", "other"] RG.spShI := (cal X G c F_share_integer (List.mem_of_getElem? (i := 10) rfl) (RG.ok_shi (k := 1) F_share_integer m_max m_min) fun _ _ _ _ _ _ us hl => match us, hl with | [_, _], _ => rfl)
  have CWi : Cal P w K mg base CX0 "width_of" 2 ["span"] RG.spWid := (cal X G c F_width_of (List.mem_of_getElem? (i := 11) rfl) (RG.ok_width (k := 1) F_width_of) fun _ _ _ _ _ _ us hl => match us, hl with | [_], _ => rfl)
  have CGa : Cal P w K mg base CX0 "gap" 2 ["span", "number"] RG.spGap := (cal X G c F_gap (List.mem_of_getElem? (i := 12) rfl) (RG.ok_gap (k := 1) F_gap m_max) fun _ _ _ _ _ _ us hl => match us, hl with | [_, _], _ => rfl)
  have RK : RangesK P w K mg base (He.ga K "Ranges") := ⟨clR, insKB_ok clR (exi m 2 rfl), (calm c F_Ranges_own (List.mem_of_getElem? (i := 65) rfl) (RG.ok_own (k := 2) F_Ranges_own) fun _ _ _ _ _ _ us hl => match us, hl with | [_, _], _ => rfl), (calm c F_Ranges_join (List.mem_of_getElem? (i := 66) rfl) (RG.ok_join F_Ranges_join CHu) fun _ _ _ _ _ _ us hl => match us, hl with | [_, _, _], _ => rfl), (calm c F_Ranges_consistent (List.mem_of_getElem? (i := 67) rfl) (RG.ok_consistent F_Ranges_consistent CSi) fun _ _ _ _ _ _ us hl => match us, hl with | [_, _, _], _ => rfl), (calm c F_Ranges_matches (List.mem_of_getElem? (i := 68) rfl) (RG.ok_matches (k := 2) F_Ranges_matches) fun _ _ _ _ _ _ us hl => match us, hl with | [_, _, _], _ => rfl),
    (calm c F_Ranges_penalty (List.mem_of_getElem? (i := 69) rfl) (RG.ok_penalty F_Ranges_penalty CHu CWi) fun _ _ _ _ _ _ us hl => match us, hl with | [_, _, _], _ => rfl), (calm c F_Ranges_sides (List.mem_of_getElem? (i := 70) rfl) (RG.ok_sides F_Ranges_sides CHb) fun _ _ _ _ _ _ us hl => match us, hl with | [_, _], _ => rfl), (calm c F_Ranges_distance (List.mem_of_getElem? (i := 71) rfl) (RG.ok_distance (k := 2) F_Ranges_distance m_abs) fun _ _ _ _ _ _ us hl => match us, hl with | [_, _, _], _ => rfl), (calm c F_Ranges_bound (List.mem_of_getElem? (i := 72) rfl) (RG.ok_bound F_Ranges_bound CGa) fun _ _ _ _ _ _ us hl => match us, hl with | [_, _, _], _ => rfl)⟩
  -- Rests
  have CGc : ∀ k, Cal P w K mg base CX0 "common_divisor" (k + 1) ["one", "other"] RS.spGcd := fun k => (cal X G c F_common_divisor (List.mem_of_getElem? (i := 14) rfl) (RS.ok_gcd (k := k) F_common_divisor m_abs) fun _ _ _ _ _ _ us hl => match us, hl with | [_, _], _ => rfl)
  have CRe := (cal X G c F_common_rest (List.mem_of_getElem? (i := 13) rfl) (RS.ok_rest F_common_rest (CGc 1)) fun _ _ _ _ _ _ us hl => match us, hl with | [_, _], _ => rfl)
  have QK : RestsK P w K mg base (He.ga K "Rests") := ⟨clQ, insKB_ok clQ (exi m 3 rfl), (calm c F_Rests_own (List.mem_of_getElem? (i := 75) rfl) (RS.ok_own (k := 3) F_Rests_own) fun _ _ _ _ _ _ us hl => match us, hl with | [_, _], _ => rfl), (calm c F_Rests_join (List.mem_of_getElem? (i := 76) rfl) (RS.ok_join F_Rests_join CRe) fun _ _ _ _ _ _ us hl => match us, hl with | [_, _, _], _ => rfl), (calm c F_Rests_consistent (List.mem_of_getElem? (i := 77) rfl) (RS.ok_consistent F_Rests_consistent (CGc 2)) fun _ _ _ _ _ _ us hl => match us, hl with | [_, _, _], _ => rfl), (calm c F_Rests_matches (List.mem_of_getElem? (i := 78) rfl) (RS.ok_matches (k := 3) F_Rests_matches) fun _ _ _ _ _ _ us hl => match us, hl with | [_, _, _], _ => rfl), (calm c F_Rests_penalty (List.mem_of_getElem? (i := 79) rfl) (RS.ok_penalty F_Rests_penalty CRe) fun _ _ _ _ _ _ us hl => match us, hl with | [_, _, _], _ => rfl)⟩
  -- Signs
  have CSg : Cal P w K mg base CX0 "signs_of" 2 ["numbers", "bits"] (SG.spSigns K) := (cal X G c F_signs_of (List.mem_of_getElem? (i := 15) rfl) (SG.ok_signs (k := 1) F_signs_of) fun _ _ _ _ _ _ us hl => match us, hl with | [_, _], _ => rfl)
  have CBi : Cal P w K mg base CX0 "bits_in" 2 ["number"] (SG.spCount K) := (cal X G c F_bits_in (List.mem_of_getElem? (i := 16) rfl) (SG.ok_count (k := 1) F_bits_in m_sum m_range) fun _ _ _ _ _ _ us hl => match us, hl with | [_], _ => rfl)
  have SK : SignsK P w K mg base (He.ga K "Signs") := ⟨clS, insKB_ok clS (exi m 4 rfl), (calm c F_Signs_own (List.mem_of_getElem? (i := 86) rfl) (SG.ok_own F_Signs_own clS nbS CSg) fun _ _ _ _ _ _ us hl => match us, hl with | [_, _], _ => rfl), (calm c F_Signs_join (List.mem_of_getElem? (i := 87) rfl) (SG.ok_join (k := 2) F_Signs_join) fun _ _ _ _ _ _ us hl => match us, hl with | [_, _, _], _ => rfl), (calm c F_Signs_penalty (List.mem_of_getElem? (i := 88) rfl) (SG.ok_penalty F_Signs_penalty clS nbS CSg CBi) fun _ _ _ _ _ _ us hl => match us, hl with | [_, _, _], _ => rfl)⟩
  -- Calls
  obtain ⟨F0, fd0, Z0, p0, bo0, sc0, _, _⟩ := c0
  obtain ⟨F1, fd1, Z1, p1, bo1, sc1, _, _⟩ := c1
  obtain ⟨F2, fd2, Z2, p2, bo2, sc2, _, _⟩ := c2
  have CK : CallsK P w K mg base (He.ga K "Calls") := ⟨kc, insKB_ok clK (exi m 1 rfl), (calm c F_Calls_consistent (List.mem_of_getElem? (i := 54) rfl) (ok_Kconsistent (k := 3) (by omega) F_Calls_consistent kc) fun _ _ _ _ _ _ us hl => match us, hl with | [_, _, _], _ => rfl), (calm c F_Calls_matches (List.mem_of_getElem? (i := 55) rfl) (ok_Kmatches (k := 3) (by omega) F_Calls_matches kc) fun _ _ _ _ _ _ us hl => match us, hl with | [_, _, _], _ => rfl),
    ⟨_, _, ok_Kpenalty (k := 3) (by omega) Z0 bo0 sc0 kc, Z0.bindsN p0 (fun _ _ _ _ _ _ _ _ _ us hl => match us, hl with | [_, _, _], _ => rfl), He.meth_ok (c.facts (List.mem_of_getElem? (i := 56) rfl))⟩, ⟨_, _, ok_Kdistance (k := 3) (by omega) Z1 bo1 sc1 kc, Z1.bindsN p1 (fun _ _ _ _ _ _ _ _ _ us hl => match us, hl with | [_, _, _], _ => rfl), He.meth_ok (c.facts (List.mem_of_getElem? (i := 57) rfl))⟩, ⟨_, _, ok_Kbound (k := 3) (by omega) Z2 bo2 sc2 kc, Z2.bindsN p2 (fun _ _ _ _ _ _ _ _ _ us hl => match us, hl with | [_, _, _], _ => rfl), He.meth_ok (c.facts (List.mem_of_getElem? (i := 58) rfl))⟩⟩
  -- makers
  have M_R := mkoB_ok (exi m 15 rfl)
  have M_Q := mkoB_ok (exi m 16 rfl)
  have M_T := mkoB_ok (exi m 17 rfl)
  have hkM : ∀ {x y : Str} {b : Bool}, kitB K x y b = true → PySem.W.kitOne K (.ref (He.ga K x)) (.ref (He.ga K y)) = some b := fun h => of_decide_eq_true h
  have kKM := hkM (exi m 5 rfl)
  have kRM := hkM (exi m 6 rfl)
  have kQM := hkM (exi m 7 rfl)
  have kSM := hkM (exi m 8 rfl)
  have MKB : MakeM P w K mg base "Both" (He.ga K "Both") (He.ma K (He.ga K "Both") "__init__") fd_Both___init ["self", "one", "other"] (spBInit (He.ga K "Both")) := ⟨He.mkr_ok (c.facts (List.mem_of_getElem? (i := 106) rfl)), ok_Binit (k := 1) F_Both___init bc, glo X G c (x := "Both") (List.mem_of_getElem? (i := 29) rfl), F_Both___init.bindsN fun _ _ _ _ _ _ us hl => match us, hl with | [_, _, _], _ => rfl⟩
  have MKO : MakeM P w K mg base "Coarse" (He.ga K "Coarse") (He.ma K (He.ga K "Coarse") "__init__") fd_Coarse___init ["self", "kind", "squeeze"] (spCInit (He.ga K "Coarse")) := ⟨He.mkr_ok (c.facts (List.mem_of_getElem? (i := 107) rfl)), ok_Cinit (k := 1) F_Coarse___init cc, glo X G c (x := "Coarse") (List.mem_of_getElem? (i := 40) rfl), F_Coarse___init.bindsN fun _ _ _ _ _ _ us hl => match us, hl with | [_, _, _], _ => rfl⟩
  have CWd : Cal P w K mg base CX0 "_law_wider" 1 ["_law_step"] (spWider K) := ⟨_, _, ok_wider (k := 0) F_law_wider tbW ds, F_law_wider.bindsN (fun _ _ _ _ _ _ us hl => match us, hl with | [_], _ => rfl), glo X G c (List.mem_of_getElem? (i := 26) rfl), F_law_wider.kp⟩
  have CNd : Cal P w K mg base CX0 "_law_noted" 1 ["_law_notes", "_law_word", "_law_number"] (spNoted K) := ⟨_, _, ok_noted (k := 0) F_law_noted tbD ds, F_law_noted.bindsN (fun _ _ _ _ _ _ us hl => match us, hl with | [_, _, _], _ => rfl), glo X G c (List.mem_of_getElem? (i := 23) rfl), F_law_noted.kp⟩
  have RN : Tells K mg "_law_name_of" "_law_ask_here" s_law_name_of := tells_of F_law_name_of (glo X G c (List.mem_of_getElem? (i := 20) rfl)) (F_law_name_of.bindsN fun _ _ _ _ _ _ us hl => match us, hl with | [_], _ => rfl)
  have hPH : PH P w K mg base (He.ga K "Both") (He.ga K "Ranges") (He.ga K "Rests") (He.ga K "Measured") (He.ga K "NotGiven") := ⟨tbP, ds, m_list, m_abs, RN, NF, RK, QK, kRM, kQM, neB_ok (exi m 13 rfl), neB_ok (exi m 14 rfl), CDr, CSp, clB, MBo, MBj, MBc, MBm, MBp, MBs, MBd, MBb⟩
  have prN := PR.propB_ok (P := P) (w := w) (mg := mg) (base := base) (CX := CX0) (exi m 11 rfl) clN nc.n3
  have pr1 := PR.propB_ok (P := P) (w := w) (mg := mg) (base := base) (CX := CX0) (exi m 9 rfl) clB bc.n1
  have pr2 := PR.propB_ok (P := P) (w := w) (mg := mg) (base := base) (CX := CX0) (exi m 10 rfl) clB bc.n2
  -- keywords
  have kbB := OP.kbn_all (K := K) (ps := ["self", "one", "other"]) (ks := ["one", "other"]) F_Both___init 1 (fun us ws => us ++ ws) (fun r1 r2 => r1.append r2) (fun _ _ _ _ _ _ us ws h1 h2 => match us, ws, h1, h2 with | [_], [_, _], _, _ => rfl)
  have kbO := OP.kbn_all (K := K) (ps := ["self", "kind", "squeeze"]) (ks := ["kind", "squeeze"]) F_Coarse___init 1 (fun us ws => us ++ ws) (fun r1 r2 => r1.append r2) (fun _ _ _ _ _ _ us ws h1 h2 => match us, ws, h1, h2 with | [_], [_, _], _, _ => rfl)
  obtain ⟨mv7, kb7⟩ := FunD.kbinds0 (ps := ["self", "own", "join", "consistent", "matches", "penalty", "sides", "distance", "bound"]) F_Calls___init 1 ["own", "join", "consistent", "matches", "penalty", "distance", "bound"] [(("sides" : Str), V.non)]
    (fun us mv ws => us ++ ws.take 5 ++ mv ++ ws.drop 5) (by simp) (fun q hq => by rw [List.mem_singleton.mp hq]; exact .tail _ (.head _)) (fun r1 r2 r3 => ((r1.append (r3.take 5)).append r2).append (r3.drop 5)) (by
    intro D doc pm an cdv ct us mv ws h1 h2 h3
    match us, mv, ws, h1, h2, h3 with
    | [_], [_], [_, _, _, _, _, _, _], _, _, _ => exact ⟨_, _, _, _, _, _, rfl, rfl, rfl⟩)
  obtain ⟨mv4, kb4⟩ := FunD.kbinds0 (ps := ["self", "own", "join", "consistent", "matches", "penalty", "sides", "distance", "bound"]) F_Calls___init 1 ["own", "join", "consistent", "matches"] [(("penalty" : Str), V.non), (("sides" : Str), V.non), (("distance" : Str), V.non), (("bound" : Str), V.non)]
    (fun us mv ws => us ++ ws ++ mv) (by simp) (fun q hq => hq) (fun r1 r2 r3 => (r1.append r3).append r2) (by
    intro D doc pm an cdv ct us mv ws h1 h2 h3
    match us, mv, ws, h1, h2, h3 with
    | [_], [_, _, _, _], [_, _, _, _], _, _, _ => exact ⟨_, _, _, _, _, _, rfl, rfl, _, _, _, _, _, _, rfl, rfl, _, _, _, _, _, _, rfl, rfl, _, _, _, _, _, _, rfl, rfl, rfl⟩)
  have MK7 : MakeC P w K mg base (He.ga K "Calls") (He.ma K (He.ga K "Calls") "__init__") fd_Calls___init ["own", "join", "consistent", "matches", "penalty", "distance", "bound"] _ g7 := ⟨He.mkr_ok (c.facts (List.mem_of_getElem? (i := 108) rfl)), ok_Kinit (k := 0) F_Calls___init kc, glo X G c (x := "Calls") (List.mem_of_getElem? (i := 51) rfl), kb7⟩
  have MK4 : MakeC P w K mg base (He.ga K "Calls") (He.ma K (He.ga K "Calls") "__init__") fd_Calls___init ["own", "join", "consistent", "matches"] _ g4 := ⟨He.mkr_ok (c.facts (List.mem_of_getElem? (i := 108) rfl)), ok_Kinit (k := 0) F_Calls___init kc, glo X G c (x := "Calls") (List.mem_of_getElem? (i := 51) rfl), kb4⟩
  obtain ⟨dsN, rN, bN⟩ := FunD.binds1 (ps := ["self", "function", "arguments"]) F_Counted___init 2 0 (by simp) (by simp) (by
    intro T kV doc pm an cdv ct us its h1 h2
    match us, its, h1, h2 with
    | [_, _], [_], _, _ => exact ⟨_, rfl, rfl⟩)
  obtain ⟨dv, rfl⟩ : ∃ dv, dsN = [dv] := by
    match dsN, rN with
    | [dv], _ => exact ⟨dv, rfl⟩
  obtain ⟨ds0, r0, b0⟩ := FunD.binds1 (ps := ["self", "one", "other"]) F_Counted___call 3 1 (by simp) (by simp) (by
    intro T kV doc pm an cdv ct us its h1 h2
    match us, its, h1, h2 with
    | [_, _, _], [_], _, _ => exact ⟨_, rfl, rfl⟩)
  cases r0
  have MKN : MakeN P w K mg base (He.ga K "Counted") (He.ma K (He.ga K "Counted") "__init__") fd_Counted___init dv := ⟨He.mkr_ok (c.facts (List.mem_of_getElem? (i := 109) rfl)), ok_Ninit (k := 1) F_Counted___init nc CIn, glo X G c (x := "Counted") (List.mem_of_getElem? (i := 59) rfl), bN, rN⟩
  obtain ⟨ds9, r9, b9⟩ := FunD.binds1 (ps := ["self", "width"]) F_Signs___init 2 1 (by simp) (by simp) (by
    intro T kV doc pm an cdv ct us its h1 h2
    match us, its, h1, h2 with
    | [_, _], [_], _, _ => exact ⟨_, rfl, rfl⟩)
  cases r9
  have MKS : MakeM P w K mg base "Signs" (He.ga K "Signs") (He.ma K (He.ga K "Signs") "__init__") fd_Signs___init ["self", "width"] (SG.spMake (He.ga K "Signs")) := ⟨He.mkr_ok (c.facts (List.mem_of_getElem? (i := 110) rfl)), SG.ok_make F_Signs___init clS nbS hM CIn, glo X G c (x := "Signs") (List.mem_of_getElem? (i := 83) rfl), b9⟩
  have CK4 : CountK P w K mg base (He.ga K "Counted") (He.ma K (He.ga K "Counted") "__call__") := ⟨nc, ownB_call (exi m 12 rfl), raw0 (ok_Ncall (k := 1) (by omega) F_Counted___call nc) b0⟩
  have CNo : Cal P w K mg base CX0 "_law_noting" 3 ["_law_notes", "_law_word", "_law_number"] (spNoting K (He.ga K "Calls")) := ⟨_, _, ok_noting (k := 0) F_law_noting tbN ds MK7 CNd, F_law_noting.bindsN (fun _ _ _ _ _ _ us hl => match us, hl with | [_, _, _], _ => rfl), glo X G c (List.mem_of_getElem? (i := 24) rfl), F_law_noting.kp⟩
  have CSu : Cal P w K mg base CX0 "_law_sums_right" 19 ["_law_well_here"] (spRight K) := ⟨_, _, ok_sums (k := 10) (pk1 := []) (pk2 := []) (pk3 := []) F_law_sums_right CK kKM CDr MKB clB CNo MBp MBd MBb, F_law_sums_right.bindsN (fun _ _ _ _ _ _ us hl => match us, hl with | [_], _ => rfl), glo X G c (List.mem_of_getElem? (i := 25) rfl), F_law_sums_right.kp⟩
  have CCo : Cal P w K mg base CX0 "_law_coarse_right" 19 ["_law_well_here"] (spRight K) := ⟨_, _, ok_coarse (k := 8) F_law_coarse_right tbC ds m_list m_abs RN NF RK SK clT (calm c F_Stems_own (List.mem_of_getElem? (i := 82) rfl) (ST.ok_own (k := 2) F_Stems_own) fun _ _ _ _ _ _ us hl => match us, hl with | [_, _], _ => rfl) kRM kSM CDr CSp CWd M_R (glo X G c (x := "Ranges") (List.mem_of_getElem? (i := 63) rfl)) M_T (glo X G c (x := "Stems") (List.mem_of_getElem? (i := 80) rfl)) MKO kbO MKS clO MCo MCj MCc MCm MCp MCs MCd MCb, F_law_coarse_right.bindsN (fun _ _ _ _ _ _ us hl => match us, hl with | [_], _ => rfl), glo X G c (List.mem_of_getElem? (i := 27) rfl), F_law_coarse_right.kp⟩
  have CPa : Cal P w K mg base CX0 "_law_parts_right" 19 ["_law_well_here"] (spRight K) := ⟨_, _, ok_parts (k := 8) F_law_parts_right hPH M_R (glo X G c (x := "Ranges") (List.mem_of_getElem? (i := 63) rfl)) M_Q (glo X G c (x := "Rests") (List.mem_of_getElem? (i := 73) rfl)) MKB kbB pr1 pr2, F_law_parts_right.bindsN (fun _ _ _ _ _ _ us hl => match us, hl with | [_], _ => rfl), glo X G c (List.mem_of_getElem? (i := 21) rfl), F_law_parts_right.kp⟩
  have COr : Cal P w K mg base CX0 "_law_order_right" 19 ["_law_well_here"] (spRight K) := ⟨_, _, ok_order (k := 8) F_law_order_right tbO ds m_range m_int CK CK4 CDr MKB MK4 MKN clN clB prN MBc MBm, F_law_order_right.bindsN (fun _ _ _ _ _ _ us hl => match us, hl with | [_], _ => rfl), glo X G c (List.mem_of_getElem? (i := 22) rfl), F_law_order_right.kp⟩
  exact GD.FnG.of (ok_law (k := 19) F_law m_range CWl CPa COr CCo CSu)
end
end K16
open PySem PySem.W PySem.Calls PyProof.Rows
set_option maxRecDepth 100000 in
set_option maxHeartbeats 0 in
theorem PySem.Challenge.cw_kindgrove_k16_both_and_coarse_holds : PySem.Challenge.rw_kindgrove_k16_both_and_coarse.Holds := by
  w_on; o_law
  refine HandSHeadRun.head_any (r := OpenLaw.row PySem.Challenge.rw_kindgrove_k16_both_and_coarse) (q := view (OpenLaw.row PySem.Challenge.rw_kindgrove_k16_both_and_coarse).prog [56]) (H := K16.hk) (ob := K16.ob) (M := 8000) (loose := K16.loose) (d := HandSHeadRun.topDef (OpenLaw.row PySem.Challenge.rw_kindgrove_k16_both_and_coarse).prog 56) (kwd := []) K16.ob_eq
    (by kernel_rfl) (fun s => by kernel_rfl) K16.run (by kernel_rfl) (by kernel_rfl) (by kernel_rfl) (by rfl) (by first | assumption | decide +kernel) (by decide +kernel) ⟨rfl, rfl, rfl, rfl, rfl, by decide +kernel⟩ ?hw ?hc
  case hw => w_witness2
  case hc =>
    refine GD.walk_G (l := PySem.Challenge.rw_kindgrove_k16_both_and_coarse) (n := 63) (k := 20) (x := "_law_script") (CX := fun _ => L2.CX0) rfl (by decide) (by kernel_rfl) ⟨rfl, by decide, by decide⟩ ?F (fun _ _ _ _ _ z => z)
    intro w mg fa h Y G hmg0
    obtain ⟨K, KX, c⟩ := Y
    have hmg : mg ("law" : PySem.Str) = some (.ref fa) := by
      have e : (HandSHeadRun.topDef (OpenLaw.row PySem.Challenge.rw_kindgrove_k16_both_and_coarse).prog 56).name = ("law" : PySem.Str) := by kernel_rfl
      rw [← e]
      exact hmg0
    obtain ⟨fd, hb, hF⟩ := K16.facts (P := (PySem.Challenge.rw_kindgrove_k16_both_and_coarse).prog) (w := w) KX G hmg c.z.x.t.d c.z.x.more (c.cls_ 0 (d := ⟨"Calls", "penalty", "Calls.penalty", K16.s_Calls_penalty⟩)) (c.cls_ 1 (d := ⟨"Calls", "distance", "Calls.distance", K16.s_Calls_distance⟩)) (c.cls_ 2 (d := ⟨"Calls", "bound", "Calls.bound", K16.s_Calls_bound⟩))
    refine ⟨K, KX, fd, K16.tf.map (He.cT K), K16.spLaw K, fun p hp => ?_, hb, fun H a ns hl hTb hS => ⟨a, ns, rfl, hS, hl, K16.tabs_of hTb, fun _ => rfl⟩, hF⟩
    obtain ⟨p0, hp0, rfl⟩ := List.mem_map.mp hp
    exact ⟨c.z.x.empty p0 hp0, c.z.x.out p0 hp0, PySem.W.codeHd_of_K KX (c.z.x.hd p0 hp0)⟩
