import PyProof.Rows.All
import Wide.All
import OpenK.AllK
import Wide.FinOn
import HandS.ForMost
import HandS.HeadHook4
import HandS.Zip
import HandS.Defaults
import HandS.Wide
import HandS.IsInst
import HandS.NoneIn
import HandS.Style
import HandS.DeepEq
import HandS.Evl
import PyProof.NeKinds
import HandS.TupMul
import PyProof.StrBlock2
import KE.SortKeyHeap
import KE.SortData
import HandS.Lambda
import HandS.EndTab
import HandS.HeadWalk
import HandS.SortKw
import HandS.DictComp
import HandS.Conv
import PyProof.MaxThree
import HandS.Text
import KE.LtData
import PyProof.ReprRoads
import PyProof.ReprReads
import KE.DatumIndex
import HandS.ExcField
import HandS.ExcInit
import HandS.Property
import HandS.MakeKw
import HandS.ExcOwn
import HandS.MakeKwOnly
import HandS.Nested
import HandS.ClsMeth
import HandS.Star
import KE.KSuper
import HandS.WideBits
import KE.KRevSl
import KE.KDictKeyed
import KE.KeyNested
import PyProof.DictMoreH
import HandS.TupLen
import HandS.Small
import KE.KDictCopyH
import KE.KEqDict
import KE.DataEq
import PyProof.DictFindH
import HandS.SlotsOwn
import KE.KOpsOwn
import HandS.Walk
import HandS.TupAny
import HandS.Head0
import HandS.Head1
import HandS.Head2
import HandS.HeadEnd
import PySem.Challenge.RW_kindgrove_k06_equal_grids
set_option Elab.async false
set_option linter.all false
set_option maxRecDepth 100000
set_option maxHeartbeats 4000000
namespace CM
open PySem PySem.Spec PyProof.Rows L2
/-- a def of the text, by the module's name of it -/
structure Cal (P : Program) (w : World) (K : PySem.W.Frag) (mg : Str → Option Value) (base : Heap) (CX : CXT) (x : Str) (k : Nat) (ps : List Str) (sp : Sp) : Prop where
  ex : ∃ (f : Addr) (fd : FuncData), FnOk P w K mg base CX k f fd ps sp ∧ Binds K fd ps [] ∧ mg x = some (.ref f) ∧ PySem.W.keepIn K (.ref f) = true
/-- a method of the class at C -/
structure CalM (P : Program) (w : World) (K : PySem.W.Frag) (mg : Str → Option Value) (base : Heap) (CX : CXT) (C : Addr) (x : Str) (k : Nat) (ps : List Str) (sp : Sp) : Prop where
  ex : ∃ (f : Addr) (fd : FuncData), FnOk P w K mg base CX k f fd ps sp ∧ Binds K fd ps [] ∧ Meth K C x f
/-- a value that is equal to itself at once -/
def okV (v : V) : Prop := flatB v = true ∨ ∃ a, v = .ref a
theorem okV_ref (a : Addr) : okV (.ref a) := .inr ⟨a, rfl⟩
theorem okV_int (i : Int) : okV (.int i) := .inl rfl
theorem eqAt_ok {A : Around} {s : Shared} {v : V} {u u' : Value} (h : okV v) (r : RelV v u) (r' : RelV v u') : SeqAt.EqAt A s u u' true := by
  rcases h with f | ⟨a, rfl⟩
  · exact eqAt_same r r' f
  · cases (show u = Value.ref a from r)
    cases (show u' = Value.ref a from r')
    exact SeqAt.EqAt.same _
theorem vals_eqAt {A : Around} {s : Shared} : ∀ {xs : List V} {us ws : List Value}, (∀ v ∈ xs, okV v) → Vals xs us → Vals xs ws → ∀ j (h1 : j < us.length) (h2 : j < ws.length), SeqAt.EqAt A s us[j] ws[j] true
  | [], _, _, _, r1, _, j, h1, _ => by
    cases r1
    exact absurd h1 (Nat.not_lt_zero j)
  | v :: xs, _, _, ok, .cons a1 b1, .cons a2 b2, 0, _, _ => eqAt_ok (ok v (List.mem_cons_self ..)) a1 a2
  | v :: xs, _, _, ok, .cons a1 b1, .cons a2 b2, j + 1, h1, h2 => vals_eqAt (fun z hz => ok z (List.mem_cons_of_mem _ hz)) b1 b2 j (Nat.lt_of_succ_lt_succ h1) (Nat.lt_of_succ_lt_succ h2)
/-! ### what stays -/
theorem same_upd {H : Hp} {p : Addr} {o : HO} (h : H p = none) : Same H (upd H p o) := fun b x e => by
  rw [upd_ne (ne_of_none e h)]
  exact e
theorem same_put {A H : Hp} {p : Addr} {o : HO} (s : Same A H) (h : A p = none) : Same A (upd H p o) := fun b u e => by
  rw [upd_ne (ne_of_none e h)]
  exact s b u e
/-- all but the thing at a stays -/
def Kp (a : Addr) (H H' : Hp) : Prop := ∀ b o, b ≠ a → H b = some o → H' b = some o
theorem Kp.trans {a : Addr} {H H1 H2 : Hp} (x : Kp a H H1) (y : Kp a H1 H2) : Kp a H H2 := fun b o n e => y b o n (x b o n e)
theorem Kp.same {a : Addr} {H H1 : Hp} (s : Same H H1) : Kp a H H1 := fun b o _ e => s b o e
theorem Kp.set {a : Addr} {H : Hp} {o : HO} : Kp a H (upd H a o) := fun b u n e => by
  rw [upd_ne n]
  exact e
theorem Kp.ne {a p : Addr} {H : Hp} {o : HO} (h : H a = some o) (hp : H p = none) : p ≠ a := fun z => by
  rw [z, h] at hp
  cases hp
theorem max_if (i j : Int) : (if j > i then j else i) = max i j := by
  rw [Int.max_def]
  split <;> split <;> omega
theorem min_if (i j : Int) : (if j < i then j else i) = min i j := by
  rw [Int.min_def]
  split <;> split <;> omega
def Tup2 (H : Hp) (p : Addr) (lo hi : Int) : Prop := H p = some (.tup [.int lo, .int hi])
section
variable {X : Cx}
theorem pe_gref {x : Str} {C : Addr} {pos : Pos} (hg : Gl X x) (hm : X.mg x = some (.ref C)) (hdb : (x == ("__debug__" : Str)) = false := by decide) : PE X (.Name x pos) (tC (.ref C)) := pe_glob (v := .ref C) hg hm rfl hdb
/-- a != b of two lists of the very same items -/
def rNeS (K : PySem.W.Frag) : R2 := fun x y H Q => ∃ (a b : Addr) (xs : List V), x = .ref a ∧ y = .ref b ∧ SqL K H a xs ∧ SqL K H b xs ∧ (∀ v ∈ xs, okV v) ∧ Q (.bl false) H
theorem op_neS (hu : X.A.units + 64 < cLine) : OpR X (compareOp .NotEq) (rNeS X.K) := by
  intro pns s σ H x y v u Q I rx ry h
  obtain ⟨a, b, xs, rfl, rfl, ha, hb, ok, q⟩ := h
  cases (show v = Value.ref a from rx)
  cases (show u = Value.ref b from ry)
  obtain ⟨us, r1, p1, _⟩ := I.list ha
  obtain ⟨ws, r2, p2, _⟩ := I.list hb
  have hz : us.toArray.size = ws.toArray.size := by
    rw [List.size_toArray, List.size_toArray, ← r1.length, ← r2.length]
  refine SeqAt.RcNeAt.lists (e := fun _ => true) p1.isList p2.isList hz (by omega) (fun j h1 h2 => ?_) X.prog X.w X.xe _ ?_
  · have z := vals_eqAt (A := X.A.in1) (s := s) ok r1 r2 j (by simpa using h1) (by simpa using h2)
    simpa using z
  · rw [show ((List.range us.toArray.size).all fun _ => true) = true from List.all_eq_true.mpr fun _ _ => rfl]
    exact ⟨.bl false, H, I, rfl, q⟩
/-- a == (), a a tuple -/
def rEqNil (K : PySem.W.Frag) : R2 := fun x y H Q => ∃ (a b : Addr) (xs : List V), x = .ref a ∧ y = .ref b ∧ SqT K H a xs ∧ SqT K H b [] ∧ Q (.bl xs.isEmpty) H
theorem op_eqNil (hu : X.A.units + 64 < cLine) : OpR X (compareOp .Eq) (rEqNil X.K) := by
  intro pns s σ H x y v u Q I rx ry h
  obtain ⟨a, b, xs, rfl, rfl, ha, hb, q⟩ := h
  cases (show v = Value.ref a from rx)
  cases (show u = Value.ref b from ry)
  obtain ⟨us, r1, p1, _⟩ := I.tuple ha
  obtain ⟨ws, r2, p2, _⟩ := I.tuple hb
  cases r2
  refine SeqAt.eq_tupleAt (e := fun _ => true) p1 p2 (by omega) (fun j h1 h2 => absurd h2 (by simp)) ?_
  have e : ((List.range (min us.toArray.size (#[] : Array Value).size)).all (fun _ => true) && us.toArray.size == (#[] : Array Value).size) = xs.isEmpty := by
    rw [List.size_toArray, ← r1.length]
    cases xs <;> simp
  exact ⟨.bl _, H, I, rfl, by rw [e]; exact q⟩
def rStrMul : R2 := fun x y H Q => ∃ (z : Str) (n : Int), x = .str z ∧ y = .int n ∧ MulOk z n ∧ Q (.str (Txt.mul z n)) H
theorem op_strmul : OpR X (binaryOp .Mult) rStrMul := by
  intro pns s σ H x y v u Q I rx ry h
  obtain ⟨z, n, rfl, rfl, ok, q⟩ := h
  obtain ⟨t1, rfl⟩ := rx
  obtain ⟨t2, rfl⟩ := ry
  exact SB.mul ok fun t' k => ⟨.str _, H, I.tok k, ⟨t', rfl⟩, q⟩
/-- a tuple taken many times -/
def rRepM (K : PySem.W.Frag) : R2 := fun x y H Q => ∃ l k xs, x = .ref l ∧ y = .int k ∧ SqT K H l xs ∧ xs ≠ [] ∧ 2 ≤ k ∧ (xs.length : Int) * k ≤ 1000000 ∧ ∀ p, H p = none → Q (.ref p) (upd H p (.tup (List.replicate k.toNat xs).flatten))
theorem op_repM : OpR X (binaryOp .Mult) (rRepM X.K) := by
  intro pns s σ H x y v u Q I rx ry h
  obtain ⟨l, k, xs, rfl, rfl, hT, hne, hlo, hz, q⟩ := h
  cases (show v = Value.ref l from rx)
  obtain ⟨t, rfl⟩ := ry
  obtain ⟨us, r, ⟨⟨cl, di, da, slo⟩, ho, hc, n, hd⟩, hs⟩ := I.tuple hT
  dsimp only at hc hd
  subst hc
  subst hd
  have hle : us.length = xs.length := r.length.symm
  have h0 : us.toArray.isEmpty = false := by
    cases us with
    | nil =>
      cases xs with
      | nil => exact absurd rfl hne
      | cons => cases hle
    | cons _ _ => rfl
  have hsz : us.toArray.size = xs.length := by rw [List.size_toArray, hle]
  have pos : 1 ≤ xs.length := by
    cases xs with
    | nil => exact absurd rfl hne
    | cons => rw [List.length_cons]; omega
  have hk : k ≤ 1000000 := by
    have a1 : (1 : Int) * k ≤ (xs.length : Int) * k := Int.mul_le_mul_of_nonneg_right (by omega) (by omega)
    omega
  have hm : ((us.toArray.size : Nat) : Int) * k ≤ 1000000 := by rw [hsz]; exact hz
  have hflat : (List.replicate k.toNat us).flatten.length ≤ sizeLine := by
    rw [lm_len_rep_flat, hle, sizeLine_eq]
    have a2 : ((k.toNat * xs.length : Nat) : Int) = (xs.length : Int) * k := by
      rw [Int.natCast_mul, Int.toNat_of_nonneg (by omega), Int.mul_comm]
    omega
  have c0 : (decide (k < -(2 ^ 63)) || decide (k ≥ 2 ^ 63)) = false := by
    simp only [Bool.or_eq_false_iff, decide_eq_false_iff_not]
    omega
  have c1 : (us.toArray.isEmpty || k == 1) = false := by
    rw [h0, Bool.false_or, beq_eq_false_iff_ne]
    omega
  have c2 : (decide (k ≤ 0) || us.toArray.isEmpty) = false := by
    rw [h0, Bool.or_false, decide_eq_false_iff_not]
    omega
  have c4 : Builtin.Tuple.tupleTooMany (((us.toArray.size : Nat) : Int) * k) = false := by
    unfold Builtin.Tuple.tupleTooMany
    rw [sizeLine_eq, decide_eq_false_iff_not]
    omega
  have big : (List.foldl (fun x1 x2 => x1 ++ x2) #[] (List.replicate k.toNat us.toArray)).size ≤ sizeLine := by
    rw [size_rep, List.size_toArray]
    exact hflat
  have inner := tuple_mulW l us.toArray n di slo k t c0 c1 c2 (by omega) c4 big
  have outer := int_rmul_tuple k t l us.toArray n di slo
  refine wpAny_binaryOp_repeat_ref (T := "tuple") (U := "int") (by decide) ⟨_, ho, rfl⟩ (fun s1 => typeIs_int s1 k t) noFill_tuple_mul F.fills_int_mul F.slot_int_rmul repeat_tuple F.slot_int_index.lookup ?_
  refine call_meets F.slot_int_rmul (typeIs_int s k t) F.entry_int_rmul (F.args_int_rmul_2 _ _) outer ⟨ho, rfl, ⟨_, ho, rfl⟩, ?_⟩
  refine call_meets F.slot_tuple_mul ⟨_, ho, rfl⟩ F.entry_tuple_mul (F.args_tuple_mul_2 _ _) inner ⟨ho, ?_⟩
  rw [size_rep]
  have hnew : H s.heap.objs.size = none := I.hok.fresh (Nat.le_refl _)
  have hfl2 : (List.replicate k.toNat xs).flatten.length ≤ sizeLine := by
    have z := (r.rep k.toNat).length
    rw [z]
    exact hflat
  exact ⟨.ref s.heap.objs.size, _, I.laid (t' := s.toks) (o := .tup (List.replicate k.toNat xs).flatten) (fun b ob z => Heap.get?_push_of_some _ z) (Nat.le_refl _) ⟨hfl2, _, r.rep k.toNat, IsTup.new _ _⟩, rfl, q _ hnew⟩
/-- a != b of two tuples of the very same items -/
def rNeST (K : PySem.W.Frag) : R2 := fun x y H Q => ∃ (a b : Addr) (xs : List V), x = .ref a ∧ y = .ref b ∧ SqT K H a xs ∧ SqT K H b xs ∧ (∀ v ∈ xs, okV v) ∧ Q (.bl false) H
theorem op_neST (hu : X.A.units + 64 < cLine) : OpR X (compareOp .NotEq) (rNeST X.K) := by
  intro pns s σ H x y v u Q I rx ry h
  obtain ⟨a, b, xs, rfl, rfl, ha, hb, ok, q⟩ := h
  cases (show v = Value.ref a from rx)
  cases (show u = Value.ref b from ry)
  obtain ⟨us, r1, p1, _⟩ := I.tuple ha
  obtain ⟨ws, r2, p2, _⟩ := I.tuple hb
  have hz : us.toArray.size = ws.toArray.size := by
    rw [List.size_toArray, List.size_toArray, ← r1.length, ← r2.length]
  refine SeqAt.RcNeAt.tuples (e := fun _ => true) p1 p2 (by omega) (fun j h1 h2 => ?_) X.prog X.w X.xe _ ?_
  · have z := vals_eqAt (A := X.A.in1) (s := s) ok r1 r2 j (by simpa using h1) (by simpa using h2)
    simpa using z
  · rw [show ((List.range (min us.toArray.size ws.toArray.size)).all fun _ => true) = true from List.all_eq_true.mpr fun _ _ => rfl, hz]
    exact ⟨.bl _, H, I, rfl, by simpa using q⟩
/-- a != b, both of them pairs of ints -/
def rNeI2 (K : PySem.W.Frag) : R2 := fun x y H Q => ∃ (a b : Addr) (i j k l : Int), x = .ref a ∧ y = .ref b ∧ SqT K H a [.int i, .int j] ∧ SqT K H b [.int k, .int l] ∧ Q (.bl (!decide (i = k ∧ j = l))) H
theorem op_neI2 (hu : X.A.units + 64 < cLine) : OpR X (compareOp .NotEq) (rNeI2 X.K) := by
  intro pns s σ H x y v u Q I rx ry h
  obtain ⟨a, b, i, j, k, l, rfl, rfl, ha, hb, q⟩ := h
  cases (show v = Value.ref a from rx)
  cases (show u = Value.ref b from ry)
  obtain ⟨us, r1, p1, _⟩ := I.tuple ha
  obtain ⟨ws, r2, p2, _⟩ := I.tuple hb
  obtain ⟨u1, u2, rfl, ⟨t1, rfl⟩, ⟨t2, rfl⟩⟩ := vals2 r1
  obtain ⟨w1, w2, rfl, ⟨t3, rfl⟩, ⟨t4, rfl⟩⟩ := vals2 r2
  refine SeqAt.RcNeAt.tuples (e := fun n => if n = 0 then i == k else j == l) p1 p2 (by omega) (fun n h1 h2 => ?_) X.prog X.w X.xe _ ?_
  · match n, h1, h2 with
    | 0, _, _ => exact SeqAt.EqAt.int_int i t1 k t3
    | 1, _, _ => exact SeqAt.EqAt.int_int j t2 l t4
    | n + 2, h1, _ => exact absurd h1 (by simp)
  · have e : (!((List.range (min [Value.int i t1, Value.int j t2].toArray.size [Value.int k t3, Value.int l t4].toArray.size)).all (fun n => if n = 0 then i == k else j == l) && [Value.int i t1, Value.int j t2].toArray.size == [Value.int k t3, Value.int l t4].toArray.size)) = !decide (i = k ∧ j = l) := by
      show (!((List.range 2).all (fun n => if n = 0 then i == k else j == l) && true)) = _
      rw [show List.range 2 = [0, 1] from rfl]
      by_cases e1 : i = k <;> by_cases e2 : j = l <;> simp [e1, e2]
    rw [e]
    exact ⟨.bl _, H, I, rfl, q⟩
/-- a == b of two lists of the very same items -/
def rEqS (K : PySem.W.Frag) : R2 := fun x y H Q => ∃ (a b : Addr) (xs : List V), x = .ref a ∧ y = .ref b ∧ SqL K H a xs ∧ SqL K H b xs ∧ (∀ v ∈ xs, okV v) ∧ Q (.bl true) H
theorem op_eqS (hu : X.A.units + 64 < cLine) : OpR X (compareOp .Eq) (rEqS X.K) := by
  intro pns s σ H x y v u Q I rx ry h
  obtain ⟨a, b, xs, rfl, rfl, ha, hb, ok, q⟩ := h
  cases (show v = Value.ref a from rx)
  cases (show u = Value.ref b from ry)
  obtain ⟨us, r1, p1, _⟩ := I.list ha
  obtain ⟨ws, r2, p2, _⟩ := I.list hb
  have hz : us.toArray.size = ws.toArray.size := by
    rw [List.size_toArray, List.size_toArray, ← r1.length, ← r2.length]
  refine SeqAt.eq_listAt (e := fun _ => true) p1.isList p2.isList hz (by omega) (fun j h1 h2 => ?_) ?_
  · have z := vals_eqAt (A := X.A.in1) (s := s) ok r1 r2 j (by simpa using h1) (by simpa using h2)
    simpa using z
  · rw [show ((List.range us.toArray.size).all fun _ => true) = true from List.all_eq_true.mpr fun _ _ => rfl]
    exact ⟨.bl true, H, I, rfl, q⟩
/-- a != [], a a list -/
def rNeNil (K : PySem.W.Frag) : R2 := fun x y H Q => ∃ (a b : Addr) (xs : List V), x = .ref a ∧ y = .ref b ∧ SqL K H a xs ∧ SqL K H b [] ∧ Q (.bl (!xs.isEmpty)) H
theorem op_neNil (hu : X.A.units + 64 < cLine) : OpR X (compareOp .NotEq) (rNeNil X.K) := by
  intro pns s σ H x y v u Q I rx ry h
  obtain ⟨a, b, xs, rfl, rfl, ha, hb, q⟩ := h
  cases (show v = Value.ref a from rx)
  cases (show u = Value.ref b from ry)
  obtain ⟨us, r1, p1, _⟩ := I.list ha
  obtain ⟨ws, r2, p2, _⟩ := I.list hb
  cases r2
  cases r1 with
  | nil => exact SeqAt.RcNeAt.lists (e := fun _ => true) p1.isList p2.isList rfl (by omega) (fun j h1 h2 => absurd h2 (by simp)) X.prog X.w X.xe _ ⟨.bl false, H, I, rfl, q⟩
  | cons a1 b1 => exact SeqAt.RcNeAt.lists_lengths p1.isList p2.isList (by simp) (by omega) X.prog X.w X.xe _ ⟨.bl true, H, I, rfl, q⟩
/-- how many unlike ints a list has -/
def unlike (ns : List Int) : Nat := (firstMet (fun i => ns.getD i 0) ns.length).length
def tUnlike (K : PySem.W.Frag) (ta : TE) : TE := fun σ H Q => ta σ H fun x G => ∃ (l : Addr) (ns : List Int), x = .ref l ∧ SqL K G l (ns.map V.int) ∧ ns.length ≤ 4000 ∧ Q (.int (unlike ns : Nat)) G
theorem pe_unlike {e : Expr} {ta : TE} {p1 p2 p3 p4 : Pos} (hg : Gl X "len") (hm : X.mg "len" = none) (hg2 : Gl X "set") (hm2 : X.mg "set" = none) (ha : PE X e ta) (hc : X.calm = true := by rfl)
    (na : starEach [e] X.env = (false, eval e X.env) :: starEach [] X.env := by rfl) : PE X (.Call (.Name "len" p1) [.Call (.Name "set" p2) [e] [] p3] [] p4) (tUnlike X.K ta) := by
  refine ⟨fun pns s σ H Q I h => Call_ (ld_blt I hg hm PySem.boot_len (callWith_builtin1 (args_cons (Call_ (ld_blt I hg2 hm2 boot_set (callWith_type1 (args_cons (thn (ha.run pns s σ H _ I h) ?_) na) na rfl))) rfl) rfl rfl))⟩
  rintro v t ⟨x, G, J, r, l, ns, rfl, hq, hl, q⟩
  cases r
  obtain ⟨us, rv, pl, _⟩ := J.list hq
  have hz : us.toArray.size = ns.length := by rw [List.size_toArray, ← rv.length, List.length_map]
  refine args_nil (call_set_list (J.ok.hd hc) pl.isList (ns := ns) (by simpa using RZ.intsAre_vals rv) (by rw [hz]; unfold scanBound; omega) fun h' tk hS hk => args_nil ?_)
  rw [hz] at hS
  obtain ⟨o, es, ep, tb, ho, hex, hd, _, _, _, hf, hn⟩ := hS
  have hle := firstMet_length_le (fun i => ns.getD i 0) ns.length
  have J2 : Inv X pns σ G { t with heap := h', toks := tk } := J.kept fun b o e => hk b o (Heap.lt_size e) e
  exact call_len_set ho hex hd hf (by rw [hn]; omega) ⟨.int (unlike ns : Nat), G, J2.tok _, ⟨_, by rw [hn]; rfl⟩, q⟩
/-- a class without an __init__ -/
structure MkO (K : PySem.W.Frag) (C : Addr) : Prop where
  makes : PySem.W.makesIn K C = true
  init : PySem.W.findIn K (.ref C) "__init__" = some (some (.builtin "object.__init__"))
  kp : PySem.W.keepIn K (.ref C) = true
  ob : PySem.W.mroIn K C (.type "object") = some true
def mkoB (K : PySem.W.Frag) (C : Addr) : Bool := PySem.W.makesIn K C && (He.eqO (PySem.W.findIn K (.ref C) "__init__") (some (some (.builtin "object.__init__"))) && (PySem.W.keepIn K (.ref C) && decide (PySem.W.mroIn K C (.type "object") = some true)))
theorem mkoB_ok {K : PySem.W.Frag} {C : Addr} (h : mkoB K C = true) : MkO K C := by
  obtain ⟨h1, h⟩ := He.ba h
  obtain ⟨h2, h⟩ := He.ba h
  obtain ⟨h3, h4⟩ := He.ba h
  exact ⟨h1, He.eqO_ok h2, h3, of_decide_eq_true h4⟩
theorem pe_make00 {C : Addr} {x : Str} {p pos : Pos} (M : MkO X.K C) (hg : Gl X x) (hm : X.mg x = some (.ref C)) (hdb : (x == ("__debug__" : Str)) = false := by decide) :
    PE X (.Call (.Name x p) [] [] pos) (fun σ H Q => ∀ x dx, H x = none → H dx = none → dx ≠ x → Q (.ref x) (upd (upd H dx (.own x)) x (.ins C dx []))) := by
  refine ⟨fun pns s σ H Q I h => wpAny_Call_Name_kw (ld_glob I hg hm ?_ hdb)⟩
  refine PySem.W.callWith_K0 I.kIn M.kp ?_
  show wpAny _ _ (call (.ref C) []) _ _ _
  have hq := h (s.heap.objs.size + 1) s.heap.objs.size (I.hok.fresh (Nat.le_succ _)) (I.hok.fresh (Nat.le_refl _)) (Nat.ne_of_lt (Nat.lt_succ_self _))
  have J := Inv.made (C := C) I
  refine wpAny_call (make_map0 I.kIn M.makes M.init (fun me => PySem.W.Looks.of_pure (PySem.W.oi_bind me)) ?_)
  have ho : ((s.heap.push PySem.W.emptyDict).push (PySem.W.instObj C s.heap.objs.size)).get? (s.heap.objs.size + 1) = some (PySem.W.instObj C s.heap.objs.size) := by
    have z := Heap.get?_push_size (s.heap.push PySem.W.emptyDict) (o := PySem.W.instObj C s.heap.objs.size) rfl
    rw [Heap.size_push] at z
    exact z
  have t1 : PySem.W.Looks (model X.prog X.w) ((s.heap.push PySem.W.emptyDict).push (PySem.W.instObj C s.heap.objs.size)) (typeOf (.ref (s.heap.objs.size + 1))) (.ref C) := (PySem.W.Looks.ld ho).andThen .now
  have t2 : PySem.W.Looks (model X.prog X.w) ((s.heap.push PySem.W.emptyDict).push (PySem.W.instObj C s.heap.objs.size)) (isInstance (.ref (s.heap.objs.size + 1)) (.type "object")) true := t1.andThen (PySem.W.looks_mroIn J.kIn M.ob)
  refine codeAny_call_builtin PySem.W.oi_plain PySem.W.entry_oi (PySem.W.check_slot PySem.W.oi_kind PySem.W.oi_split t2 (PySem.W.oi_args (.ref (s.heap.objs.size + 1))) ?_)
  rw [PySem.W.oi_run]
  exact wpAny_pure ⟨rfl, ⟨V.ref (s.heap.objs.size + 1), _, J, rfl, hq⟩⟩
/-! ### within a comprehension: the written part by its name -/
theorem ix_listK {K : PySem.W.Frag} (h : X.K = K := by rfl) : IxR X (rIxL K) := by
  subst h
  exact ix_list
theorem ix_tupK {K : PySem.W.Frag} (h : X.K = K := by rfl) : IxR X (rIxT K) := by
  subst h
  exact ix_tup
theorem pg_tupK {K : PySem.W.Frag} {n : Nat} {es : List Expr} {k : Nat} {t : TGs} (hc : X.calm = true) (h : PGs X es t) (hK : X.K = K := by rfl)
    (hn : (assignEach es X.env).length = n := by rfl) (hst : (assignEach es X.env).findIdx? (·.1) = none := by rfl) : PG X (.Tuple es k pos) (gTup K n t) := by
  subst hK
  exact pg_tup hc h hn hst
theorem op_ltTK {K : PySem.W.Frag} (hu : X.A.units < cLine) (h : X.K = K := by rfl) : OpR X (compareOp .Lt) (rLtT K) := by
  subst h
  exact op_ltT hu
end
end CM
set_option Elab.async false
set_option linter.all false
set_option maxRecDepth 100000
set_option maxHeartbeats 4000000
namespace SL
open PySem PySem.Spec PyProof.Rows L2 CM LamX
/-! ### a def whose code object is told -/
section
variable {P : Program} {w : World} {K : PySem.W.Frag} {mg : Str → Option Value} {base : Heap} {x qual : Str} {params : Arguments} {body : List Stmt} {scope : Scope} {dvs : List V} {kws : List (Str × V)} {fd : FuncData}
theorem okC {CX : CXT} {N ps : List Str} {k : Nat} {sp : Sp} {p : He.Defn} (F : FunD K x qual params body scope dvs kws (He.fAd K p) fd) (S : FnScope N ps scope) (len : ∀ vs H Q E, sp vs H Q E → vs.length = ps.length)
    (hbody : ∀ (A : Around) (outer : List Env) (s : Shared) (H : Hp) (vs : List V) (Q : VK) (E : XK), Room k (A.deeper (envOfC qual scope s.heap.objs.size (He.fAd K p) (.ref (He.codeOf K p)))) → sp vs H Q E →
      ∃ t, PSs (cxOf CX P w K mg base N qual scope (He.fAd K p) (.ref (He.codeOf K p)) A outer s H E) body t ∧ t { nx := fun _ H' => Q .non H', rt := Q } (start N vs) H) : FnOk P w K mg base CX (k + 1) (He.fAd K p) fd ps sp := by
  obtain ⟨oc, od, dV, kV, doc, pm, an, cdv, ct, osl, rfl, lk, hcd, _, _⟩ := F.ex
  obtain ⟨c, rfl⟩ := He.codeIn_ref hcd
  have e : He.codeOf K p = c := He.codeOf_eq lk rfl
  rw [e] at hbody
  exact fn_of lk hcd S len hbody
end
/-! ### a lambda of one parameter, called: its key alone is asked, the heap grows -/
/-- one parameter of its own, captured names, globals -/
structure Lam1 (sc scope : Scope) (x : Str) : Prop where
  kind : scope.kind = .function
  co : scope.isCoroutine = false
  gen : scope.isGenerator = false
  par : scope.names.lookup x = some .local
  nocell : ∀ y ∈ scope.names, y.2 ≠ .cell
  free : ∀ y ∈ scope.names, y.2 = .free → sc.names.lookup y.1 = some .cell ∨ sc.names.lookup y.1 = some .free
def lam1B (sc scope : Scope) (x : Str) : Bool :=
  decide (scope.kind = .function) && (!scope.isCoroutine && (!scope.isGenerator && (decide (scope.names.lookup x = some .local) && ((scope.names.all fun y => !decide (y.2 = .cell)) && (scope.names.all fun y => !decide (y.2 = .free) || decide (sc.names.lookup y.1 = some .cell) || decide (sc.names.lookup y.1 = some .free))))))
theorem lam1_by {sc scope : Scope} {x : Str} (h : lam1B sc scope x = true) : Lam1 sc scope x := by
  unfold lam1B at h
  simp only [Bool.and_eq_true, Bool.or_eq_true, Bool.not_eq_true', decide_eq_true_eq, decide_eq_false_iff_not, List.all_eq_true] at h
  obtain ⟨h1, h2, h3, h4, h5, h6⟩ := h
  refine ⟨h1, h2, h3, h4, h5, fun y hy e => ?_⟩
  rcases h6 y hy with (z | z) | z
  · exact absurd e z
  · exact .inl z
  · exact .inr z
theorem Lam1.has {X : Cx} {scope : Scope} {x : Str} (L : Lam1 X.env.scope scope x) (ok : X.Ok) : ∀ y ∈ scope.names, y.2 = .free → ∃ c, X.env.cells.lookup y.1 = some c := fun y hy e =>
  (L.free y hy e).elim (fun z => ok.has _ (.inl z)) fun z => ok.has _ (.inr z)
section
variable {prog : Program} {w : World} {A : Around} {s : Shared}
theorem lam_call {sc : Scope} {f c' : Addr} {x : Str} {params : Arguments} {body : Expr} {scope : Scope} {cl : List (Str × Addr)} {pm ctv v : Value} {qual : Str} {k : PyData} (L : Lam1 sc scope x)
    (hroom : A.depth < recursionLimit) (hf : s.heap.get? f = some (PySem.W.kla_obj "<lambda>" qual params body scope cl pm c' ctv)) (hcd : s.heap.CodeRec (.ref c') qual) (lim : s.heap.NoLimit)
    (hbind : bindArgs (PySem.W.kla_fn "<lambda>" qual params body scope cl pm (.ref c') ctv) ⟨[v], []⟩ = pure [(x, v)])
    (h : ∀ (D : Addr) (g : Heap) (tk : Nat), (∀ b o, s.heap.get? b = some o → g.get? b = some o) → g.Ns D (fun y => [(x, v)].reverse.lookup y) →
      wpAny (model prog w) (A.deeper (PySem.W.envX qual scope D f (.ref c') cl)) (eval body (PySem.W.envX qual scope D f (.ref c') cl)) (PySem.W.KeyPure k { s with heap := g, toks := tk }) (fun _ _ => False) { s with heap := g, toks := tk }) :
    wpAny (model prog w) A (call (.ref f) [v]) (PySem.W.KeyPure k s) (fun _ _ => False) s := by
  refine wpAny_call (PySem.W.kla_callFunE hroom hf rfl L.co L.gen rfl hcd ?_)
  rw [hbind]
  refine wpAny_pure (wpAny_newFunctionEnv L.nocell (fun y hy => ?_) (fun g hns hsb => ⟨lim.fresh _ hsb, ?_⟩) L.kind)
  · rw [List.mem_singleton.mp hy]
    exact L.par
  · have up : ∀ b o, s.heap.get? b = some o → g.get? b = some o := fun b o e => hsb.extBut b o (Nat.ne_of_lt (Heap.lt_size e)) (Heap.get?_push_of_some _ e)
    refine PySem.W.kla_codeExpr (wpAny_mono (h _ g _ up hns) (fun u t ⟨g2, tk, e, up2, rd⟩ => ?_) fun _ _ z => z.elim)
    exact ⟨g2, tk, e, fun b o q => up2 b o (up b o q), rd⟩
end
/-! ### sorted(e, key=lambda x: body) -/
/-- what stands at the captured names: cells of the running frame, their values -/
def CapAt (X : Cx) (σ : L2.St) (g : Heap) (cl : List (Str × Addr)) : Prop := ∀ (i : Nat) (y : Str) (v : V), X.N[i]? = some y → σ[i]? = some (some v) → (∃ c, cl.lookup y = some c) → ∃ c u, cl.lookup y = some c ∧ RelV v u ∧ g.IsCell c (some u)
theorem capAt_of {X : Cx} {pins : List (Addr × Obj)} {σ : L2.St} {H : Hp} {s : Shared} {scope : Scope} {x : Str} (I : Inv X pins σ H s) (L : Lam1 X.env.scope scope x) : CapAt X σ s.heap (cloFrom X.env.cells scope.names []) := by
  intro i y v hi hv ⟨c, hc⟩
  have hm : (y, NameKind.free) ∈ scope.names := by
    rcases cloFrom_mem (PySem.mem_of_lookup hc) with hm | ⟨h1, _⟩
    · cases hm
    · exact h1
  have hk := L.free _ hm rfl
  obtain ⟨m, _, hl⟩ := I.loc
  obtain ⟨u, r, q⟩ := hl i y v hi hv (hk.elim (fun z => .inr (.inl z)) fun z => .inr (.inr z))
  rcases q with ⟨z, _⟩ | ⟨_, c2, hc2, cell⟩
  · have z : X.env.scope.names.lookup y = some .local := z
    rcases hk with k | k <;> rw [show X.env.scope.names.lookup y = _ from k] at z <;> cases z
  · refine ⟨c, u, hc, r, ?_⟩
    have hc' : (y, c) ∈ cloFrom X.env.cells scope.names [] := PySem.mem_of_lookup hc
    rcases cloFrom_mem hc' with hm | ⟨_, e⟩
    · cases hm
    · rw [e, hc2]
      exact cell
/-- the key's reckoning: k, for the item v, wherever the heap has grown -/
def KeyRun (X : Cx) (σ : L2.St) (body : Expr) (scope : Scope) (x : Str) (s : Shared) (H : Hp) (v : Value) (k : PyData) : Prop :=
  ∀ (A : Around) (qual : Str) (f c' D : Addr) (cl : List (Str × Addr)) (g : Heap) (tk : Nat), X.A.units ≤ A.units → (∀ b o, s.heap.get? b = some o → g.get? b = some o) → CapAt X σ g cl → (∀ y, scope.names.lookup y = some .free → ∃ c, cl.lookup y = some c) →
    g.Ns D (fun y => [(x, v)].reverse.lookup y) → wpAny (model X.prog X.w) A (eval body (PySem.W.envX qual scope D f (.ref c') cl)) (PySem.W.KeyPure k { s with heap := g, toks := tk }) (fun _ _ => False) { s with heap := g, toks := tk }
/-- the reading -/
def tSortL {β : Type} (X : Cx) (T : List (Addr × Str)) (body : Expr) (scope : Scope) (x : Str) (ta : TE) : TE := fun σ H Q => ta σ H fun u H1 => Tabs T H1 ∧ ∃ (l : Addr) (bs : List β) (vf : β → V) (kf : β → PyData), u = .ref l ∧ SqL X.K H1 l (bs.map vf) ∧
  (∀ b ∈ bs, ∀ d ∈ bs, PySem.W.alike (kf b) (kf d) = true) ∧ PySem.W.Sortable (bs.map kf) ∧ (∀ b ∈ bs, (kf b).depth ≤ 60) ∧
  (∀ (pins : List (Addr × Obj)) (s : Shared) (H2 : Hp) (b : β) (v : Value), Inv X pins σ H2 s → ExtN H1 H2 → b ∈ bs → RelV (vf b) v → KeyRun X σ body scope x s H2 v (kf b)) ∧
  ∀ (D : Addr) (H2 : Hp), ExtN H1 H2 → (∀ o, H1 D = some o → ∃ ps, o = .tbl ps) → Tabs T H2 → H2 D = some (.lst ((bs.mergeSort (PySem.W.dataLe false kf)).map vf)) → Q (.ref D) H2
theorem each_of_vals {β : Type} {vf : β → V} : ∀ {bs : List β} {us : List Value}, Vals (bs.map vf) us → PySem.W.EachIs (fun v b => RelV (vf b) v) us bs
  | [], _, .nil => .nil
  | b :: bs, _, .cons r t => .cons r (each_of_vals t)
theorem vals_of_each {β : Type} {vf : β → V} : ∀ {bs : List β} {us : List Value}, PySem.W.EachIs (fun v b => RelV (vf b) v) us bs → Vals (bs.map vf) us
  | [], _, .nil => .nil
  | b :: bs, _, .cons r t => .cons r (vals_of_each t)
section
variable {X : Cx}
theorem pe_sortL {β : Type} {T : List (Addr × Str)} {c P : Addr} {a : Expr} {ta : TE} {params : Arguments} {body : Expr} {scope : Scope} {x : Str} {k : Nat} {lpos kpos p1 pos : Pos} (hr : Room k X.A) (TB : TabB X.base X.mg c P) (hcode : X.env.code = .ref c)
    (hmT : (P, X.env.qual ++ "<lambda>") ∈ T) (hu : ∀ p ∈ T, p.1 = P → p.2 = X.env.qual ++ "<lambda>") (L : Lam1 X.env.scope scope x) (hdef : defaultsOf params X.env = ([], []))
    (hbind : ∀ (q : Str) (cl : List (Str × Addr)) (pm cv ctv v : Value), bindArgs (PySem.W.kla_fn "<lambda>" q params body scope cl pm cv ctv) ⟨[v], []⟩ = pure [(x, v)])
    (hg : Gl X "sorted") (hm : X.mg "sorted" = none) (ha : PE X a ta)
    (he : backTo pos (starEach [a] X.env) = (false, eval a X.env) :: backTo pos (starEach [] X.env) := by rfl) (hpl : (backTo pos (starEach [a] X.env)).any (·.1) = false := by rfl) :
    PE X (.Call (.Name "sorted" p1) [a] [⟨some "key", .Lambda params body scope lpos, kpos⟩] pos) (tSortL (β := β) X T body scope x ta) := by
  refine ⟨fun pins s σ H Q I h => ?_⟩
  refine wpAny_Call_Name_kw (ld_blt I hg hm (show bootBuiltins "sorted" = some (.builtin "sorted") by decide +kernel) ?_ (by decide) (by decide))
  refine PyProof.Rows.callWith_kw ?_ he hpl (by rfl) (by rfl)
  rw [he]
  refine Calls.spliced_cons (thn (ha.run pins s σ H _ I h) fun u s1 ⟨v0, H1, I1, r1, hT, l, bs, vf, kf, e0, hS, al, so, dp, kr, q⟩ => Calls.spliced_nil ?_)
  subst e0
  obtain rfl : u = Value.ref l := r1
  show wpAny _ _ (evalAll ((do let v ← eval (.Lambda params body scope lpos) X.env; standAt pos; pure v) :: [])) _ _ s1
  refine wpAny_evalAll_cons (wpAny_bind (lam_make2 I1 TB hcode hmT hu hT hdef (L.has I1.ok) fun f c' pm ctv H2 s2 I2 eN T2 hf hfn hfr hco => wpAny_bind (wpAny_standAt (wpAny_pure (wpAny_evalAll_nil ?_)))))
  show wpAny _ _ (call (.builtin "sorted") [.ref l] [(Str.ofString "key", .ref f)]) _ _ s2
  have hS2 : SqL X.K H2 l (bs.map vf) := by
    rcases hS with hS | hS
    · rcases hS with hS | ⟨o, hS⟩
      · exact .inl (.inl (eN _ _ hS fun ps z => by cases z))
      · exact .inl (.inr ⟨o, eN _ _ hS fun ps z => by cases z⟩)
    · exact .inr hS
  obtain ⟨its, rv, hl, hz⟩ := I2.list hS2
  rw [List.length_map] at hz
  have hcr := (show ∃ (oc : Obj) (vs : Array Value) (t : Tok), s2.heap.get? c' = some oc ∧ oc.data = .fields vs ∧ vs[1]? = some (.str (X.env.qual ++ "<lambda>") t) from (I2.hok c' _ hco).1)
  have ea := each_of_vals rv
  refine PySem.W.sorted_key_data (b := false) (bs := bs) (R := fun v b => RelV (vf b) v) kf hl.isList ea ?_ so hz (fun b hb => ?_) (PyProof.Rows.ksk_s1 _ _) (fun _ => PyProof.Rows.ksk_l1 _ _) (fun _ => PyProof.Rows.ksk_t1 _ _)
    (fun v b rb hb g tk up => ?_) fun out cc g tk up hD hD2 hlen eo => ?_
  · intro d hd e he
    obtain ⟨b, hb, rfl⟩ := List.mem_map.mp hd
    obtain ⟨b2, hb2, rfl⟩ := List.mem_map.mp he
    exact al b hb b2 hb2
  · have z1 := hr.units
    have z2 := dp b hb
    omega
  · have I3 : Inv X pins σ H2 { s2 with heap := g, toks := tk } := I2.kept up
    obtain ⟨oc, vs, t, h1, h2, h3⟩ := hcr
    refine lam_call L (by show X.A.depth < _; exact hr.depth) (up _ _ hf) ⟨c', oc, vs, t, rfl, up _ _ h1, h2, h3⟩ I3.nolimit (hbind _ _ _ _ _ _) fun D g2 tk2 up2 hns => ?_
    refine kr pins _ H2 b v I3 eN hb rb _ _ _ _ _ _ g2 tk2 (by show X.A.units ≤ X.A.units + 1 + 1 + 3; omega) up2 ?_ (fun y hy => ?_) hns
    · intro i y w hi hw hc
      obtain ⟨c0, u0, a1, a2, o, a3, a4⟩ := capAt_of I3 L i y w hi hw hc
      exact ⟨c0, u0, a1, a2, o, up2 _ _ a3, a4⟩
    · exact mem_lookup (cloFrom_has (cells := X.env.cells) (acc := []) (PySem.mem_of_lookup hy))
  · have hlen2 : ((bs.mergeSort (PySem.W.dataLe false kf)).map vf).length ≤ sizeLine := by
      rw [List.length_map, List.length_mergeSort]
      exact hz
    have hnew : H2 (s2.heap.objs.size + 1) = none := I2.hok.fresh (Nat.le_succ _)
    have vo := vals_of_each eo
    refine ⟨.ref (s2.heap.objs.size + 1), upd H2 (s2.heap.objs.size + 1) (.lst ((bs.mergeSort (PySem.W.dataLe false kf)).map vf)), I2.laid (t' := tk) up (Nat.le_succ _) ⟨hlen2, out, cc, vo, hD2⟩, rfl, ?_⟩
    refine q _ _ (fun b o e n => ?_) (fun o e1 => ?_) (T2.ext fun b o e => ?_) upd_same
    · rw [upd_ne (ne_of_none (eN _ _ e n) hnew)]
      exact eN _ _ e n
    · cases o with
      | tbl ps => exact ⟨ps, rfl⟩
      | _ =>
        rw [eN _ _ e1 (fun ps z => by cases z)] at hnew
        cases hnew
    · rw [upd_ne (ne_of_none e hnew)]
      exact e
end
end SL
set_option Elab.async false
set_option linter.all false
set_option maxRecDepth 100000
set_option maxHeartbeats 4000000
namespace SL
open PySem PySem.Spec PyProof.Rows L2 CM LamX
/-! ### tables stay -/
theorem Tabs.kp {T : List (Addr × Str)} {a : Addr} {xs : List V} {H H' : Hp} (t : Tabs T H) (ha : H a = some (.lst xs)) (k : Kp a H H') : Tabs T H' := fun p hp => by
  obtain ⟨ps, h1, h2, h3⟩ := t p hp
  have ne : ∀ {b : Addr} {o : HO}, H b = some o → (∀ ys, o ≠ .lst ys) → b ≠ a := fun {b o} e n z => by
    rw [z, ha] at e
    exact n xs (Option.some.inj e).symm
  refine ⟨ps, k _ _ (ne h1 fun ys z => by cases z) h1, h2, fun pos cv hc => ?_⟩
  obtain ⟨c, e1, e2⟩ := h3 pos cv hc
  exact ⟨c, e1, k _ _ (ne e2 fun ys z => by unfold CodeO at z; cases z) e2⟩
theorem Tabs.same {T : List (Addr × Str)} {H H' : Hp} (t : Tabs T H) (s : Same H H') : Tabs T H' := t.ext s
/-- all but the thing at a and the tables stays -/
def KpN (a : Addr) (H H' : Hp) : Prop := ∀ b o, b ≠ a → (∀ ps, o ≠ .tbl ps) → H b = some o → H' b = some o
theorem KpN.of {a : Addr} {H H' : Hp} (k : Kp a H H') : KpN a H H' := fun b o n _ e => k b o n e
theorem KpN.ext {a : Addr} {H H' : Hp} (k : ExtN H H') : KpN a H H' := fun b o _ n e => k b o e n
theorem KpN.trans {a : Addr} {H H1 H2 : Hp} (x : KpN a H H1) (y : KpN a H1 H2) : KpN a H H2 := fun b o n m e => y b o n m (x b o n m e)
theorem ExtN.of_same {H H' : Hp} (s : Same H H') : ExtN H H' := fun b o e _ => s b o e
theorem ExtN.seqL {K : PySem.W.Frag} {H H' : Hp} {a : Addr} {xs : List V} (e : ExtN H H') (h : SqL K H a xs) : SqL K H' a xs := by
  rcases h with (h | ⟨o, h⟩) | h
  · exact .inl (.inl (e _ _ h fun ps z => by cases z))
  · exact .inl (.inr ⟨o, e _ _ h fun ps z => by cases z⟩)
  · exact .inr h
theorem one_tab {P P' : Addr} {q q' : Str} (e : q = q') : ∀ p ∈ [(P', q)], p.1 = P → p.2 = q' := fun p hp _ => by rw [List.mem_singleton.mp hp]; exact e
/-! ### the key (m[x], x) -/
/-- a leaf as data -/
inductive LeafD : V → PyData → Prop where
  | int (i : Int) : LeafD (.int i) (.int i)
  | str (z : Str) : LeafD (.str z) (.str z)
theorem LeafD.reads {w : V} {d : PyData} {u : Value} {h : Heap} (l : LeafD w d) (r : RelV w u) : Reads h u d [] := by
  cases l with
  | int i =>
    obtain ⟨t, rfl⟩ := r
    exact .int i t
  | str z =>
    obtain ⟨t, rfl⟩ := r
    exact .str z t
theorem ns_one {x : Str} {v : Value} : [(x, v)].reverse.lookup x = some v := by simp [List.lookup]
theorem kr_pair {X : Cx} {pins : List (Addr × Obj)} {σ : L2.St} {H : Hp} {s : Shared} {scope : Scope} {m x : Str} {i b : Nat} {l : Addr} {items : List V} {w : V} {d : PyData} {v : Value} {ctx : Nat} {p1 p2 p3 p4 p5 : Pos} (I : Inv X pins σ H s)
    (kind : scope.kind = .function) (hm : scope.names.lookup m = some .free) (hx : scope.names.lookup x = some .local) (hN : X.N[i]? = some m) (hs : σ[i]? = some (some (.ref l))) (hl : SqL X.K H l items) (hb : items[b]? = some w) (ld : LeafD w d) (rv : RelV (.int (b : Int)) v)
    (dm : (m == ("__debug__" : Str)) = false := by decide) (dx : (x == ("__debug__" : Str)) = false := by decide) (cm : (m == ("__classdict__" : Str)) = false := by decide) :
    KeyRun X σ (.Tuple [.Subscript (.Name m p1) (.Name x p2) p3, .Name x p4] ctx p5) scope x s H v (.tuple [d, .int (b : Int)]) := by
  intro A qual f c' D cl g tk hu up cap has hns
  obtain ⟨its, rvs, pl, hz⟩ := I.list hl
  obtain ⟨c0, u0, hc0, r0, cell⟩ := cap i m (.ref l) hN hs (has m hm)
  cases (show u0 = Value.ref l from r0)
  obtain ⟨t, rfl⟩ := rv
  obtain ⟨w', ew, rw'⟩ := rvs.get hb
  have hlen := (List.getElem?_eq_some_iff.mp hb).1
  have hl63 := line63
  refine wpAny_Tuple_spliced ?_
  show wpAny _ _ (spliced ((false, eval (.Subscript (.Name m p1) (.Name x p2) p3) (PySem.W.envX qual scope D f (.ref c') cl)) :: (false, eval (.Name x p4) (PySem.W.envX qual scope D f (.ref c') cl)) :: [])) _ _ _
  refine Calls.spliced_cons (Subscript_ (wpAny_Name (wpAny_loadName_free kind hm hc0 cell ?_ cm) dm))
  refine wpAny_Name (wpAny_loadName_local kind hx hns ns_one ?_) dx
  have pl2 : g.IsList l its.toArray := by
    obtain ⟨o, h1, h2, n, h3⟩ := pl.isList
    exact ⟨o, up _ _ h1, h2, n, h3⟩
  refine item_listR (x := w') pl2 (by omega) (by omega) (by rw [Int.toNat_natCast]; simpa using ew) ?_ (by rfl)
  refine Calls.spliced_cons (wpAny_Name (wpAny_loadName_local kind hx hns ns_one (Calls.spliced_nil ⟨by show 2 ≤ sizeLine; decide, ?_⟩)) dx)
  refine ⟨_, _, rfl, fun b o e => Heap.get?_push_of_some _ e, ?_⟩
  exact Reads.tuple (as := [] ++ ([] ++ [])) (Heap.get?_push_size _ rfl) rfl rfl (.cons (ld.reads rw') (.cons (.int _ t) .nil))
/-! ### {k: v for x in a list} -/
theorem dc_list {K : PySem.W.Frag} {a : Addr} {xs : List V} {g : TG} {tt : TT} {tk tv : TE} {vs : List Nat} {σ : L2.St} {H1 : Hp} {D : Addr} {Qd : Hp → Prop} (Pv : Nat → Hp → Prop) (h0 : Pv 0 (upd H1 D (.dK []))) (hl : ∀ i H, i ≤ xs.length → Pv i H → SqL K H a xs)
    (hs : ∀ i x H, xs[i]? = some x → Pv i H → g x (wipe σ vs) H fun σ2 H2 => wipe σ2 vs = wipe σ vs ∧ tt σ2 H2 fun b H3 =>
      if b = true then tk σ2 H3 fun y H4 => tv σ2 H4 fun z H5 => ∃ kvs k, y = kV k ∧ H5 D = some (.dK kvs) ∧ kvs.length < sizeLine ∧ Pv (i + 1) (upd H5 D (.dK (putK kvs k z))) else Pv (i + 1) H3) (hd : ∀ H, Pv xs.length H → Qd H) :
    ∃ W : Nat → Nat → Hp → Prop, (∃ m, W 0 m (upd H1 D (.dK []))) ∧ ∀ i m H, W i m H →
      ((Itl K a).stop i H ∧ Qd H) ∨ ((Itl K a).go i H ∧ ∃ Nx : Hp → Prop, (∀ H', Nx H' → ∃ m', m' < m ∧ W (i + 1) m' H') ∧ ∀ x H', (Itl K a).yld i H x H' → g x (wipe σ vs) H' fun σ2 H2 => wipe σ2 vs = wipe σ vs ∧ tt σ2 H2 fun b H3 =>
        if b = true then tk σ2 H3 fun y H4 => tv σ2 H4 fun z H5 => ∃ kvs k, y = kV k ∧ H5 D = some (.dK kvs) ∧ kvs.length < sizeLine ∧ Nx (upd H5 D (.dK (putK kvs k z))) else Nx H3) := by
  refine ⟨fun i m H => m + i = xs.length ∧ Pv i H, ⟨xs.length, rfl, h0⟩, fun i m H ⟨e, p⟩ => ?_⟩
  have q := hl i H (by omega) p
  cases m with
  | zero =>
    have e : i = xs.length := by omega
    subst e
    exact .inl ⟨⟨xs, q, Nat.le_refl _⟩, hd H p⟩
  | succ m =>
    have hlt : i < xs.length := by omega
    refine .inr ⟨⟨xs, xs[i], q, List.getElem?_eq_getElem hlt⟩, Pv (i + 1), fun H' p' => ⟨m, Nat.lt_succ_self m, by omega, p'⟩, fun x H' y => ?_⟩
    obtain ⟨rfl, y⟩ := y
    exact hs i x _ (y xs q) p
/-! ### the first half of a sorted row -/
theorem count_take {α : Type} [BEq α] {lt : α → α → Bool} (irr : ∀ a, lt a a = false) (asy : ∀ a b, lt a b = true → lt b a = false) : ∀ {xs : List α} {h : Nat} {x : α}, xs.Pairwise (fun a b => lt a b = true) → x ∈ xs → (x ∈ xs.take h ↔ (xs.filter fun y => lt y x).length < h)
  | [], _, _, _, hx => by cases hx
  | a :: as, 0, x, _, _ => by
    simp
  | a :: as, h + 1, x, hp, hx => by
    obtain ⟨h1, h2⟩ := List.pairwise_cons.mp hp
    rw [List.take_succ_cons, List.mem_cons, List.filter_cons]
    by_cases e : x = a
    · subst e
      have f : as.filter (fun y => lt y x) = [] := by
        rw [List.filter_eq_nil_iff]
        intro y hy z
        rw [asy _ _ (h1 y hy)] at z
        cases z
      rw [irr, f]
      simp
    · have hx2 : x ∈ as := (List.mem_cons.mp hx).resolve_left e
      have ih := count_take (h := h) irr asy h2 hx2
      rw [h1 x hx2]
      simp only [e, false_or, if_true, List.length_cons]
      rw [ih]
      omega
/-- the numbers below n that a strict order puts ahead of i -/
def aheadN (lt : Nat → Nat → Bool) (n i : Nat) : Nat := ((List.range n).filter fun k => lt k i).length
theorem in_half {lt : Nat → Nat → Bool} (irr : ∀ a, lt a a = false) (tr : ∀ a b c, lt a b = true → lt b c = true → lt a c = true) (tot : ∀ a b, a ≠ b → lt a b = true ∨ lt b a = true) {le : Nat → Nat → Bool} (hle : ∀ a b, le a b = !lt b a) {n h i : Nat} (hi : i < n) :
    i ∈ ((List.range n).mergeSort le).take h ↔ aheadN lt n i < h := by
  have asy : ∀ a b, lt a b = true → lt b a = false := fun a b e => by
    cases q : lt b a with
    | false => rfl
    | true =>
      have z := tr a b a e q
      rw [irr] at z
      cases z
  have perm := List.mergeSort_perm (List.range n) le
  have nd : ((List.range n).mergeSort le).Nodup := perm.nodup_iff.mpr List.nodup_range
  have pw := List.pairwise_mergeSort (le := le) (fun a b c h1 h2 => by
    rw [hle] at h1 h2 ⊢
    simp only [Bool.not_eq_true'] at h1 h2 ⊢
    cases q : lt c a with
    | false => rfl
    | true =>
      by_cases e1 : a = b
      · subst e1
        rw [q] at h2
        cases h2
      · rcases tot a b e1 with z | z
        · rw [tr c a b q z] at h2
          cases h2
        · rw [h1] at z
          cases z) (fun a b => by
    rw [hle, hle]
    cases q : lt b a with
    | false => rfl
    | true => rw [asy _ _ q]; rfl) (List.range n)
  have ps : ((List.range n).mergeSort le).Pairwise (fun a b => lt a b = true) := by
    have both := pw.and nd
    refine both.imp fun {a b} ⟨h1, h2⟩ => ?_
    rw [hle] at h1
    simp only [Bool.not_eq_true'] at h1
    rcases tot a b h2 with z | z
    · exact z
    · rw [h1] at z
      cases z
  have hm : i ∈ (List.range n).mergeSort le := perm.mem_iff.mpr (List.mem_range.mpr hi)
  rw [count_take irr asy ps hm]
  unfold aheadN
  rw [(perm.filter _).length_eq]
/-! ### max of three -/
theorem call_max3 {X : Cx} (hc : X.calm = true) : CallR X (.builtin "max") (fun xs H Q => ∃ i j k, xs = [.int i, .int j, .int k] ∧ Q (.int (max (max i j) k)) H) := by
  intro pins s σ H xs us Q I r h
  obtain ⟨i, j, k, rfl, q⟩ := h
  obtain ⟨u, us2, rfl, r2⟩ : ∃ u us2, us = u :: us2 ∧ Vals [.int j, .int k] us2 ∧ RelV (.int i) u := by
    cases r with
    | cons a b => exact ⟨_, _, rfl, b, a⟩
  obtain ⟨v, w, rfl, ⟨t2, rfl⟩, ⟨t3, rfl⟩⟩ := vals2 r2.1
  obtain ⟨t1, rfl⟩ := r2.2
  refine max_three_ints (I.ok.hd hc) fun h' tk kp => ⟨_, H, I.kept kp, ?_, q⟩
  by_cases h1 : j > i <;> by_cases h2 : k > j <;> by_cases h3 : k > i <;> simp only [h1, h2, h3, if_true, if_false]
  all_goals first
    | (rw [show max (max i j) k = k by omega]; exact ⟨_, rfl⟩)
    | (rw [show max (max i j) k = j by omega]; exact ⟨_, rfl⟩)
    | (rw [show max (max i j) k = i by omega]; exact ⟨_, rfl⟩)
/-! ### marks that are ints, in their order -/
def ltI (ns : List Int) (a b : Nat) : Bool := decide (ns.getD a 0 < ns.getD b 0 ∨ (ns.getD a 0 = ns.getD b 0 ∧ a < b))
theorem ltI_irr (ns : List Int) (a : Nat) : ltI ns a a = false := decide_eq_false (by omega)
theorem ltI_tr (ns : List Int) (a b c : Nat) (h1 : ltI ns a b = true) (h2 : ltI ns b c = true) : ltI ns a c = true := by
  have h1 := of_decide_eq_true h1
  have h2 := of_decide_eq_true h2
  exact decide_eq_true (by omega)
theorem ltI_tot (ns : List Int) (a b : Nat) (h : a ≠ b) : ltI ns a b = true ∨ ltI ns b a = true := by
  by_cases q : ns.getD a 0 < ns.getD b 0 ∨ (ns.getD a 0 = ns.getD b 0 ∧ a < b)
  · exact .inl (decide_eq_true q)
  · exact .inr (decide_eq_true (by omega))
def keyI (ns : List Int) (b : Nat) : PyData := .tuple [.int (ns.getD b 0), .int (b : Int)]
theorem leI (ns : List Int) : PySem.W.dataLe false (keyI ns) = fun a b => !ltI ns b a := by
  have z := PySem.W.dataLe_ii (β := Nat) (fun b => ns.getD b 0) (fun b => (b : Int))
  have z2 : PySem.W.dataLe false (keyI ns) = fun p q => decide (ns.getD p 0 < ns.getD q 0 ∨ (ns.getD p 0 = ns.getD q 0 ∧ (p : Int) ≤ (q : Int))) := z
  rw [z2]
  funext p q
  unfold ltI
  by_cases h : ns.getD q 0 < ns.getD p 0 ∨ (ns.getD q 0 = ns.getD p 0 ∧ q < p)
  · rw [decide_eq_true h, decide_eq_false (by omega)]
    rfl
  · rw [decide_eq_false h, decide_eq_true (by omega)]
    rfl
/-- what halves_by tells of marks in a strict order -/
def halvesL (lt : Nat → Nat → Bool) (n : Nat) : List V := (List.range n).map fun i => V.int (if aheadN lt n i < n / 2 then 0 else 1)
theorem cut_half {ord : List Nat} {ms : List V} {n : Nat} (lo : ord.length = n) (lm : ms.length = n) : cutV (ord.map fun b : Nat => V.int (b : Int)) none (some ((ms.length : Int) / 2)) = (ord.take (n / 2)).map fun b : Nat => V.int (b : Int) := by
  have l1 : (ord.map fun b : Nat => V.int (b : Int)).length = n := by rw [List.length_map, lo]
  have e : HT.sIx n n (some ((n : Int) / 2)) = n / 2 := by
    rw [show (n : Int) / 2 = ((n / 2 : Nat) : Int) by omega, HT.sIx_nat]
    omega
  have e0 : HT.sIx n 0 none = 0 := rfl
  unfold cutV
  rw [lm, l1, e, e0, List.drop_zero, Nat.sub_zero, List.map_take]
theorem halvesL_at {lt : Nat → Nat → Bool} {n j : Nat} (h : j < n) : (halvesL lt n)[j]? = some (V.int (if aheadN lt n j < n / 2 then 0 else 1)) := by
  unfold halvesL
  rw [List.getElem?_map, List.getElem?_range h]
  rfl
end SL
set_option Elab.async false
set_option linter.all false
set_option maxRecDepth 100000
set_option maxHeartbeats 4000000
namespace WD
open PySem PySem.Spec PyProof.Rows L2 CM LamX
/-! ### texts as lists of signs -/
abbrev cs (z : Str) : List Nat := z.cps.toList
theorem len_cs (z : Str) : z.length = (cs z).length := (Array.length_toList).symm
theorem str_ext {a b : Str} (h : cs a = cs b) : a = b := by
  cases a with
  | mk x => cases b with
    | mk y => exact congrArg Str.mk (Array.toList_inj.mp h)
theorem cs_mk (l : List Nat) : cs ⟨l.toArray⟩ = l := rfl
theorem cs_one (c : Nat) : cs ⟨#[c]⟩ = [c] := rfl
theorem cs_add (a b : Str) : cs (a ++ b) = cs a ++ cs b := by
  show (a.cps ++ b.cps).toList = _
  rw [Array.toList_append]
/-- how many signs two rows share at their beginning -/
def cpl : List Nat → List Nat → Nat
  | a :: as, b :: bs => if a = b then cpl as bs + 1 else 0
  | _, _ => 0
theorem cpl_of : ∀ {a b : List Nat} {k : Nat}, k ≤ a.length → k ≤ b.length → a.take k = b.take k → (∀ x y, a[k]? = some x → b[k]? = some y → x ≠ y) → cpl a b = k
  | [], b, k, h1, _, _, _ => by
    have : k = 0 := by simpa using h1
    subst this
    cases b <;> rfl
  | a :: as, [], k, _, h2, _, _ => by
    have : k = 0 := by simpa using h2
    subst this
    rfl
  | a :: as, b :: bs, 0, _, _, _, hd => by
    show (if a = b then cpl as bs + 1 else 0) = 0
    rw [if_neg (hd a b rfl rfl)]
  | a :: as, b :: bs, k + 1, h1, h2, ht, hd => by
    rw [List.take_succ_cons, List.take_succ_cons] at ht
    have e1 := (List.cons.inj ht).1
    have e2 := (List.cons.inj ht).2
    show (if a = b then cpl as bs + 1 else 0) = k + 1
    rw [if_pos e1, cpl_of (by simpa using h1) (by simpa using h2) e2 (fun x y hx hy => hd x y (by simpa using hx) (by simpa using hy))]
/-- the longest text with which both begin -/
def com (a b : Str) : Str := ⟨((cs a).take (cpl (cs a) (cs b))).toArray⟩
theorem com_of {a b : Str} {k : Nat} (h1 : k ≤ (cs a).length) (h2 : k ≤ (cs b).length) (ht : (cs a).take k = (cs b).take k) (hd : ∀ x y, (cs a)[k]? = some x → (cs b)[k]? = some y → x ≠ y) {z : Str} (hz : cs z = (cs a).take k) : z = com a b := by
  refine str_ext ?_
  show cs z = (cs a).take (cpl (cs a) (cs b))
  rw [hz, cpl_of h1 h2 ht hd]
/-- b at the beginning of a -/
def isPre (b a : Str) : Bool := decide ((cs a).take (cs b).length = cs b)
theorem starts (a b : Str) : Txt.startswith a b = isPre b a := by
  unfold Txt.startswith isPre
  have e : (Builtin.Str.subAt a b 0) = decide ((cs a).take (cs b).length = cs b) := by
    unfold Builtin.Str.subAt
    rw [Nat.zero_add, len_cs b]
    have e1 : (a.cps.extract 0 (cs b).length).toList = (cs a).take (cs b).length := by simp
    by_cases h : (cs a).take (cs b).length = cs b
    · have e2 : a.cps.extract 0 (cs b).length = b.cps := Array.toList_inj.mp (e1.trans h)
      rw [e2, decide_eq_true h]
      simp
    · rw [decide_eq_false h]
      refine beq_eq_false_iff_ne.mpr fun e2 => h ?_
      rw [← e1, e2]
  rw [e, Nat.zero_add]
  by_cases h : (cs a).take (cs b).length = cs b
  · have l := congrArg List.length h
    rw [List.length_take] at l
    rw [decide_eq_true h, len_cs a, len_cs b, decide_eq_true (by omega)]
    rfl
  · rw [decide_eq_false h, Bool.and_false]
theorem isPre_long {a b : Str} (h : (cs a).length < (cs b).length) : isPre b a = false := by
  refine decide_eq_false fun e => ?_
  have l := congrArg List.length e
  rw [List.length_take] at l
  omega
/-- the places below j at which the two differ -/
def diffs (a b : List Nat) (j : Nat) : List Nat := (List.range j).filter fun k => !decide (a.getD k 0 = b.getD k 0)
theorem diffs_succ (a b : List Nat) (j : Nat) : diffs a b (j + 1) = if (!decide (a.getD j 0 = b.getD j 0)) = true then diffs a b j ++ [j] else diffs a b j := by
  unfold diffs
  rw [List.range_succ, List.filter_append]
  by_cases h : (!decide (a.getD j 0 = b.getD j 0)) = true
  · rw [if_pos h, List.filter_cons_of_pos (p := fun k => !decide (a.getD k 0 = b.getD k 0)) h]
    rfl
  · rw [if_neg h, List.filter_cons_of_neg (p := fun k => !decide (a.getD k 0 = b.getD k 0)) h]
    exact List.append_nil _
theorem diffs_nil {a b : List Nat} : ∀ {j : Nat}, j ≤ a.length → j ≤ b.length → ((diffs a b j).isEmpty = true ↔ a.take j = b.take j)
  | 0, _, _ => by simp [diffs]
  | j + 1, h1, h2 => by
    have ih := diffs_nil (a := a) (b := b) (j := j) (by omega) (by omega)
    unfold diffs at ih ⊢
    rw [List.range_succ, List.filter_append, List.take_add_one, List.take_add_one, List.getElem?_eq_getElem (show j < a.length by omega), List.getElem?_eq_getElem (show j < b.length by omega)]
    have g1 : a.getD j 0 = a[j] := by rw [List.getD_eq_getElem?_getD, List.getElem?_eq_getElem (show j < a.length by omega)]; rfl
    have g2 : b.getD j 0 = b[j] := by rw [List.getD_eq_getElem?_getD, List.getElem?_eq_getElem (show j < b.length by omega)]; rfl
    by_cases e : a[j] = b[j]
    · have f : [j].filter (fun k => !decide (a.getD k 0 = b.getD k 0)) = [] := by
        rw [List.filter_cons_of_neg (by rw [g1, g2, e]; simp)]
        rfl
      rw [f, List.append_nil, ih, e]
      exact ⟨fun z => by rw [z], fun z => (List.append_inj' z rfl).1⟩
    · have f : [j].filter (fun k => !decide (a.getD k 0 = b.getD k 0)) = [j] := by
        rw [List.filter_cons_of_pos (by rw [g1, g2]; simp [e])]
        rfl
      rw [f]
      constructor
      · intro z
        simp at z
      · intro z
        have l : (a.take j).length = (b.take j).length := by rw [List.length_take, List.length_take]; omega
        have z2 := (List.append_inj z l).2
        exact absurd (by simpa using z2) e
theorem diffs_pre {a b : Str} (h : (cs b).length ≤ (cs a).length) : (diffs (cs a) (cs b) (cs b).length).isEmpty = isPre b a := by
  have z := diffs_nil (a := cs a) (b := cs b) h (Nat.le_refl _)
  rw [List.take_length] at z
  unfold isPre
  cases e : (diffs (cs a) (cs b) (cs b).length).isEmpty with
  | true => rw [decide_eq_true (z.mp e)]
  | false => rw [decide_eq_false fun q => by rw [z.mpr q] at e; cases e]
/-! ### marks that are texts, in their order -/
def ltS (zs : List Str) (a b : Nat) : Bool := decide (cs (zs.getD a Str.empty) < cs (zs.getD b Str.empty) ∨ (cs (zs.getD a Str.empty) = cs (zs.getD b Str.empty) ∧ a < b))
theorem ltS_irr (zs : List Str) (a : Nat) : ltS zs a a = false := decide_eq_false fun h => by
  rcases h with h | ⟨_, h⟩
  · exact absurd h (List.lt_irrefl _)
  · omega
theorem ltS_tr (zs : List Str) (a b c : Nat) (h1 : ltS zs a b = true) (h2 : ltS zs b c = true) : ltS zs a c = true := by
  have h1 := of_decide_eq_true h1
  have h2 := of_decide_eq_true h2
  refine decide_eq_true ?_
  rcases h1 with h1 | ⟨h1, l1⟩
  · rcases h2 with h2 | ⟨h2, l2⟩
    · exact .inl (List.lt_trans h1 h2)
    · exact .inl (by rw [← h2]; exact h1)
  · rcases h2 with h2 | ⟨h2, l2⟩
    · exact .inl (by rw [h1]; exact h2)
    · exact .inr ⟨h1.trans h2, by omega⟩
theorem ltS_tot (zs : List Str) (a b : Nat) (h : a ≠ b) : ltS zs a b = true ∨ ltS zs b a = true := by
  unfold ltS
  generalize cs (zs.getD a Str.empty) = x
  generalize cs (zs.getD b Str.empty) = y
  by_cases e : x = y
  · by_cases l : a < b
    · exact .inl (decide_eq_true (.inr ⟨e, l⟩))
    · exact .inr (decide_eq_true (.inr ⟨e.symm, by omega⟩))
  · by_cases l : x < y
    · exact .inl (decide_eq_true (.inl l))
    · exact .inr (decide_eq_true (.inl (by
        have l2 : y ≤ x := List.not_lt.mp l
        rcases List.le_iff_lt_or_eq.mp l2 with z | z
        · exact z
        · exact absurd z.symm e)))
def keyS (zs : List Str) (b : Nat) : PyData := .tuple [.str (zs.getD b Str.empty), .int (b : Int)]
theorem dataLt_si (x : Str) (i : Int) (y : Str) (j : Int) : PySem.W.dataLt (.tuple [.str x, .int i]) (.tuple [.str y, .int j]) = decide (cs x < cs y ∨ (cs x = cs y ∧ i < j)) := by
  rw [PySem.W.dataLt_pair (by simp [PySem.W.alike]) (by simp [PySem.W.alike]), PySem.W.dataLt_int, PySem.W.dataLt_str]
  by_cases e : x = y
  · subst e
    have n : ¬ cs x < cs x := List.lt_irrefl _
    rw [if_pos (show PyData.eqv (.str x) (.str x) = true by simp [PyData.eqv])]
    by_cases e2 : i = j
    · rw [if_pos (show PyData.eqv (.int i) (.int j) = true by simp [PyData.eqv, e2])]
      exact (decide_eq_false fun h => h.elim n fun z => by omega).symm
    · rw [if_neg (show ¬ PyData.eqv (.int i) (.int j) = true by simp [PyData.eqv, e2])]
      exact decide_eq_decide.mpr ⟨fun h => .inr ⟨rfl, h⟩, fun h => h.elim (fun z => absurd z n) fun z => z.2⟩
  · have e3 : ¬ cs x = cs y := fun z => e (str_ext z)
    rw [if_neg (show ¬ PyData.eqv (.str x) (.str y) = true by simp [PyData.eqv, e])]
    exact decide_eq_decide.mpr ⟨.inl, fun h => h.elim id fun z => absurd z.1 e3⟩
theorem leS (zs : List Str) : PySem.W.dataLe false (keyS zs) = fun a b => !ltS zs b a := by
  rw [PySem.W.dataLe_eq]
  funext a b
  show (!PySem.W.dataLt (keyS zs b) (keyS zs a)) = _
  unfold keyS ltS
  rw [dataLt_si]
  refine congrArg (fun q : Bool => !q) (decide_eq_decide.mpr ⟨fun h => ?_, fun h => ?_⟩)
  · exact h.imp id fun z => ⟨z.1, by omega⟩
  · exact h.imp id fun z => ⟨z.1, by omega⟩
/-! ### (text, int) < (text, int) -/
def rLtSI (K : PySem.W.Frag) : R2 := fun x y H Q => ∃ (a b : Addr) (z w : Str) (i j : Int), x = .ref a ∧ y = .ref b ∧ SqT K H a [.str z, .int i] ∧ SqT K H b [.str w, .int j] ∧ Q (.bl (decide (cs z < cs w ∨ (cs z = cs w ∧ i < j)))) H
theorem op_ltSI {X : Cx} {K : PySem.W.Frag} (hu : X.A.units + 64 < cLine) (hK : X.K = K := by rfl) : OpR X (compareOp .Lt) (rLtSI K) := by
  subst hK
  intro pins s σ H x y v u Q I rx ry h
  obtain ⟨a, b, z, w, i, j, rfl, rfl, ha, hb, q⟩ := h
  cases rx
  cases ry
  obtain ⟨us, r1, p1, _⟩ := I.tuple ha
  obtain ⟨ws, r2, p2, _⟩ := I.tuple hb
  have rd : ∀ {c : Addr} {us : List Value} {z : Str} {i : Int}, Vals [V.str z, V.int i] us → IsTup s.heap c us.toArray → Reads s.heap (.ref c) (.tuple [.str z, .int i]) [] := fun {c us z i} r p => by
    obtain ⟨u1, u2, rfl, ⟨t1, rfl⟩, ⟨t2, rfl⟩⟩ := vals2 r
    obtain ⟨o, h1, h2, n, h3⟩ := p
    exact Reads.tuple (as := [] ++ ([] ++ [])) h1 h2 h3 (.cons (.str z t1) (.cons (.int i t2) .nil))
  have e := PySem.W.rcLt_alike (.tuple [.str z, .int i]) (.tuple [.str w, .int j]) X.A s (.ref a) (.ref b) [] [] (rd r1 p1) (rd r2 p2) (by simp [PySem.W.alike, PySem.W.alikeAll]) (fun z => by cases z) (by
    have : min (PyData.tuple [.str z, .int i]).depth (PyData.tuple [.str w, .int j]).depth ≤ 64 := Nat.le_trans (Nat.min_le_left _ _) (by show 1 ≤ 64; decide)
    omega)
  rw [dataLt_si] at e
  exact e X.prog X.w X.xe _ ⟨.bl _, H, I, rfl, q⟩
/-! ### a == [] of a list -/
def rEqNilL (K : PySem.W.Frag) : R2 := fun x y H Q => ∃ (a b : Addr) (xs : List V), x = .ref a ∧ y = .ref b ∧ SqL K H a xs ∧ SqL K H b [] ∧ Q (.bl xs.isEmpty) H
theorem op_eqNilL {X : Cx} {K : PySem.W.Frag} (hu : X.A.units + 64 < cLine) (hK : X.K = K := by rfl) : OpR X (compareOp .Eq) (rEqNilL K) := by
  subst hK
  intro pns s σ H x y v u Q I rx ry h
  obtain ⟨a, b, xs, rfl, rfl, ha, hb, q⟩ := h
  cases (show v = Value.ref a from rx)
  cases (show u = Value.ref b from ry)
  obtain ⟨us, r1, p1, _⟩ := I.list ha
  obtain ⟨ws, r2, p2, _⟩ := I.list hb
  cases r2
  cases r1 with
  | nil =>
    exact SeqAt.eq_listAt (e := fun _ => true) p1.isList p2.isList rfl (by omega) (fun j h1 h2 => absurd h2 (by simp)) ⟨.bl true, H, I, rfl, q⟩
  | cons a1 b1 => exact SeqAt.eq_list_lengthsAt p1.isList p2.isList (by simp) (by omega) ⟨.bl false, H, I, rfl, q⟩
end WD
set_option Elab.async false
set_option linter.all false
set_option maxRecDepth 100000
set_option maxHeartbeats 4000000
namespace GD
open PySem PySem.Spec PyProof.Rows L2 CM LamX
/-! ### promises of defs that are called where no repr runs -/
structure FnG (P : Program) (w : World) (K : PySem.W.Frag) (mg : Str → Option Value) (base : Heap) (CX : CXT) (k : Nat) (f : Addr) (fd : FuncData) (ps : List Str) (sp : Sp) : Prop where
  len : ∀ vs H Q E, sp vs H Q E → vs.length = ps.length
  run : ∀ (A : Around) (outer : List Env) (s : Shared) (H : Hp) (args : Args) (us : List Value) (vs : List V) (Q : VK) (E : XK), Room k A → A.guards = some [] → Env0 P w K mg base A outer s H →
    BindsTo s fd args (ps.zip us) → Vals vs us → sp vs H Q E → codeAny (model P w) A (.call (.ref f) args) (CR CX outer P w H s Q E) s
section
variable {P : Program} {w : World} {K : PySem.W.Frag} {mg : Str → Option Value} {base : Heap} {CX : CXT} {k j : Nat} {f : Addr} {fd : FuncData} {ps : List Str} {sp : Sp}
theorem FnG.of (F : FnOk P w K mg base CX k f fd ps sp) : FnG P w K mg base CX k f fd ps sp := ⟨F.len, fun A outer s H args us vs Q E hr _ => F.run A outer s H args us vs Q E hr⟩
theorem FnG.mono (F : FnG P w K mg base CX j f fd ps sp) (h : j ≤ k) : FnG P w K mg base CX k f fd ps sp := ⟨F.len, fun A outer s H args us vs Q E hr => F.run A outer s H args us vs Q E (hr.mono h)⟩
variable {x qual : Str} {params : Arguments} {body : List Stmt} {scope : Scope} {dvs : List V} {kws : List (Str × V)}
theorem okG {N : List Str} (F : FunD K x qual params body scope dvs kws f fd) (S : FnScope N ps scope) (len : ∀ vs H Q E, sp vs H Q E → vs.length = ps.length)
    (hbody : ∀ (cdv : Value) (A : Around) (outer : List Env) (s : Shared) (H : Hp) (vs : List V) (Q : VK) (E : XK), Room k (A.deeper (envOfC qual scope s.heap.objs.size f cdv)) → A.guards = some [] → sp vs H Q E →
      ∃ t, PSs (cxOf CX P w K mg base N qual scope f cdv A outer s H E) body t ∧ t { nx := fun _ H' => Q .non H', rt := Q } (start N vs) H) : FnG P w K mg base CX (k + 1) f fd ps sp := by
  obtain ⟨oc, od, dV, kV, doc, pm, an, cdv, ct, osl, hfd, lk, hcd, _, _⟩ := F.ex
  subst hfd
  refine ⟨len, fun A outer s0 H args us vs Q E room gd e0 bt rv asked => ?_⟩
  have old : ∀ b o, base.get? b = some o → s0.heap.get? b = some o := fun b o e => (e0.bs b o e).1
  refine codeAny_call_function room.depth (e0.mod.kin.keeps old _ _ lk) rfl S.co S.gen rfl (PySem.W.codeRec_of (e0.mod.kin.keeps old) hcd) (bt _ _ _ _ (wpAny_newFunctionEnv_cells S.kind (fun y hy => ?_) fun env he t x => ?_))
  · exact (S.par y.1 (List.of_mem_zip (show (y.1, y.2) ∈ ps.zip us from hy)).1).elim .inl fun q => .inr ⟨q, PySem.W.cellsFrom_some _ _ _ (.inl q)⟩
  · subst he
    obtain ⟨tt, ht, rd⟩ := hbody cdv A outer s0 H vs Q E (room.deeper _) gd asked
    have J : Inv (cxOf CX P w K mg base N qual scope f cdv A outer s0 H E) [] (start N vs) H t := inv_start S room.hd e0 (len _ _ _ _ asked) rv x
    refine ⟨(e0.mod.nolimit.keeps old).keeps x.toInCall.keep, codeAny_func (wpAny_mono (ht.run [] t (start N vs) H _ J rd) (fun fl t2 got => ?_) fun _ _ got => got)⟩
    cases fl with
    | ret u => obtain ⟨v, σ2, H2, J2, r2, q2⟩ := got; exact ⟨v, H2, J2.os, J2.bare, J2.base, J2.hok, r2, q2⟩
    | next => obtain ⟨σ2, H2, J2, q2⟩ := got; exact ⟨V.non, H2, J2.os, J2.bare, J2.base, J2.hok, rfl, q2⟩
    | brk =>
      obtain ⟨_, _, _, z⟩ := got
      exact False.elim z
    | cont =>
      obtain ⟨_, _, _, z⟩ := got
      exact False.elim z
end
/-! ### calls of such defs -/
section
variable {X : Cx} {CX : CXT} {k : Nat} {f : Addr} {fd : FuncData} {ps : List Str} {sp : Sp} {dvs : List V} {ds : List Value} {E : XK} {x : Str} {e : Expr} {es : List Expr} {t : TA} {p pos : Pos}
theorem run_fnG {pins : List (Addr × Obj)} {σ : L2.St} {H : Hp} {s : Shared} {Q : VK} {us : List Value} {vs : List V} (F : FnG X.prog X.w X.K X.mg X.base CX k f fd ps sp) (hr : Room k X.A) (gd : X.A.guards = some []) (hb : Binds X.K fd ps ds) (hd : Vals dvs ds) (hx : Passes CX X E)
    (I : Inv X pins σ H s) (r : Vals vs us) (h : sp (vs ++ dvs) H Q E) : wpAny (model X.prog X.w) X.A (call (.ref f) us) (EP X pins σ Q) X.xe s := by
  have rr := r.append hd
  refine wpAny_call (codeAny_mono (F.run X.A X.stack s H ⟨us, []⟩ (us ++ ds) (vs ++ dvs) Q E hr gd I.env0 (hb s us I.kIn (rr.length.symm.trans (F.len _ _ _ _ h))) rr h) fun res s2 got => ?_)
  match res, got with
  | .error er, got => exact hx pins σ H s er s2 I got
  | .ok (.ret u), got => exact I.after got
  | .ok .next, got => exact False.elim got
  | .ok .brk, got => exact False.elim got
  | .ok .cont, got => exact False.elim got
theorem pe_callG (F : FnG X.prog X.w X.K X.mg X.base CX k f fd ps sp) (hr : Room k X.A) (gd : X.A.guards = some []) (hg : Gl X x) (hm : X.mg x = some (.ref f)) (hk : PySem.W.keepIn X.K (.ref f) = true) (hb : Binds X.K fd ps ds) (hd : Vals dvs ds) (hx : Passes CX X E)
    (ha : PA X (e :: es) t) (hdb : (x == ("__debug__" : Str)) = false := by decide) (he : starEach (e :: es) X.env = (false, eval e X.env) :: starEach es X.env := by rfl) (hpl : (backTo pos (starEach es X.env)).any (·.1) = false := by rfl) :
    PE X (.Call (.Name x p) (e :: es) [] pos) (tCall sp dvs E t) :=
  ⟨fun pins s σ H Q I h => wpAny_Call_Name_kw (ld_glob I hg hm (PySem.W.callWith_K (h₀ := X.base) I.ok.mod.kin hk (thn (ha.run pos pins s σ H _ I h) fun us s1 ⟨vs, H1, I1, r, q⟩ => ⟨I1.kIn, run_fnG F hr gd hb hd hx I1 r q⟩) he hpl) hdb)⟩
theorem pe_callG0 (F : FnG X.prog X.w X.K X.mg X.base CX k f fd ps sp) (hr : Room k X.A) (gd : X.A.guards = some []) (hg : Gl X x) (hm : X.mg x = some (.ref f)) (hk : PySem.W.keepIn X.K (.ref f) = true) (hb : Binds X.K fd ps ds) (hd : Vals dvs ds) (hx : Passes CX X E)
    (hdb : (x == ("__debug__" : Str)) = false := by decide) : PE X (.Call (.Name x p) [] [] pos) (tCall sp dvs E tNil) :=
  ⟨fun pins s σ H Q I h => wpAny_Call_Name_kw (ld_glob I hg hm (PySem.W.callWith_K0 I.kIn hk (run_fnG (us := []) F hr gd hb hd hx I .nil h)) hdb)⟩
end
/-- such a def of the text, by the module's name of it -/
structure CalG (P : Program) (w : World) (K : PySem.W.Frag) (mg : Str → Option Value) (base : Heap) (CX : CXT) (x : Str) (k : Nat) (ps : List Str) (sp : Sp) : Prop where
  ex : ∃ (f : Addr) (fd : FuncData), FnG P w K mg base CX k f fd ps sp ∧ Binds K fd ps [] ∧ mg x = some (.ref f) ∧ PySem.W.keepIn K (.ref f) = true
/-! ### the end -/
section
variable {P : Program} {w : World} {K : PySem.W.Frag} {mg mb : Str → Option Value} {CX : CXT} {k : Nat} {fa a : Addr} {cs : List (Addr × Addr)} {fd : FuncData} {x : Str} {sp : Sp} {g : Shared} {vs : List Value} {ns : List Int}
/-- what is tracked when the law is called: the script, unless it is written, and the tables -/
def H0 (K : PySem.W.Frag) (a : Addr) (ob : Obj) (xs : List V) (T : List Addr) : Hp := fun b => if b ∈ T then some (.tbl #[]) else if b = a ∧ K.lookup a = none then some (.frz ob (.lst xs)) else none
theorem H0_cases {ob : Obj} {xs : List V} {T : List Addr} {b : Addr} {u : HO} (e : H0 K a ob xs T b = some u) : (b ∈ T ∧ u = .tbl #[]) ∨ (b ∉ T ∧ b = a ∧ K.lookup a = none ∧ u = .frz ob (.lst xs)) := by
  unfold H0 at e
  by_cases h : b ∈ T
  · rw [if_pos h] at e
    exact .inl ⟨h, (Option.some.inj e).symm⟩
  · rw [if_neg h] at e
    by_cases h2 : b = a ∧ K.lookup a = none
    · rw [if_pos h2] at e
      exact .inr ⟨h, h2.1, h2.2, (Option.some.inj e).symm⟩
    · rw [if_neg h2] at e
      cases e
theorem law_callG (KX : K.In g.heap) (hns : g.heap.Ns mainGlobals mg) (hb : g.heap.Ns builtinsNs mb) (hbb : ∀ y : Str, y ≠ "__name__" → mb y = bootBuiltins y) (lim : g.heap.NoLimit) (gens : g.gens = #[])
    (hT : ∀ p ∈ cs, g.heap.get? p.2 = some { cls := .none, data := .fields #[] }) (nT : ∀ p ∈ cs, K.lookup p.2 = none) (hC : ∀ p ∈ cs, PySem.W.CodeHd g.heap p.1 p.2)
    (bm : ∃ (bm : Addr) (ob : Obj), mg "__builtins__" = some (.ref bm) ∧ bm ≠ builtinsNs ∧ g.heap.get? bm = some ob ∧ ob.cls = .type "module" ∧ ob.dict = some builtinsNs ∧ ob.data = .plain)
    (ha : g.heap.get? a = some { cls := .type "list", data := .seq vs.toArray }) (hi : IntsAre vs ns) (hl : ns.length ≤ sizeLine) (room : Room k callerA)
    (F : ∀ base : Heap, K.In base → base.Ns mainGlobals mg → (∀ p ∈ cs, TabB base mg p.1 p.2) → FnG P w K mg base CX k fa fd [x] sp) (bind : ∀ (s : Shared) (u : Value), BindsTo s fd ⟨[u], []⟩ [(x, u)])
    (asked : ∀ H : Hp, (∀ p ∈ cs, H p.2 = some (.tbl #[])) → SqL K H a (ns.map V.int) → sp [.ref a] H (fun v _ => v = .bl true) fun _ _ _ => False)
    (noX : ∀ H e s2, CX [] H g (fun _ _ _ => False) e s2 → False) :
    codeAny (model P w) callerA (.call (.ref fa) ⟨[.ref a], []⟩) (fun r s2 => r = .ok (.ret (.bool true)) ∧ OldK g.heap s2.heap ∧ s2.os = g.os ∧ AllBare s2.gens) g := by
  have rv := vals_ints hi
  have lv := hi.length
  generalize hTs : cs.map (·.2) = T
  have tabAt : ∀ b ∈ T, g.heap.get? b = some { cls := .none, data := .fields #[] } ∧ K.lookup b = none := fun b m => by
    rw [← hTs] at m
    obtain ⟨p, hp, rfl⟩ := List.mem_map.mp m
    exact ⟨hT p hp, nT p hp⟩
  have inT : ∀ p ∈ cs, p.2 ∈ T := fun p hp => hTs ▸ List.mem_map.mpr ⟨p, hp, rfl⟩
  have aT : a ∉ T := fun m => by
    have z := (tabAt a m).1
    rw [ha] at z
    cases z
  generalize hH : H0 K a { cls := .type "list", data := .seq vs.toArray } (ns.map V.int) T = H
  have cse : ∀ {b : Addr} {u : HO}, H b = some u → (b ∈ T ∧ u = .tbl #[]) ∨ (b ∉ T ∧ b = a ∧ K.lookup a = none ∧ u = .frz { cls := .type "list", data := .seq vs.toArray } (.lst (ns.map V.int))) := fun e => H0_cases (by rw [hH]; exact e)
  have tbl : ∀ p ∈ cs, H p.2 = some (.tbl #[]) := fun p hp => by
    rw [← hH]
    exact if_pos (inT p hp)
  have lsz : (ns.map V.int).length ≤ sizeLine := by rw [List.length_map]; exact hl
  have ok : HOk P w H g.heap := fun b u e => by
    rcases cse e with ⟨m, rfl⟩ | ⟨_, rfl, _, rfl⟩
    · exact (tabAt b m).1
    · exact ⟨ha, lsz, vs, _, rv, ha⟩
  have sq : SqL K H a (ns.map V.int) := by
    cases kl : K.lookup a with
    | none =>
      refine .inl (.inr ⟨{ cls := .type "list", data := .seq vs.toArray }, ?_⟩)
      rw [← hH]
      exact (if_neg aT).trans (if_pos ⟨rfl, kl⟩)
    | some o =>
      have z := KX a o kl
      rw [ha] at z
      cases z
      exact .inr ⟨_, vs.toArray, _, kl, rfl, rfl, rfl, by rw [List.size_toArray, lv]; exact hl, by simpa using rv⟩
  -- what is neither a table nor the script stands in the base
  have un : ∀ {b : Addr} {o : Obj}, g.heap.get? b = some o → (∀ its n, o.data ≠ .seq its n) → o.data ≠ .fields #[] → H b = none := fun {b o} e n1 n2 => by
    cases q : H b with
    | none => rfl
    | some u =>
      rcases cse q with ⟨m, _⟩ | ⟨_, rfl, _, _⟩
      · rw [(tabAt b m).1] at e
        cases e
        exact absurd rfl n2
      · rw [ha] at e
        cases e
        exact absurd rfl (n1 _ _)
  have unD : ∀ {b : Addr} {o : Obj} {es : Array DictEntry} {ep : Nat}, g.heap.get? b = some o → o.data = .dict es ep → H b = none := fun e d => un e (fun its n z => by rw [d] at z; cases z) fun z => by rw [d] at z; cases z
  have nsB : ∀ {b : Addr} {m : Str → Option Value}, g.heap.Ns b m → (hidT g.heap H).Ns b m := fun ⟨o, es, ep, e, d, r⟩ => ⟨o, es, ep, hidT_get e (unD e d), d, r⟩
  have kB : K.In (hidT g.heap H) := fun b o e => hidT_get (KX b o e) (by
    cases q : H b with
    | none => rfl
    | some u =>
      rcases cse q with ⟨m, _⟩ | ⟨_, rfl, z, _⟩
      · rw [(tabAt b m).2] at e
        cases e
      · rw [z] at e
        cases e)
  have md : L2.Mod K mg (hidT g.heap H) := ⟨kB, nsB hns, ⟨mb, nsB hb, hbb⟩, by
    obtain ⟨mc, h1, h2⟩ := lim
    exact ⟨mc, nsB h1, h2⟩⟩
  have tb : ∀ p ∈ cs, TabB (hidT g.heap H) mg p.1 p.2 := fun p hp => by
    have tp := hT p hp
    have gG : mainGlobals ≠ p.2 := fun z => by
      obtain ⟨o, es, ep, e, d, _⟩ := hns
      rw [z, tp] at e
      cases e
      cases d
    refine ⟨?_, ?_, gG⟩
    · obtain ⟨o, us, file, tf, flags, tg, inF, text, tt, e1, r1, r2, r3, r4, r5, r6, r7, r8, ne⟩ := hC p hp
      have e2 : H p.1 = none := un e1 (fun its n z => by rw [r2] at z; cases z) fun z => by
        rw [r2] at z
        cases z
        simp at r3
      exact ⟨o, us, file, tf, flags, tg, inF, text, tt, hidT_get e1 e2, r1, r2, r3, r4, r5, r6, r7, r8, ne⟩
    · obtain ⟨bmA, ob, b1, b2, b3, b4, b5, b6⟩ := bm
      have nG : bmA ≠ mainGlobals := fun z => by
        obtain ⟨o, es, ep, e, d, _⟩ := hns
        rw [z, e] at b3
        cases b3
        rw [d] at b6
        cases b6
      have nP : bmA ≠ p.2 := fun z => by
        rw [z, tp] at b3
        cases b3
        cases b6
      exact ⟨bmA, ob, b1, b2, nG, nP, hidT_get b3 (un b3 (fun its n z => by rw [b6] at z; cases z) fun z => by rw [b6] at z; cases z), b4, b5, b6⟩
  have en : Env0 P w K mg (hidT g.heap H) callerA [] g H := ⟨rfl, md, fun b o e => of_hidT e, Nat.le_of_eq (hidT_size _ _), trivial, fun b m => absurd (show b ∈ ([] : List Addr) from m) (by simp), ok, .of_eq gens⟩
  refine codeAny_mono ((F _ kB (nsB hns) tb).run callerA [] g H ⟨[.ref a], []⟩ [.ref a] [.ref a] _ _ room rfl en (bind g (.ref a)) (.cons rfl .nil) (asked H tbl sq)) fun res s2 got => ?_
  match res, got with
  | .error er, got => exact (noX H er s2 got).elim
  | .ok .next, got => exact False.elim got
  | .ok .brk, got => exact False.elim got
  | .ok .cont, got => exact False.elim got
  | .ok (.ret u), ⟨v, H2, os, bare, kept, ok2, ru, (q : v = .bl true)⟩ =>
    subst q
    obtain rfl : u = Value.bool true := ru
    have key : ∀ b o, b ∉ T → g.heap.get? b = some o → s2.heap.get? b = some o := fun b o nb e => by
      cases q : H b with
      | none => exact kept.keep b o e q (fun m => absurd (show b ∈ ([] : List Addr) from m) (by simp)) (by simp)
      | some u =>
        rcases cse q with ⟨m, _⟩ | ⟨_, rfl, _, rfl⟩
        · exact absurd m nb
        · obtain ⟨z, _⟩ := ok2 b _ (kept.frzs b _ _ q)
          rw [ha] at e
          cases e
          exact z
    refine ⟨rfl, ⟨fun b o e => ?_, fun b o e => ?_⟩, os, bare⟩
    · by_cases m : b ∈ T
      · rw [← hTs] at m
        obtain ⟨p, hp, rfl⟩ := List.mem_map.mp m
        obtain ⟨more, z⟩ := kept.tbls p.2 #[] (tbl p hp)
        rw [hT p hp] at e
        cases e
        exact .inr (.inl ⟨((hC p hp).tab (hT p hp)).isCodeTable, rfl, #[], more, rfl, ok2 p.2 _ z⟩)
      · exact .inl (key b o m e)
    · by_cases m : b ∈ T
      · rw [← hTs] at m
        obtain ⟨p, hp, rfl⟩ := List.mem_map.mp m
        obtain ⟨more, z⟩ := kept.tbls p.2 #[] (tbl p hp)
        exact ⟨_, ok2 p.2 _ z⟩
      · exact ⟨o, key b o m e⟩
end
/-- a law by the promise of its def -/
def LawG (l : PySem.W.OpenLaw) (w : World) (K : PySem.W.Frag) (CX : CXT) (k n : Nat) (x : Str) (mg : Str → Option Value) (fa : Addr) (h : Heap) : Prop :=
  ∃ (fd : FuncData) (cs : List (Addr × Addr)) (sp : Sp), (∀ p ∈ cs, h.get? p.2 = some { cls := .none, data := .fields #[] } ∧ K.lookup p.2 = none ∧ PySem.W.CodeHd h p.1 p.2) ∧ (∀ (s : Shared) (u : Value), BindsTo s fd ⟨[u], []⟩ [(x, u)]) ∧
    (∀ (H : Hp) (a : Addr) (ns : List Int), ns.length ≤ n → (∀ p ∈ cs, H p.2 = some (.tbl #[])) → SqL K H a (ns.map V.int) → sp [.ref a] H (fun v _ => v = .bl true) fun _ _ _ => False) ∧
    ∀ base : Heap, K.In base → base.Ns mainGlobals mg → (∀ p ∈ cs, TabB base mg p.1 p.2) → FnG l.prog w K mg base CX k fa fd [x] sp
theorem walk_G {l : PySem.W.OpenLaw} {n k : Nat} {q : Program} {loose : List Str} {XP : (Str → Option Value) → Heap → Prop} {YP : World → Heap → Prop} {d : DefRec} {CX : World → CXT} {x : Str}
    (most : l.most = some n) (n2 : n ≤ sizeLine) (plain : d.params.defaults = []) (room : Room k callerA)
    (F : ∀ (w : World) (mg : Str → Option Value) (fa : Addr) (h : Heap), YP w h → h.Ns mainGlobals mg → mg d.name = some (.ref fa) → ∃ K : PySem.W.Frag, K.In h ∧ LawG l w K (CX w) k n x mg fa h)
    (noX : ∀ (w : World) (H : Hp) (s : Shared) (e : Value) (s2 : Shared), CX w [] H s (fun _ _ _ => False) e s2 → False) :
    PySem.W.WalkO q loose XP YP l.row.toRowW d [] (fun f vs => PySem.call f vs) := by
  refine Att.attach_callB most plain fun w s0 g mg mb fa o pm cd doc a vs ns G Y ho hd hcd hmg hobj hints hlen hbits hg => ?_
  obtain ⟨K, KX, fd, cs, sp, hT, hb, asked, hF⟩ := F w mg fa _ Y G.T.g hmg
  exact law_callG KX G.T.g G.T.b G.T.builtins G.T.nolimit hg (fun p hp => (hT p hp).1) (fun p hp => (hT p hp).2.1) (fun p hp => (hT p hp).2.2) G.T.bmain hobj hints (Nat.le_trans hlen n2) room hF hb (fun H hH hS => asked H a ns hlen hH hS) fun H e s2 => noX w H g e s2
end GD
set_option Elab.async false
set_option linter.all false
set_option maxRecDepth 100000
set_option maxHeartbeats 4000000
namespace RZ
open PySem PySem.Spec PyProof.Rows L2 CM LamX
/-! ### what a value shows -/
mutual
inductive Shw (H : Hp) : V → PyData → Prop
  | non : Shw H .non .none
  | bl (b : Bool) : Shw H (.bl b) (.bool b)
  | int (i : Int) : Shw H (.int i) (.int i)
  | str (z : Str) : Shw H (.str z) (.str z)
  | lst {a : Addr} {xs : List V} {ds : List PyData} : H a = some (.lst xs) → ShwAll H xs ds → Shw H (.ref a) (.list ds)
  | tup {a : Addr} {xs : List V} {ds : List PyData} : H a = some (.tup xs) → ShwAll H xs ds → Shw H (.ref a) (.tuple ds)
inductive ShwAll (H : Hp) : List V → List PyData → Prop
  | nil : ShwAll H [] []
  | cons {v : V} {vs : List V} {d : PyData} {ds : List PyData} : Shw H v d → ShwAll H vs ds → ShwAll H (v :: vs) (d :: ds)
end
mutual
theorem Shw.noDict {H : Hp} : ∀ {v : V} {d : PyData}, Shw H v d → d.hasDict = false
  | _, _, .non => by simp only [PyData.hasDict]
  | _, _, .bl _ => by simp only [PyData.hasDict]
  | _, _, .int _ => by simp only [PyData.hasDict]
  | _, _, .str _ => by simp only [PyData.hasDict]
  | _, _, .lst _ h => by
    simp only [PyData.hasDict]
    exact h.noDict
  | _, _, .tup _ h => by
    simp only [PyData.hasDict]
    exact h.noDict
theorem ShwAll.noDict {H : Hp} : ∀ {vs : List V} {ds : List PyData}, ShwAll H vs ds → PyData.hasDictAll ds = false
  | _, _, .nil => by simp only [PyData.hasDictAll]
  | _, _, .cons h t => by simp only [PyData.hasDictAll, h.noDict, t.noDict, Bool.or_self]
end
mutual
theorem Shw.reads {P : Program} {w : World} {H : Hp} {h : Heap} (ok : HOk P w H h) : ∀ {v : V} {d : PyData}, Shw H v d → ∀ {u : Value}, RelV v u → ∃ as, Reads h u d as
  | _, _, .non, u, r => by
    obtain rfl : u = Value.none := r
    exact ⟨_, .none⟩
  | _, _, .bl b, u, r => by
    obtain rfl : u = Value.bool b := r
    exact ⟨_, .bool b⟩
  | _, _, .int i, u, r => by
    obtain ⟨t, rfl⟩ := r
    exact ⟨_, .int i t⟩
  | _, _, .str z, u, r => by
    obtain ⟨t, rfl⟩ := r
    exact ⟨_, .str z t⟩
  | _, _, .lst (a := a) e hs, u, r => by
    obtain rfl : u = Value.ref a := r
    obtain ⟨_, its, n, rv, g⟩ := (show ObjOk P w H h a (.lst _) from ok a _ e)
    obtain ⟨as, ra⟩ := hs.reads ok rv
    exact ⟨_, .list g rfl rfl (by simpa using ra)⟩
  | _, _, .tup (a := a) e hs, u, r => by
    obtain rfl : u = Value.ref a := r
    obtain ⟨_, its, rv, o, g, hc, n, hd⟩ := (show ObjOk P w H h a (.tup _) from ok a _ e)
    obtain ⟨as, ra⟩ := hs.reads ok rv
    exact ⟨_, .tuple g hc hd (by simpa using ra)⟩
theorem ShwAll.reads {P : Program} {w : World} {H : Hp} {h : Heap} (ok : HOk P w H h) : ∀ {vs : List V} {ds : List PyData}, ShwAll H vs ds → ∀ {us : List Value}, Vals vs us → ∃ as, ReadsAll h us ds as
  | _, _, .nil, _, .nil => ⟨_, .nil⟩
  | _, _, .cons h1 t1, _, .cons r1 r2 => by
    obtain ⟨a1, e1⟩ := h1.reads ok r1
    obtain ⟨a2, e2⟩ := t1.reads ok r2
    exact ⟨_, .cons e1 e2⟩
end
/-- what repr tells of it -/
def Says (H : Hp) (v : V) (d : PyData) : Prop := Shw H v d ∨ ∃ a, v = .ref a ∧ H a = some (.dK []) ∧ d = .dict []
section
variable {X : Cx}
theorem call_reprD (gd : X.A.guards = some []) (hu : X.A.units + 90 < cLine) : CallR X (.builtin "repr") (fun xs H Q => ∃ v d, xs = [v] ∧ Says H v d ∧ d.showable = true ∧ d.depth ≤ 80 ∧ d.shown.length ≤ sizeLine ∧ Q (.str d.shown) H) := by
  intro pins s σ H xs us Q I r h
  obtain ⟨v, d, rfl, hs, hz, hd, hl, q⟩ := h
  obtain ⟨u, rfl, ru⟩ : ∃ u, us = [u] ∧ RelV v u := by
    cases r with
    | cons a b =>
      cases b
      exact ⟨_, rfl, a⟩
  obtain ⟨as, ra, hsm⟩ : ∃ as, Reads s.heap u d as ∧ (d.hasDict = true → sysModules ∉ as) := by
    rcases hs with hs | ⟨a, rfl, ha, rfl⟩
    · obtain ⟨as, ra⟩ := hs.reads I.hok ru
      exact ⟨as, ra, PyData.noDict_hsm hs.noDict⟩
    · obtain rfl : u = Value.ref a := ru
      obtain ⟨_, hn, vs, kv, ho⟩ := (show ObjOk X.prog X.w H s.heap a (.dK []) from I.hok a _ ha)
      cases kv
      obtain ⟨o, es, ep, g, hc, hd1, _, he, _⟩ := ho
      refine ⟨_, .dict (as := []) (bs := []) g hc.1 hd1 ?_ ?_, fun _ m => ?_⟩
      · have e0 : es.toList = [] := by
          generalize es.toList = l at he
          cases he
          rfl
        rw [e0]
        exact .nil
      · have e0 : es.toList = [] := by
          generalize es.toList = l at he
          cases he
          rfl
        rw [e0]
        exact .nil
      · have e1 : sysModules = a := by simpa using m
        rw [← e1] at hn
        simp at hn
  have fin : ∀ h' uu tk, (∀ b o, s.heap.get? b = some o → h'.get? b = some o) → EP X pins σ Q (.str d.shown uu) { s with heap := h', toks := tk } := fun h' uu tk k => ⟨.str d.shown, H, I.kept k, ⟨_, rfl⟩, q⟩
  cases ra with
  | none =>
    simp only [PyData.shown] at fin
    exact PySem.P.repr_of_none (fin s.heap _ _ fun _ _ e => e)
  | bool b =>
    simp only [PyData.shown] at fin
    exact PySem.P.repr_of_bool (fin s.heap _ _ fun _ _ e => e)
  | int i t =>
    simp only [PyData.shown] at fin
    exact PySem.P.repr_of_int (by simpa [PyData.showable] using hz) (fin s.heap _ _ fun _ _ e => e)
  | str x t =>
    simp only [PyData.shown] at fin
    exact PySem.P.repr_of_str (fin s.heap _ _ fun _ _ e => e) (by simpa only [PyData.shown] using hl)
  | list h1 h2 h3 h4 => exact repr_of_reads' (.list h1 h2 h3 h4) hz hsm gd (by omega) (fun _ _ e => e) (fun h' uu tk k => fin h' uu tk k) hl
  | tuple h1 h2 h3 h4 => exact repr_of_reads' (.tuple h1 h2 h3 h4) hz hsm gd (by omega) (fun _ _ e => e) (fun h' uu tk k => fin h' uu tk k) hl
  | dict h1 h2 h3 h4 h5 => exact repr_of_reads' (.dict h1 h2 h3 h4 h5) hz hsm gd (by omega) (fun _ _ e => e) (fun h' uu tk k => fin h' uu tk k) hl
/-! ### C(e, ..) in a try: __init__ may raise -/
def tMakeS (C : Addr) (sp : Sp) (E : L2.St → XK) (ta : TA) : TE := fun σ H Q => ta σ H fun vs H1 => ∀ x dx, H1 x = none → H1 dx = none → dx ≠ x → sp (.ref x :: vs) (upd (upd H1 dx (.own x)) x (.ins C dx [])) (fun v H2 => v = .non ∧ Q (.ref x) H2) (E σ)
end
section
variable {X : Cx} {CX : CXT} {k : Nat} {f C : Addr} {fd : FuncData} {ps : List Str} {sp : Sp} {E : L2.St → XK} {x : Str} {p pos : Pos} {e : Expr} {es : List Expr} {t : TA}
theorem pe_makeS (M : Mk X.K C f) (F : FnOk X.prog X.w X.K X.mg X.base CX k f fd ps sp) (hr : Room (k + 1) X.A) (hg : Gl X x) (hm : X.mg x = some (.ref C)) (hb : Binds X.K fd ps []) (hx : ∀ σ, PassesAt CX X σ (E σ)) (ha : PA X (e :: es) t)
    (hdb : (x == ("__debug__" : Str)) = false := by decide) (he : starEach (e :: es) X.env = (false, eval e X.env) :: starEach es X.env := by rfl) (hpl : (backTo pos (starEach es X.env)).any (·.1) = false := by rfl) :
    PE X (.Call (.Name x p) (e :: es) [] pos) (tMakeS C sp E t) := by
  refine ⟨fun pins s σ H Q I h => ?_⟩
  refine wpAny_Call_Name_kw (ld_glob I hg hm ?_ hdb)
  refine PySem.W.callWith_K (h₀ := X.base) I.ok.mod.kin M.kp (thn (ha.run pos pins s σ H _ I h) fun us s1 ⟨vs, H1, I1, r, q⟩ => ⟨I1.kIn, ?_⟩) he hpl
  have hq := q (s1.heap.objs.size + 1) s1.heap.objs.size (I1.hok.fresh (Nat.le_succ _)) (I1.hok.fresh (Nat.le_refl _)) (Nat.ne_of_lt (Nat.lt_succ_self _))
  have I2 := Inv.made (C := C) I1
  have r2 : Vals (V.ref (s1.heap.objs.size + 1) :: vs) (Value.ref (s1.heap.objs.size + 1) :: us) := .cons rfl r
  have hl : (Value.ref (s1.heap.objs.size + 1) :: us ++ []).length = ps.length := by
    have e := r2.length
    rw [F.len _ _ _ _ hq] at e
    rw [List.append_nil]
    exact e.symm
  have bb := hb _ (Value.ref (s1.heap.objs.size + 1) :: us) I2.kIn hl
  rw [List.append_nil] at bb
  refine wpAny_call (make_map (f := f) I1.kIn M.makes M.init (beq_iff_eq.mp M.fn) (codeAny_mono (F.run _ X.stack _ _ ⟨Value.ref (s1.heap.objs.size + 1) :: us, []⟩ (Value.ref (s1.heap.objs.size + 1) :: us) _ _ (E σ) (hr.make C us [])
    (I2.env0.make C us []) bb r2 hq) fun r s' hq' => ?_))
  cases r with
  | error e => exact hx σ pins _ _ e s' I2 hq'
  | ok fl =>
    cases fl with
    | ret u =>
      obtain ⟨v, H', I3, rv, ev, q3⟩ := I2.after hq'
      subst ev
      exact ⟨rv, ⟨V.ref (s1.heap.objs.size + 1), H', I3, rfl, q3⟩⟩
    | next => exact False.elim hq'
    | brk => exact False.elim hq'
    | cont => exact False.elim hq'
end
end RZ
set_option Elab.async false
set_option linter.all false
set_option maxRecDepth 100000
set_option maxHeartbeats 4000000
namespace SU
open PySem PySem.Spec PySem.Calls PyProof.Rows L2 CM LamX NdefX ClX
/-- what stands of a method of the class at C whose text says super().m(..), D the class of that text, f2 the def above -/
structure SupF (P : Program) (K : PySem.W.Frag) (C D f f2 : Addr) (m : Str) (F : NF) (fd : FuncData) : Prop where
  ex : ∃ (oc : Value) (od : Option Addr) (doc pm ct : Value) (osl : Array (Option Value)) (cc : Addr) (ccl : Value) (cdd : Option Addr) (vs : Array Value) (file : Str) (tf : Tok) (ccs : Array (Option Value)) (cl : Value) (cld : Option Addr) (csl : Array (Option Value)) (cdD cd : ClassData),
    fd = F.fd doc pm ct ∧ K.lookup f = some ⟨oc, od, .func (F.fd doc pm ct), osl⟩ ∧ F.cl = [(("__class__" : Str), cc)] ∧ PySem.W.codeIn K (.ref F.c) F.qual = true ∧ K.lookup F.c = some ⟨ccl, cdd, .fields vs, ccs⟩ ∧ vs[2]? = some (.str file tf) ∧ ((P.main.file : Str) == file) = true ∧
    K.lookup cc = some ⟨cl, cld, .cell (some (.ref D)), csl⟩ ∧ PySem.W.clsIn K D = some cdD ∧ PySem.W.mroIn K C (.ref D) = some true ∧ PySem.W.clsIn K C = some cd ∧ PySem.W.alongIn K m ((cd.mro.dropWhile (· != .ref D)).drop 1) = some (some (.ref f2)) ∧
    PySem.W.typeIn K (.ref f2) = some (.type "function") ∧ PySem.W.nsIn K cStatics "thirdparty.any" = some none ∧ PySem.W.fnIn K f2 = true
section
variable {P : Program} {w : World} {K : PySem.W.Frag} {mg : Str → Option Value} {base : Heap} {CX : CXT} {k : Nat}
theorem fnR_of {f : Addr} {fd : FuncData} {ps : List Str} {sp : Sp} (F : FnOk P w K mg base CX k f fd ps sp) (hb : Binds K fd ps []) : FnR P w K mg base CX k f sp := fun A outer s H us vs Q E hr e0 r h => by
  have hl : us.length = ps.length := by rw [← r.length]; exact F.len _ _ _ _ h
  have b := hb s us (e0.mod.kin.keeps fun b o e => (e0.bs b o e).1) (by rw [List.append_nil]; exact hl)
  rw [List.append_nil] at b
  exact F.run A outer s H ⟨us, []⟩ us vs Q E hr e0 b r h
def spSup (N ps : List Str) (C : Addr) (t : TA) (sp : Sp) : Sp := fun vs H Q E => vs.length = ps.length ∧ ∃ a dx fs, vs[0]? = some (.ref a) ∧ H a = some (.ins C dx fs) ∧ t (startF N vs [none]) H (fun ws H1 => sp (.ref a :: ws) H1 Q E)
theorem ok_super {C D f f2 : Addr} {m : Str} {F : NF} {fd : FuncData} {N ps ps' : List Str} {sp : Sp} {t : TA} {ar : Arg} {p0 p1 apos pos rp : Pos} {e : Expr} {es : List Expr} (S : NScope N ps ["__class__"] F.scope) (Z : SupF P K C D f f2 m F fd)
    (hps : ps = ar.arg :: ps') (hp : (F.params.posonlyargs ++ F.params.args).head? = some ar) (hks : F.scope.names.lookup ("super" : Str) = some .globalImplicit)
    (hbody : F.body = [.Return (some (.Call (.Attribute (.Call (.Name "super" p0) [] [] p1) m apos) (e :: es) [] pos)) rp])
    (htop : (P.main.scope.names.lookup ("super" : Str)).isSome = false) (msup : mg "super" = none) (hn : (m == ("__class__" : Str)) = false) (G : FnR P w K mg base CX k f2 sp)
    (ha : ∀ (g : Addr) (A : Around) (outer : List Env) (s : Shared) (H : Hp) (E : XK), PA (ncx CX P w K mg base N F g A outer s H E) (e :: es) t) (hx : ∀ (g : Addr) (A : Around) (outer : List Env) (s : Shared) (H : Hp) (E : XK), Passes CX (ncx CX P w K mg base N F g A outer s H E) E)
    (hst : ∀ env : Env, starEach (e :: es) env = (false, eval e env) :: starEach es env) (hpl : ∀ env : Env, (backTo pos (starEach es env)).any (·.1) = false)
    {pl : Env → Sem Bool} (hev : ∀ env : Env, eval (.Call (.Attribute (.Call (.Name "super" p0) [] [] p1) m apos) (e :: es) [] pos) env = (do
      let ov ← attributeBase (.Call (.Name "super" p0) [] [] p1) m env (eval (.Call (.Name "super" p0) [] [] p1) env)
      standAt apos.atName
      let (f, first) ← holding [ov] (getMethod ov m (pl env))
      callWith pos f first (backTo pos (starEach (e :: es) env)) [])) :
    FnOk P w K mg base CX (k + 1) f fd ps (spSup N ps C t sp) := by
  obtain ⟨oc, od, doc, pm, ct, osl, cc, ccl, cdd, cvs, file, tf, ccs, cl, cld, csl, cdD, cd, rfl, lk, hcl, hcd, hcode, hvs, hfile, hcell, hD, hsub, hC, hal, hty, hno, hfn⟩ := Z.ex
  refine ⟨fun vs H Q E h => h.1, fun A outer s H args us vs Q E hr e0 bt r h => ?_⟩
  obtain ⟨hl, a, dx, fs, h0, hi, hq⟩ := h
  have old : ∀ b o, base.get? b = some o → s.heap.get? b = some o := fun b o e => (e0.bs b o e).1
  have X0 : K.In s.heap := e0.mod.kin.keeps old
  have hH : ∀ {b : Addr} {o : Obj}, K.lookup b = some o → H b = none := fun {b o} e => (e0.bs b o (e0.mod.kin b o e)).2
  have Cl : CellsAt F.cl ["__class__"] [none] s.heap H := by
    refine ⟨rfl, fun y c z => ?_, fun x y c z1 z2 => ?_, fun i y z => ?_⟩
    · rw [hcl] at z
      have e1 : cc = c := by
        simp only [List.lookup] at z
        split at z
        · exact Option.some.inj z
        · cases z
      subst e1
      exact ⟨hH hcell, _, _, X0 _ _ hcell, rfl⟩
    · rw [hcl] at z1 z2
      simp only [List.lookup] at z1 z2
      split at z1
      · rename_i q1
        split at z2
        · rename_i q2
          rw [beq_iff_eq.mp q1, beq_iff_eq.mp q2]
        · cases z2
      · cases z1
    · cases i with
      | zero =>
        have e1 : "__class__" = y := Option.some.inj z
        subst e1
        exact ⟨cc, by rw [hcl]; rfl, fun v q => by cases q⟩
      | succ i => cases z
  refine PySem.ks_codeAny_call_defAt (fd := F.fd doc pm ct) (body := F.body) (binds := ps.zip us) hr.depth (X0 _ _ lk) rfl (e0.mod.nolimit.keeps old) (PySem.W.codeRec_of X0 hcd) rfl bt S.nocell (fun y hy => S.par _ (List.of_mem_zip (show (y.1, y.2) ∈ ps.zip us from hy)).1) (fun h₁ hns kp => ?_) S.co S.gen S.kind
  have I : Inv (ncx CX P w K mg base N F f A outer s H E) [] (startF N vs [none]) H { s with heap := h₁, toks := s.toks + (ps.zip us).length } := inv_startN S hr.hd e0 hl r Cl hns kp
  have hEnv : PySem.callEnv (F.fd doc pm ct) s.heap.objs.size f = envF F f s.heap.objs.size := rfl
  rw [hEnv]
  generalize hs1 : ({ s with heap := h₁, toks := s.toks + (ps.zip us).length } : Shared) = s1 at I ⊢
  have hs1h : s1.heap = h₁ := by rw [← hs1]
  rw [hbody]
  refine PySem.ks_wpAt_execs_cons (PySem.ks_wpAt_Return_some (PySem.ks_wpAt_MethodCall (pl := pl (envF F f s.heap.objs.size)) ?_ (hev _)))
  have lk1 := I.kIn _ _ lk
  have hk : (envF F f s.heap.objs.size).scope.kind = .function := S.kind
  have hfr : F.scope.names.lookup ("__class__" : Str) = some .free := S.frk _ (List.mem_singleton.mpr rfl)
  refine PySem.ks_wpAt_super_base (env := envF F f s.heap.objs.size) hks hfr hn rfl lk1 rfl hp rfl (I.kIn _ _ hcode) rfl hvs hfile htop ?_
  obtain ⟨mb, hmb, hbb⟩ := I.mod.blt
  refine PySem.W.ks_loadName_global hk hks (loadGlobal_builtin (env := envF F f s.heap.objs.size) (I.mod.glob.keeps I.bk) msup (hmb.keeps I.bk) ((hbb _ (by decide +kernel)).trans (by rfl)) ⟨rfl, ?_⟩)
  refine wpAny_loadName_free hk hfr (by rw [show (envF F f s.heap.objs.size).cells = F.cl from rfl, hcl]; rfl) ⟨_, I.kIn _ _ hcell, rfl⟩ ?_
  obtain ⟨us0, ut, rfl⟩ : ∃ u0 ut, us = u0 :: ut := by
    cases us with
    | nil =>
      have z := r.length
      rw [hl, hps] at z
      cases z
    | cons u0 ut => exact ⟨_, _, rfl⟩
  have ru : us0 = Value.ref a := by
    cases r with
    | cons rv rt =>
      have e1 := Option.some.inj h0
      subst e1
      exact rv
  subst ru
  refine wpAny_loadName_local hk (S.par _ (by rw [hps]; exact List.mem_cons_self)) (hs1h ▸ hns) (v := .ref a) (zip_look (i := 0) ?nd ?p0 rfl) ?_
  case nd =>
    have q := S.nd.sublist (List.take_sublist (ps.length + 1) N)
    rw [show N.take (ps.length + 1) = ps ++ [("__class__" : Str)] from S.pre] at q
    exact (List.nodup_append.mp q).1
  case p0 => rw [hps]; rfl
  have X1 : K.In s1.heap := I.kIn
  obtain ⟨hh, g, dr, tk, os⟩ := s1
  obtain ⟨oD, hD1, hD2⟩ : ∃ oD, hh.get? D = some oD ∧ oD.data = .cls cdD := by
    unfold PySem.W.clsIn at hD
    split at hD
    · rename_i c d cd' sl ho
      cases hD
      exact ⟨_, X1 _ _ ho, rfl⟩
    · cases hD
  obtain ⟨mA, O, _⟩ := ins_get I.hok hi
  obtain ⟨odi, J, _⟩ := O.look
  refine PySem.ks_wpAny_isType_cls hD1 hD2 ⟨rfl, ?_⟩
  refine PySem.ks_wpAny_call_super hD1 hD2 J.at_ J.cls (fun c e => by cases e) (PySem.W.looks_mroIn X1 hsub) (fun h' eso k => ?_)
  have I1 : Inv (ncx CX P w K mg base N F f A outer s H E) [] (startF N vs [none]) H ⟨h', g, dr, tk, os⟩ := I.kept (t' := tk) k
  have X2 : K.In h' := I1.kIn
  obtain ⟨of, hof, hofc⟩ : ∃ of, h'.get? f2 = some of ∧ of.cls = .type "function" := by
    have ht' : (K.lookup f2).map (·.cls) = some (.type "function") := hty
    cases z : K.lookup f2 with
    | none => rw [z] at ht'; cases ht'
    | some of => rw [z] at ht'; exact ⟨of, X2 _ _ z, Option.some.inj ht'⟩
  obtain ⟨mA1, O1, _⟩ := ins_get I1.hok hi
  obtain ⟨odi1, J1, _⟩ := O1.look
  refine PySem.ks_wpAny_getMethod_super eso (PySem.W.looks_opaque X2 hno) (l₀ := cd.mro) (fun A Q E s k q => wpAny_bind ((PySem.W.looks_clsIn X2 hC) A _ E s k (wpAny_pure q))) rfl X2 hal hof hofc (PySem.W.ks_ne X2 J1 hC) hn ?_
  have I2 := met_new (g := f2) (C := a) I1
  have hb2 : (ncx CX P w K mg base N F f A outer s H E).base.get? h'.objs.size = none := base_none I1 (Nat.le_refl _)
  refine wpAny_mono (callwith_cm (X := ncx CX P w K mg base N F f A outer s H E) I2 hb2 hfn (thn ((ha f A outer s H E).run pos _ _ _ _ _ I2 hq) fun ws s3 ⟨zs, H2, I3, rv, q2⟩ => ⟨⟨pin_at I3, I3.kIn⟩, run_cm G (hr.deeper _) (hx f A outer s H E) I3 rv q2⟩) (hst _) (hpl _)) (fun u s' hs => ?_) fun e s' hs => hs
  obtain ⟨v, H', J, rv, qv⟩ := hs
  exact ⟨v, H', J.os, J.bare, J.base, J.hok, rv, qv⟩
end
end SU
set_option Elab.async false
set_option linter.all false
set_option maxRecDepth 100000
set_option maxHeartbeats 4000000
namespace SU
open PySem PySem.Spec PySem.Calls PyProof.Rows L2 CM LamX NdefX ClX
/-- super().m(x), alone in the text: the name, the method, the argument -/
def supSt : List Stmt → Option (Str × Str × Str)
  | [.Return (some (.Call (.Attribute (.Call (.Name s _) [] [] _) m p) [.Name x _] [] q)) _] => if p.endLine == q.line then some (s, m, x) else none
  | _ => none
theorem supSt_ok {b : List Stmt} {s m x : Str} (h : supSt b = some (s, m, x)) : ∃ p0 p1 p2 p3 p4 p5 : Pos, b = [.Return (some (.Call (.Attribute (.Call (.Name s p0) [] [] p1) m p2) [.Name x p3] [] p4)) p5] ∧ (p2.endLine == p4.line) = true := by
  unfold supSt at h
  split at h
  · split at h
    · rename_i q
      cases h
      exact ⟨_, _, _, _, _, _, rfl, q⟩
    · cases h
  · cases h
theorem sup_ev {p0 p1 p2 p3 p4 : Pos} {m x : Str} (hl : (p2.endLine == p4.line) = true) (env : Env) : eval (.Call (.Attribute (.Call (.Name "super" p0) [] [] p1) m p2) [.Name x p3] [] p4) env = (do
      let ov ← attributeBase (.Call (.Name "super" p0) [] [] p1) m env (eval (.Call (.Name "super" p0) [] [] p1) env)
      standAt p2.atName
      let (f, first) ← holding [ov] (getMethod ov m (do return (← importBound (.Call (.Name "super" p0) [] [] p1) env).getD true))
      callWith p4 f first (backTo p4 (starEach [.Name x p3] env)) []) := by
  have hpos : ∀ o : Expr, methodCallPos true o env p2 p4 = pure p4 := fun o => by
    unfold methodCallPos
    simp [hl]
  conv => lhs; unfold eval
  show (do
      let ov ← attributeBase (.Call (.Name "super" p0) [] [] p1) m env (eval (.Call (.Name "super" p0) [] [] p1) env)
      standAt p2.atName
      let (f, first) ← holding [ov] (calleeOf true (.Call (.Name "super" p0) [] [] p1) env ov m)
      let callPos ← methodCallPos true (.Call (.Name "super" p0) [] [] p1) env p2 p4
      callWith callPos f first (backTo p4 (starEach [.Name x p3] env)) (backToKw p4 (keywordEach [] env))) = _
  simp only [hpos]
  rfl
def supAr (p : Arguments) : Option (Str × Str) := match p with
  | ⟨[], [⟨a, none, _⟩, ⟨b, none, _⟩], none, [], [], none, []⟩ => some (a, b)
  | _ => none
theorem supAr_ok {p : Arguments} {a b : Str} (h : supAr p = some (a, b)) : ∃ q0 q1 : Pos, p = ⟨[], [⟨a, none, q0⟩, ⟨b, none, q1⟩], none, [], [], none, []⟩ := by
  unfold supAr at h
  split at h
  · cases h
    exact ⟨_, _, rfl⟩
  · cases h
def fnAt (K : PySem.W.Frag) (f : Addr) : Option FuncData := match K.lookup f with
  | some ⟨_, _, .func fd, _⟩ => some fd
  | _ => none
theorem fnAt_ok {K : PySem.W.Frag} {f : Addr} {fd : FuncData} (h : fnAt K f = some fd) : ∃ oc od osl, K.lookup f = some ⟨oc, od, .func fd, osl⟩ := by
  unfold fnAt at h
  split at h
  · rename_i e
    cases h
    exact ⟨_, _, _, e⟩
  · cases h
def fileAt (K : PySem.W.Frag) (c : Addr) : Option Str := match K.lookup c with
  | some ⟨_, _, .fields vs, _⟩ => (match (vs[2]? : Option Value) with
    | some (.str z _) => some z
    | _ => none)
  | _ => none
theorem fileAt_ok {K : PySem.W.Frag} {c : Addr} {z : Str} (h : fileAt K c = some z) : ∃ oc od vs osl t, K.lookup c = some ⟨oc, od, .fields vs, osl⟩ ∧ vs[2]? = some (.str z t) := by
  unfold fileAt at h
  split at h
  · rename_i e
    split at h
    · rename_i e2
      cases h
      exact ⟨_, _, _, _, _, e, e2⟩
    · cases h
  · cases h
def cellAt (K : PySem.W.Frag) (c : Addr) : Option Addr := match K.lookup c with
  | some ⟨_, _, .cell (some (.ref D)), _⟩ => some D
  | _ => none
theorem cellAt_ok {K : PySem.W.Frag} {c D : Addr} (h : cellAt K c = some D) : ∃ oc od osl, K.lookup c = some ⟨oc, od, .cell (some (.ref D)), osl⟩ := by
  unfold cellAt at h
  split at h
  · rename_i e
    cases h
    exact ⟨_, _, _, e⟩
  · cases h
/-- how the def ends: its cell, its code object, what else must be nothing -/
def supEnd (fd : FuncData) : Option (Addr × Addr) := match fd with
  | ⟨_, _, _, _, _, g, [(x, cc)], .none, .none, _, _, none, .ref c, _, b⟩ => if decide (x = ("__class__" : Str)) && (decide (g = mainGlobals) && decide (b = builtinsNs)) then some (cc, c) else none
  | _ => none
def bodyOf (fd : FuncData) : List Stmt := match fd.body with
  | .stmts b => b
  | _ => []
theorem supEnd_ok {fd : FuncData} {cc c : Addr} (h : supEnd fd = some (cc, c)) (hb : bodyOf fd ≠ []) : ∃ doc pm ct, fd = PySem.W.fnX fd.name fd.qualname fd.params (bodyOf fd) fd.scope [(("__class__" : Str), cc)] .none .none doc pm none (.ref c) ct := by
  unfold supEnd at h
  split at h
  · split at h
    · rename_i q
      simp only [Bool.and_eq_true, decide_eq_true_eq] at q
      obtain ⟨rfl, rfl, rfl⟩ := q
      cases h
      rename_i bd _ _ _ _
      unfold bodyOf at hb ⊢
      first
        | (cases bd with
          | stmts b => exact ⟨_, _, _, rfl⟩
          | _ => exact absurd rfl hb)
    · cases h
  · cases h
/-- the whole word: C's own m(self, x) says super().m(x), D is the class of the text, f2 the def that is meant -/
def supB (F0 : Str) (K : PySem.W.Frag) (C D f2 : Addr) (m x : Str) : Bool := match fnAt K (He.ma K C m) with
  | some fd => (match supEnd fd with
    | some (cc, c) => decide (supSt (bodyOf fd) = some (("super" : Str), m, x)) && (decide (supAr fd.params = some (("self" : Str), x)) && (nscB ["self", x, "__class__"] ["self", x] ["__class__"] fd.scope && (decide (fd.scope.names.lookup ("super" : Str) = some .globalImplicit) &&
      (PySem.W.codeIn K (.ref c) fd.qualname && (decide (fileAt K c = some F0) && (decide (cellAt K cc = some D) && ((PySem.W.clsIn K D).isSome && (decide (PySem.W.mroIn K C (.ref D) = some true) && ((match PySem.W.clsIn K C with
        | some cd => decide (PySem.W.alongIn K m ((cd.mro.dropWhile (· != .ref D)).drop 1) = some (some (.ref f2)))
        | none => false) && (decide (PySem.W.typeIn K (.ref f2) = some (.type "function")) && (decide (PySem.W.nsIn K cStatics "thirdparty.any" = some none) && PySem.W.fnIn K f2)))))))))))
    | none => false)
  | none => false
structure SupOk (F0 : Str) (P : Program) : Prop where
  file : ((P.main.file : Str) == F0) = true
  top : (P.main.scope.names.lookup ("super" : Str)).isSome = false
section
variable {P : Program} {w : World} {K : PySem.W.Frag} {mg : Str → Option Value} {base : Heap} {CX : CXT} {k : Nat}
theorem supB_ok {F0 : Str} {C D f2 : Addr} {m x : Str} (h : supB F0 K C D f2 m x = true) (O : SupOk F0 P) : ∃ (F : NF) (fd : FuncData) (p0 p1 p2 p3 p4 p5 q0 q1 : Pos), SupF P K C D (He.ma K C m) f2 m F fd ∧
    F.body = [.Return (some (.Call (.Attribute (.Call (.Name "super" p0) [] [] p1) m p2) [.Name x p3] [] p4)) p5] ∧ (p2.endLine == p4.line) = true ∧ F.params = ⟨[], [⟨"self", none, q0⟩, ⟨x, none, q1⟩], none, [], [], none, []⟩ ∧ NScope ["self", x, "__class__"] ["self", x] ["__class__"] F.scope ∧ F.scope.names.lookup ("super" : Str) = some .globalImplicit := by
  unfold supB at h
  split at h
  · rename_i fd e
    split at h
    · rename_i cc c e2
      simp only [Bool.and_eq_true, decide_eq_true_eq] at h
      obtain ⟨h1, h2, h3, h4, h5, h6, h7, h8, h9, h10, h11, h12, h13⟩ := h
      obtain ⟨p0, p1, p2, p3, p4, p5, eb, el⟩ := supSt_ok h1
      obtain ⟨q0, q1, ep⟩ := supAr_ok h2
      obtain ⟨doc, pm, ct, ef⟩ := supEnd_ok e2 (by rw [eb]; exact List.cons_ne_nil _ _)
      obtain ⟨oc, od, osl, lk⟩ := fnAt_ok e
      obtain ⟨ccl, cdd, vs, ccs, tf, lc, hv⟩ := fileAt_ok h6
      obtain ⟨cl, cld, csl, lcell⟩ := cellAt_ok h7
      obtain ⟨cdD, hD⟩ := Option.isSome_iff_exists.mp h8
      split at h10
      · rename_i cd hC
        have h10 := of_decide_eq_true h10
        refine ⟨⟨fd.name, fd.qualname, fd.params, bodyOf fd, fd.scope, [("__class__", cc)], c⟩, fd, p0, p1, p2, p3, p4, p5, q0, q1, ⟨oc, od, doc, pm, ct, osl, cc, ccl, cdd, vs, F0, tf, ccs, cl, cld, csl, cdD, cd, ef, ?_, rfl, h5, lc, hv, O.file, lcell, hD, h9, hC, h10, h11, h12, h13⟩, eb, el, ep, nscope_by h3, h4⟩
        rw [lk]
        exact congrArg some (congrArg (fun z => (⟨oc, od, .func z, osl⟩ : Obj)) ef)
      · cases h10
    · cases h
  · cases h
end
section
variable {P : Program} {w : World} {K : PySem.W.Frag} {mg : Str → Option Value} {base : Heap} {k : Nat}
/-- sides(self, labels), as the class above tells them -/
def spSides (C : Addr) (sp : Sp) : Sp := fun vs H Q E => ∃ a v dx fs, vs = [.ref a, v] ∧ H a = some (.ins C dx fs) ∧ sp [.ref a, v] H Q E
theorem ok_supSides {F0 : Str} {C D f2 : Addr} {fd2 : FuncData} {sp : Sp} (h : supB F0 K C D f2 "sides" "labels" = true) (O : SupOk F0 P) (msup : mg "super" = none) (G : FnOk P w K mg base CX0 k f2 fd2 ["self", "labels"] sp) (hb2 : Binds K fd2 ["self", "labels"] []) :
    ∃ fd, FnOk P w K mg base CX0 (k + 1) (He.ma K C "sides") fd ["self", "labels"] (spSides C sp) ∧ Binds K fd ["self", "labels"] [] := by
  obtain ⟨F, fd, p0, p1, p2, p3, p4, p5, q0, q1, Z, hb, he, hp, S, hs⟩ := supB_ok h O
  refine ⟨fd, FnOk.imp (ok_super (t := tCons (tVar 1) tNil) (ps' := ["labels"]) S Z rfl (by rw [hp]; rfl) hs hb O.top msup (by decide +kernel) (fnR_of G hb2) (fun g A outer s H E => pa_cons (pe_var (i := 1) rfl (.inl (S.par _ (by decide +kernel)))) pa_nil) (fun _ _ _ _ _ _ => pass0) (fun _ => rfl) (fun _ => rfl) (sup_ev he)) (fun vs H Q E hh => ?_), ?_⟩
  · obtain ⟨a, v, dx, fs, rfl, hi, q⟩ := hh
    exact ⟨rfl, a, dx, fs, rfl, hi, v, rfl, q⟩
  · obtain ⟨oc, od, doc, pm, ct, osl, cc, ccl, cdd, cvs, file, tf, ccs, cl, cld, csl, cdD, cd, rfl, lk, _⟩ := Z.ex
    refine Binds.all fun us hl => ?_
    match us, hl with
    | [u0, u1], _ =>
      obtain ⟨nm, qual, params, body, scope, cl, c⟩ := F
      dsimp only at hp
      subst hp
      rfl
end
end SU
set_option Elab.async false
set_option linter.all false
set_option maxRecDepth 100000
set_option maxHeartbeats 4000000
namespace PR
open PySem PySem.Spec PySem.Calls PyProof.Rows L2 CM SU
/-- return x.f -/
def getSt : List Stmt → Option (Str × Str)
  | [.Return (some (.Attribute (.Name x _) f _)) _] => some (x, f)
  | _ => none
theorem getSt_ok {b : List Stmt} {x f : Str} (h : getSt b = some (x, f)) : ∃ p1 p2 p3 : Pos, b = [.Return (some (.Attribute (.Name x p1) f p2)) p3] := by
  unfold getSt at h
  split at h
  · cases h
    exact ⟨_, _, _, rfl⟩
  · cases h
def oneAr (p : Arguments) : Option Str := match p with
  | ⟨[], [⟨a, none, _⟩], none, [], [], none, []⟩ => some a
  | _ => none
theorem oneAr_ok {p : Arguments} {a : Str} (h : oneAr p = some a) : ∃ q0 : Pos, p = ⟨[], [⟨a, none, q0⟩], none, [], [], none, []⟩ := by
  unfold oneAr at h
  split at h
  · cases h
    exact ⟨_, rfl⟩
  · cases h
def flatEnd (fd : FuncData) : Bool := match fd with
  | ⟨_, _, _, _, _, g, [], .none, .none, _, _, _, _, _, b⟩ => decide (g = mainGlobals) && decide (b = builtinsNs)
  | _ => false
theorem flatEnd_ok {fd : FuncData} (h : flatEnd fd = true) (hb : bodyOf fd ≠ []) : ∃ doc pm an ct, fd = PySem.W.fnOf fd.name fd.qualname fd.params (bodyOf fd) fd.scope .none .none doc pm an fd.code ct := by
  unfold flatEnd at h
  split at h
  · simp only [Bool.and_eq_true, decide_eq_true_eq] at h
    obtain ⟨rfl, rfl⟩ := h
    rename_i bd _ _ _ _ _ _
    unfold bodyOf at hb ⊢
    first
      | (cases bd with
        | stmts b => exact ⟨_, _, _, _, rfl⟩
        | _ => exact absurd rfl hb)
  · cases h
def fscB (N ps : List Str) (sc : Scope) : Bool := decide (sc.kind = .function) && (!sc.isCoroutine && (!sc.isGenerator && (decide N.Nodup && (decide (N.take ps.length = ps) && (ps.all (fun x => decide (sc.names.lookup x = some .local)) && sc.names.all (fun y => !decide (y.2 = .free)))))))
theorem fscB_ok {N ps : List Str} {sc : Scope} (h : fscB N ps sc = true) : FnScope N ps sc := by
  unfold fscB at h
  simp only [Bool.and_eq_true, Bool.not_eq_true', decide_eq_true_eq, List.all_eq_true, decide_eq_false_iff_not] at h
  obtain ⟨h1, h2, h3, h4, h5, h6, h7⟩ := h
  exact ⟨h1, h2, h3, h4, h5, fun x hx => .inl (h6 x hx), h7⟩
/-- the class at C has f as a property whose getter returns self.g -/
def propB (K : PySem.W.Frag) (C : Addr) (f g : Str) : Bool := match PySem.W.findIn K (.ref C) f with
  | some (some (.ref p)) => He.eqO (PySem.W.specialIn K (.ref p) "__get__") (some (some (.builtin "property.__get__"))) && (decide (PySem.W.takesIn K (.ref p) = some true) && (match PySem.W.recIn K p "property" with
    | some (.ref q :: _) => (match fnAt K q with
      | some fd => decide (getSt (bodyOf fd) = some (("self" : Str), g)) && (decide (oneAr fd.params = some ("self" : Str)) && (flatEnd fd && (fscB ["self"] ["self"] fd.scope && PySem.W.codeIn K fd.code fd.qualname)))
      | none => false)
    | _ => false))
  | _ => false
section
variable {P : Program} {w : World} {K : PySem.W.Frag} {mg : Str → Option Value} {base : Heap} {CX : CXT}
theorem propB_ok {C : Addr} {f g : Str} (h : propB K C f g = true) (c : Cls K C) (n : NoAttr K C g) : ∃ (p q : Addr) (fd : FuncData), PropOf K C f p q ∧ FnOk P w K mg base CX 1 q fd ["self"] (getSp C g) ∧ Binds K fd ["self"] [] := by
  unfold propB at h
  split at h
  · rename_i p e
    obtain ⟨h1, h⟩ := He.ba h
    obtain ⟨h2, h⟩ := He.ba h
    split at h
    · rename_i q rest e2
      split at h
      · rename_i fd e3
        simp only [Bool.and_eq_true, decide_eq_true_eq] at h
        obtain ⟨h3, h4, h5, h6, h7⟩ := h
        obtain ⟨p1, p2, p3, eb⟩ := getSt_ok h3
        obtain ⟨q0, ep⟩ := oneAr_ok h4
        obtain ⟨doc, pm, an, ct, ef⟩ := flatEnd_ok h5 (by rw [eb]; exact List.cons_ne_nil _ _)
        obtain ⟨oc, od, osl, lk⟩ := fnAt_ok e3
        rw [ef] at lk
        refine ⟨p, q, _, ⟨e, He.eqO_ok h1, of_decide_eq_true (by simpa using h2), ⟨rest, e2⟩⟩, fn_getter lk h7 (fscB_ok h6) rfl eb c n, ?_⟩
        refine Binds.all fun us hl => ?_
        match us, hl with
        | [u0], _ =>
          rw [ep]
          rfl
      · cases h
    · cases h
  · cases h
end
end PR
set_option Elab.async false
set_option linter.all false
set_option maxRecDepth 100000
set_option maxHeartbeats 4000000
namespace BI
open PySem PySem.Spec PySem.Calls PyProof.Rows L2 CM
/-! ### t[::-1], a tuple -/
section
variable {prog : Program} {w : World} {A : Around} {E : Value → Shared → Prop} {s : Shared}
theorem adjust_rev (n : Nat) : Builtin.Slice.sliceAdjust none none (-1) (n : Int) = ((n : Int) - 1, -1) := by
  first
  | rfl
  | (unfold Builtin.Slice.sliceAdjust; simp)
theorem places_rev (n : Nat) : Builtin.Slice.slicePlaces ((n : Int) - 1) (-1) (-1) = n := by
  unfold Builtin.Slice.slicePlaces
  rw [if_neg (by decide)]
  split
  · rw [show (-(-1) : Int) = 1 by decide, Int.ediv_one]
    omega
  · omega
theorem pick_rev (xs : Array Value) : ((List.range xs.size).filterMap fun (k : Nat) => xs[(((xs.size : Int) - 1) + (k : Int) * -1).toNat]?).toArray = xs.toList.reverse.toArray := by
  have e : (fun (k : Nat) => xs[(((xs.size : Int) - 1) + (k : Int) * -1).toNat]?) = (fun k : Nat => xs[k]?) ∘ fun k : Nat => xs.size - 1 - k := by
    funext k
    show xs[_]? = xs[xs.size - 1 - k]?
    have : (((xs.size : Int) - 1) + (k : Int) * -1).toNat = xs.size - 1 - k := by omega
    rw [this]
  rw [e, ← List.filterMap_map, PySem.W.krv_range, List.filterMap_reverse, PySem.W.krv_all]
theorem sliceApplied_rev {sl : Addr} {vl vu vs : Value} {n : Nat} {Q : Int × Int × Nat → Shared → Prop} (hs : s.heap.IsSliceOf sl vl vu vs) (pl : IsPart vl none) (pu : IsPart vu none) (ps : IsPart vs (some (-1)))
    (h : Q ((n : Int) - 1, -1, n) s) : wpAny (model prog w) A (Builtin.Slice.sliceApplied (.ref sl) (pure (n : Int))) Q E s := by
  obtain ⟨os, hos, hcs, hds⟩ := id hs
  unfold Builtin.Slice.sliceApplied Builtin.Slice.sliceFields
  refine wpAny_bind (wpAny_bind (wpAny_field hos hds (x := vl) rfl (wpAny_bind (wpAny_field hos hds (x := vu) rfl (wpAny_bind (wpAny_field hos hds (x := vs) rfl (wpAny_pure ?_)))))))
  refine wpAny_bind (HT.slicePart_ ps ?_)
  show wpAny _ _ (if ((-1 : Int) == 0) = true then _ else _) _ _ s
  rw [if_neg (by decide)]
  refine wpAny_bind (HT.slicePart_ pl (wpAny_bind (HT.slicePart_ pu (wpAny_bind (wpAny_pure ?_)))))
  show wpAny _ _ (match Builtin.Slice.sliceAdjust none none (-1) (n : Int) with | (lo, hi) => pure (lo, (-1 : Int), Builtin.Slice.slicePlaces lo hi (-1))) _ _ s
  rw [adjust_rev n]
  show wpAny _ _ (pure ((n : Int) - 1, (-1 : Int), Builtin.Slice.slicePlaces ((n : Int) - 1) (-1) (-1))) _ _ s
  rw [places_rev]
  exact wpAny_pure h
theorem getItem_tuple_rev {t sl : Addr} {items : Array Value} {vl vu vs : Value} {Q : Value → Shared → Prop} (ht : IsTup s.heap t items) (hs : s.heap.IsSliceOf sl vl vu vs) (pl : IsPart vl none) (pu : IsPart vu none) (ps : IsPart vs (some (-1)))
    (h : Q (.ref s.heap.objs.size) { s with heap := s.heap.push { cls := .type "tuple", data := .seq items.toList.reverse.toArray } }) (hsz : items.size ≤ sizeLine) : wpAny (model prog w) A (getItem (.ref t) (.ref sl)) Q E s := by
  have htake : sizeOk (.seq items.toList.reverse.toArray) := by
    show items.toList.reverse.toArray.size ≤ sizeLine
    rw [List.size_toArray, List.length_reverse, Array.length_toList]
    exact hsz
  obtain ⟨os, hos, hcs, hds⟩ := id hs
  have hTs : s.TypeIs (.ref sl) "slice" := ⟨os, hos, hcs⟩
  unfold getItem
  try with_reducible refine wpAny_holding ?_
  first | refine wpAny_bind (wpAny_pure ?_) | skip
  refine wpAny_bind (wpAny_sequenceKey ht.typeIs (by decide) ?_)
  refine wpAny_bind (wpAny_callSpecial?_slot (name := Str.ofString "__getitem__") ht.typeIs PyProof.Rows.slot_tuple_getitem
    (wpAny_call_entry PyProof.Rows.slot_tuple_getitem ht.typeIs entry_tuple_getitem ?_ (args_tuple_getitem _ _)))
  show wpAny _ _ (Builtin.Tuple.tupleItemsOf (.ref t) >>= _) _ _ s
  refine wpAny_bind (tupleItemsOf_ ht ?_)
  refine wpAny_bind (wpAny_typeOf hTs ?_)
  rw [if_pos (by decide)]
  refine wpAny_bind (sliceApplied_rev hs pl pu ps ?_)
  have hno : ¬ ((((items.size : Int) - 1) == 0 && (-1 : Int) == 1 && items.size == items.size) = true) := by
    intro q
    rw [Bool.and_eq_true, Bool.and_eq_true] at q
    exact absurd q.1.2 (by decide)
  show wpAny _ _ (if (((items.size : Int) - 1) == 0 && (-1 : Int) == 1 && items.size == items.size) = true then _ else _) _ _ s
  rw [if_neg hno, pick_rev]
  first
    | exact wpAny_bind (m := Builtin.Tuple.tupleExact _) (wpAny_newObj_type (wpAny_pure ⟨_, rfl, wpAny_pure h⟩) htake)
    | exact wpAny_bind (m := Builtin.Tuple.tupleExact _) (wpAny_newObj_type (wpAny_bind (wpAny_pure (wpAny_pure ⟨_, rfl, wpAny_pure h⟩))) htake)
    | exact wpAny_bind (wpAny_bind (m := Builtin.Tuple.tupleExact _) (wpAny_newObj_type (wpAny_pure (wpAny_pure ⟨_, rfl, wpAny_pure h⟩)) htake))
    | exact wpAny_bind (wpAny_bind (m := Builtin.Tuple.tupleExact _) (wpAny_newObj_type (wpAny_pure ⟨_, rfl, wpAny_pure h⟩) htake))
end
section
variable {X : Cx}
def tRevT (K : PySem.W.Frag) (te : TE) : TE := fun σ H Q => te σ H fun x H1 => ∃ a xs, x = .ref a ∧ SqT K H1 a xs ∧ ∀ p, H1 p = none → Q (.ref p) (upd H1 p (.tup xs.reverse))
theorem pe_revT {e : Expr} {te : TE} {k : Nat} {p1 p2 p3 pos : Pos} (he : PE X e te) : PE X (.Subscript e (.Slice none none (some (.UnaryOp .USub (.Constant (.int 1) k p1) p2)) p3) pos) (tRevT X.K te) := by
  refine ⟨fun pins s σ H Q I h => ?_⟩
  refine Subscript_ (thn (he.run pins s σ H _ I h) fun v s1 ⟨x, H1, I1, r1, q1⟩ => ?_)
  obtain ⟨a, xs, ex, hx, q⟩ := q1
  subst ex
  cases r1
  have hst : PO X (some (.UnaryOp .USub (.Constant (.int 1) k p1) p2)) (tPart (tUn (rU fun i => .int (-i)) (tC (.int 1)))) := po_some (pe_un un_neg pe_int)
  refine wpAny_Slice (thn (po_none.run pins s1 σ H1 (fun o H2 => o = none ∧ H2 = H1) I1 ⟨rfl, rfl⟩) fun vl s2 ⟨l, H2, I2, pl, el, e2⟩ => ?_)
  subst el e2
  refine thn (po_none.run pins s2 σ H2 (fun o H3 => o = none ∧ H3 = H2) I2 ⟨rfl, rfl⟩) fun vu s3 ⟨u, H3, I3, pu, eu, e3⟩ => ?_
  subst eu e3
  refine thn (hst.run pins s3 σ H3 (fun o H4 => o = some (-1) ∧ H4 = H3) I3 ⟨1, rfl, -1, rfl, rfl, rfl⟩) fun vs s4 ⟨o, H4, I4, ps, eo, e4⟩ => ?_
  subst eo e4
  have I5 : Inv X pins σ H4 { s4 with heap := s4.heap.push { cls := .type "slice", data := .fields #[vl, vu, vs] } } := I4.kept (t' := s4.toks) fun b ob q => Heap.get?_push_of_some _ q
  obtain ⟨its, r, ht, hz⟩ := I5.tuple hx
  have hlen := r.length
  show wpAny (model X.prog X.w) X.A (subscriptTail e (.Slice none none (some (.UnaryOp .USub (.Constant (.int 1) k p1) p2)) p3) (.ref a) (.ref s4.heap.objs.size)) (EP X pins σ Q) X.xe { s4 with heap := s4.heap.push { cls := .type "slice", data := .fields #[vl, vu, vs] } }
  refine tail_any (ops := [.ref a, .ref s4.heap.objs.size]) ht.typeIs (PyProof.Rows.slot_tuple_getitem.lookup) ?_ (by with_unfolding_all rfl)
  refine getItem_tuple_rev ht (Heap.IsSliceOf.new _ vl vu vs) pl pu ps ?_ (by rw [List.size_toArray]; omega)
  refine ⟨.ref _, _, I5.laid (t' := s4.toks) (o := .tup xs.reverse) (fun b ob q => Heap.get?_push_of_some _ q) (Nat.le_refl _) ?_, rfl, q _ (I5.hok.fresh (Nat.le_refl _))⟩
  exact ⟨by rw [List.length_reverse]; exact hz, _, r.reverse, IsTup.new _ _⟩
/-! ### | & ^ of naturals -/
theorem bitNot_not (x : Int) : Builtin.bitNot (Builtin.bitNot x) = x := by
  unfold Builtin.bitNot
  omega
theorem bitAnd_nat (a b : Nat) : Builtin.bitAnd (a : Int) (b : Int) = ((a &&& b : Nat) : Int) := by
  unfold Builtin.bitAnd
  rw [decide_eq_true (Int.natCast_nonneg a), decide_eq_true (Int.natCast_nonneg b)]
  simp
theorem bitOr_nat (a b : Nat) : Builtin.bitOr (a : Int) (b : Int) = ((a ||| b : Nat) : Int) := by
  have h : ∀ n : Nat, ¬ (0 : Int) ≤ Builtin.bitNot (n : Int) := fun n => by
    unfold Builtin.bitNot
    omega
  unfold Builtin.bitOr Builtin.bitAnd
  rw [decide_eq_false (h a), decide_eq_false (h b)]
  simp only [bitNot_not]
  simp
def rN2 (f : Nat → Nat → V) : R2 := fun x y H Q => ∃ a b : Nat, x = .int (a : Int) ∧ y = .int (b : Int) ∧ Q (f a b) H
theorem op_orN : OpR X (binaryOp .BitOr) (rN2 fun a b => .int ((a ||| b : Nat) : Int)) := by
  intro pns s σ H x y v u Q I rx ry h
  obtain ⟨a, b, rfl, rfl, q⟩ := h
  exact op_or pns s σ H _ _ v u Q I rx ry ⟨_, _, rfl, rfl, by dsimp only; rw [bitOr_nat]; exact q⟩
theorem op_andN : OpR X (binaryOp .BitAnd) (rN2 fun a b => .int ((a &&& b : Nat) : Int)) := by
  intro pns s σ H x y v u Q I rx ry h
  obtain ⟨a, b, rfl, rfl, q⟩ := h
  exact op_and pns s σ H _ _ v u Q I rx ry ⟨_, _, rfl, rfl, by dsimp only; rw [bitAnd_nat]; exact q⟩
/-- a ^ b where a has no bit that b lacks -/
def rXor : R2 := fun x y H Q => ∃ a b c : Nat, x = .int (a : Int) ∧ y = .int (b : Int) ∧ a ||| b = b ∧ a &&& b = a ∧ b = a + c ∧ Q (.int (c : Int)) H
theorem op_xorN : OpR X (binaryOp .BitXor) rXor := by
  intro pns s σ H x y v u Q I rx ry h
  obtain ⟨a, b, c, rfl, rfl, h1, h2, h3, q⟩ := h
  refine op_xor pns s σ H _ _ v u Q I rx ry ⟨_, _, rfl, rfl, ?_⟩
  have e : Builtin.bitXor (a : Int) (b : Int) = (c : Int) := by
    unfold Builtin.bitXor
    rw [bitOr_nat, bitAnd_nat, h1, h2]
    omega
  dsimp only
  rw [e]
  exact q
end
section
variable {X : Cx} {K : PySem.W.Frag}
theorem op_inK (hK : X.K = K := by rfl) : OpR X (compareOp .In) (rIn K false) := by
  subst hK
  exact op_in_seq
theorem op_notInK (hK : X.K = K := by rfl) : OpR X (compareOp .NotIn) (rIn K true) := by
  subst hK
  exact op_notIn_seq
theorem op_neNilK (hu : X.A.units + 64 < cLine) (hK : X.K = K := by rfl) : OpR X (compareOp .NotEq) (rNeNil K) := by
  subst hK
  exact op_neNil hu
end
theorem pi_tupK {X : Cx} {K : PySem.W.Frag} {tg l : Expr} {tl : TE} (hl : PE X l tl) (hK : X.K = K := by rfl) : PI X tg l (iTup K tl) := by
  subst hK
  exact pi_tup hl
theorem pi_listK {X : Cx} {K : PySem.W.Frag} {tg l : Expr} {tl : TE} (hl : PE X l tl) (hK : X.K = K := by rfl) : PI X tg l (iList K tl) := by
  subst hK
  exact pi_list hl
/-- the scope of a list comprehension; the value of a def that only returns -/
def lcSc : Expr → Scope
  | .ListComp _ _ sc _ => sc
  | _ => { kind := .module, names := [], isGenerator := false, isCoroutine := false, more := [] }
def ret0 (st : Stmt) : Expr := match defBody st with
  | .Return (some e) _ :: _ => e
  | _ => .Name "" ⟨0, 0, 0, 0⟩
theorem seqT {K : PySem.W.Frag} {H H' : Hp} {a : Addr} {xs : List V} (e : Same H H') (h : SqT K H a xs) : SqT K H' a xs := by
  rcases h with (h | ⟨o, h⟩) | h
  · exact .inl (.inl (e _ _ h))
  · exact .inl (.inr ⟨o, e _ _ h⟩)
  · exact .inr h
/-! ### masks -/
def mk (f : Nat → Bool) : Nat → Nat
  | 0 => 0
  | w + 1 => mk f w + if f w then 2 ^ w else 0
theorem mk_lt (f : Nat → Bool) : ∀ w, mk f w < 2 ^ w
  | 0 => Nat.one_pos
  | w + 1 => by
    have h := mk_lt f w
    rw [Nat.pow_succ]
    unfold mk
    split <;> omega
theorem mk_bit (f : Nat → Bool) (k : Nat) : ∀ w, (mk f w).testBit k = (decide (k < w) && f k)
  | 0 => by simp [mk]
  | w + 1 => by
    have ih := mk_bit f k w
    have h := mk_lt f w
    unfold mk
    by_cases hw : f w = true
    · rw [if_pos hw, Nat.add_comm]
      by_cases e : k = w
      · subst e
        rw [Nat.testBit_two_pow_add_eq, Nat.testBit_lt_two_pow h, hw]
        simp
      · rcases Nat.lt_or_gt_of_ne e with g | g
        · rw [Nat.testBit_two_pow_add_gt g, ih]
          simp [show k < w + 1 by omega, g]
        · have e2 : ¬ k < w + 1 := by omega
          rw [Nat.testBit_lt_two_pow (Nat.lt_of_lt_of_le (show 2 ^ w + mk f w < 2 ^ (w + 1) by rw [Nat.pow_succ]; omega) (Nat.pow_le_pow_right (by decide) (show w + 1 ≤ k by omega)))]
          simp [e2]
    · rw [if_neg hw, Nat.add_zero, ih]
      by_cases e : k = w
      · subst e
        simp [hw]
      · simp [show (k < w) ↔ (k < w + 1) by omega]
theorem mk_ext {f g : Nat → Bool} : ∀ {w : Nat}, (∀ k, k < w → f k = g k) → mk f w = mk g w
  | 0, _ => rfl
  | w + 1, h => by
    unfold mk
    rw [mk_ext fun k hk => h k (by omega), h w (by omega)]
theorem mk_or (f g : Nat → Bool) (w : Nat) : mk f w ||| mk g w = mk (fun k => f k || g k) w := by
  apply Nat.eq_of_testBit_eq
  intro k
  rw [Nat.testBit_or, mk_bit, mk_bit, mk_bit]
  cases decide (k < w) <;> simp
theorem mk_and (f g : Nat → Bool) (w : Nat) : mk f w &&& mk g w = mk (fun k => f k && g k) w := by
  apply Nat.eq_of_testBit_eq
  intro k
  rw [Nat.testBit_and, mk_bit, mk_bit, mk_bit]
  cases decide (k < w) <;> simp
theorem mk_put {f : Nat → Bool} {w j : Nat} (hj : j < w) : mk f w ||| 2 ^ j = mk (fun k => f k || decide (k = j)) w := by
  apply Nat.eq_of_testBit_eq
  intro k
  rw [Nat.testBit_or, mk_bit, mk_bit, Nat.testBit_two_pow]
  by_cases e : j = k
  · subst e
    simp [hj]
  · simp [e, Ne.symm e]
theorem mk_none {w : Nat} : mk (fun _ => false) w = 0 := by
  induction w with
  | zero => rfl
  | succ w ih =>
    unfold mk
    rw [ih]
    rfl
/-- the part that g has more -/
theorem mk_more {f g : Nat → Bool} (h : ∀ k, f k = true → g k = true) : ∀ w, mk g w = mk f w + mk (fun k => g k && !f k) w
  | 0 => rfl
  | w + 1 => by
    have ih := mk_more h w
    unfold mk
    rw [ih]
    cases hf : f w with
    | true =>
      rw [h w hf]
      simp
      omega
    | false =>
      cases hg : g w <;> simp <;> omega
theorem mk_eq {f g : Nat → Bool} {w : Nat} : mk f w = mk g w ↔ ∀ k, k < w → f k = g k := by
  refine ⟨fun e k hk => ?_, mk_ext⟩
  have z := congrArg (fun n : Nat => n.testBit k) e
  simpa [mk_bit, hk] using z
/-! ### how many -/
def cnt (f : Nat → Bool) (w : Nat) : Nat := ((List.range w).filter f).length
theorem cnt_succ (f : Nat → Bool) (w : Nat) : cnt f (w + 1) = cnt f w + if f w then 1 else 0 := by
  unfold cnt
  rw [List.range_succ, List.filter_append, List.length_append]
  by_cases h : f w = true
  · rw [if_pos h, List.filter_cons_of_pos (p := f) h]
    rfl
  · rw [if_neg h, List.filter_cons_of_neg (p := f) h]
    rfl
theorem cnt_ext {f g : Nat → Bool} : ∀ {w : Nat}, (∀ k, k < w → f k = g k) → cnt f w = cnt g w
  | 0, _ => rfl
  | w + 1, h => by rw [cnt_succ, cnt_succ, cnt_ext fun k hk => h k (by omega), h w (by omega)]
theorem cnt_more {f g : Nat → Bool} (h : ∀ k, f k = true → g k = true) : ∀ w, cnt g w = cnt f w + cnt (fun k => g k && !f k) w
  | 0 => rfl
  | w + 1 => by
    have ih := cnt_more h w
    rw [cnt_succ, cnt_succ, cnt_succ, ih]
    cases hf : f w with
    | true =>
      rw [h w hf]
      simp
      omega
    | false =>
      cases hg : g w <;> simp <;> omega
theorem cnt_up {f : Nat → Bool} {w : Nat} (h : ∀ k, w ≤ k → f k = false) : ∀ d, cnt f (w + d) = cnt f w
  | 0 => rfl
  | d + 1 => by
    rw [← Nat.add_assoc, cnt_succ, cnt_up h d, h (w + d) (by omega)]
    rfl
theorem cnt_le {f : Nat → Bool} {w v : Nat} (hw : ∀ k, w ≤ k → f k = false) (hv : ∀ k, v ≤ k → f k = false) : cnt f w = cnt f v := by
  rcases Nat.le_total w v with h | h
  · have z := cnt_up hw (v - w)
    rw [show w + (v - w) = v by omega] at z
    exact z.symm
  · have z := cnt_up hv (w - v)
    rw [show v + (w - v) = w by omega] at z
    exact z
/-- the bits of a mask, counted by any length that is enough -/
theorem cnt_mk {f : Nat → Bool} {w L : Nat} (hL : mk f w < 2 ^ L) : cnt (fun k => (mk f w).testBit k) L = cnt f w := by
  rw [cnt_le (w := L) (v := w) (fun k hk => Nat.testBit_lt_two_pow (Nat.lt_of_lt_of_le hL (Nat.pow_le_pow_right (by decide) hk))) fun k hk => by rw [mk_bit, decide_eq_false (by omega)]; rfl]
  exact cnt_ext fun k hk => by rw [mk_bit, decide_eq_true hk]; rfl
/-- a mask as a sum -/
theorem mk_sum (f : Nat → Bool) : ∀ w, (((List.range w).filter f).map fun k => 2 ^ k).sum = mk f w
  | 0 => rfl
  | w + 1 => by
    rw [List.range_succ, List.filter_append, List.map_append, List.sum_append, mk_sum f w]
    show _ = mk f w + if f w then 2 ^ w else 0
    by_cases h : f w = true
    · rw [if_pos h, List.filter_cons_of_pos (p := f) h]
      simp
    · rw [if_neg h, List.filter_cons_of_neg (p := f) h]
      simp
end BI
set_option Elab.async false
set_option linter.all false
set_option maxRecDepth 100000
set_option maxHeartbeats 4000000
namespace OX
open PySem PySem.Spec PyProof.Rows L2 CM
def oexB (K : PySem.W.Frag) (C : Addr) : Bool := (match K.lookup C with
    | some ⟨.type "type", _, .cls cd, sl⟩ => (match cd.mro, sl.toList with
      | .ref C' :: bm, [_, _, _, _, some (.builtin n), _] => decide (C' = C) && (decide (n = "ValueError.__new__") && (!cd.hasDel && (cd.hasDict && PySem.HandSPX.refsVE bm)))
      | _, _ => false)
    | _ => false) && (He.eqO (PySem.W.findIn K (.ref C) "__setattr__") (some (some (.builtin "object.__setattr__"))) && (decide (PySem.W.subIn K (.ref C) (.type "BaseException") = some true) &&
      (decide (PySem.W.typeIn K (.ref C) = some (.type "type")) && PySem.W.keepIn K (.ref C))))
theorem oexB_ok {K : PySem.W.Frag} {C : Addr} (h : oexB K C = true) : OexC K C := by
  obtain ⟨h1, h⟩ := He.ba h
  obtain ⟨h2, h⟩ := He.ba h
  obtain ⟨h3, h⟩ := He.ba h
  obtain ⟨h4, h5⟩ := He.ba h
  refine ⟨?_, He.eqO_ok h2, of_decide_eq_true h3, of_decide_eq_true h4, h5⟩
  split at h1
  · rename_i dd cd sl ho
    split at h1
    · rename_i C' bm k0 k1 k2 k3 n k5 hm hs
      obtain ⟨g1, h1⟩ := He.ba h1
      obtain ⟨g2, h1⟩ := He.ba h1
      obtain ⟨g3, h1⟩ := He.ba h1
      obtain ⟨g4, g5⟩ := He.ba h1
      obtain ⟨nm, bs, mro, ns, qn, hd, sn, sb, ab, col, del⟩ := cd
      dsimp only at hm g3 g4
      subst hm g4
      obtain rfl : C' = C := of_decide_eq_true g1
      obtain rfl : n = "ValueError.__new__" := of_decide_eq_true g2
      obtain rfl : del = false := by
        cases del
        · rfl
        · cases g3
      obtain rfl : sl = #[k0, k1, k2, k3, some (.builtin "ValueError.__new__"), k5] := by
        rw [← Array.toArray_toList (xs := sl), hs]
      exact ⟨_, _, _, _, _, _, _, _, _, _, _, _, _, _, _, ho, g5⟩
    · cases h1
  · cases h1
/-- an own error whose __init__ stores its one argument as f -/
def errB (K : PySem.W.Frag) (C : Addr) (f : Str) : Bool := oexB K C && (He.eqO (PySem.W.findIn K (.ref C) "__init__") (some (some (.ref (He.ma K C "__init__")))) && (decide (PySem.W.typeIn K (.ref (He.ma K C "__init__")) = some (.type "function")) &&
  (He.eqO (PySem.W.findIn K (.ref C) f) (some none) && (xfB K C && decide (PySem.W.exmOne K (.ref C) (.ref C) = some true)))))
structure ErrOk (K : PySem.W.Frag) (C : Addr) (f : Str) : Prop where
  ox : OexC K C
  iC : PySem.W.findIn K (.ref C) "__init__" = some (some (.ref (He.ma K C "__init__")))
  tI : PySem.W.typeIn K (.ref (He.ma K C "__init__")) = some (.type "function")
  no : PySem.W.findIn K (.ref C) f = some none
  xf : XfC K C
  te : PySem.W.exmOne K (.ref C) (.ref C) = some true
theorem errB_ok {K : PySem.W.Frag} {C : Addr} {f : Str} (h : errB K C f = true) : ErrOk K C f := by
  obtain ⟨h1, h⟩ := He.ba h
  obtain ⟨h2, h⟩ := He.ba h
  obtain ⟨h3, h⟩ := He.ba h
  obtain ⟨h4, h⟩ := He.ba h
  obtain ⟨h5, h6⟩ := He.ba h
  exact ⟨oexB_ok h1, He.eqO_ok h2, of_decide_eq_true h3, He.eqO_ok h4, xfB_ok h5, of_decide_eq_true h6⟩
/-! ### what the names reach, and the interpreter's own statics -/
def reachY (g : Addr → Option Obj) (n : Nat) : PySem.W.Frag := He.frT g (He.asD g n ++ [cStatics])
def obsY (n : Nat) (fa : List He.Fa) (fn : List He.DefD) (ex : PySem.W.Frag → Bool) (g : Addr → Option Obj) : He.AlX :=
  (He.obsT fa fn [] (reachY g n), ex (reachY g n))
theorem saysY {n : Nat} {fa : List He.Fa} {fn : List He.DefD} {ex : PySem.W.Frag → Bool} {w : World} {h : Heap} (e : obsY n fa fn ex h.get? = He.valX fn [] w) : He.SaysX fa fn [] [] ex w h (reachY h.get? n) where
  t := congrArg Prod.fst e
  more := congrArg Prod.snd e
  hd := fun _ z => absurd z List.not_mem_nil
  out := fun _ z => absurd z List.not_mem_nil
  empty := fun _ z => absurd z List.not_mem_nil
def hookY (n : Nat) (fa : List He.Fa) (fn : List He.DefD) (ex : PySem.W.Frag → Bool) : PySem.W.Hook where
  α := He.AlX
  obs s := obsY n fa fn ex s.heap.get?
  val w := He.valX fn [] w
  says w h := ∃ K : PySem.W.Frag, K.In h ∧ He.SaysX fa fn [] [] ex w h K
  of _ s e := ⟨reachY s.heap.get? n, He.frT_in, saysY e⟩
  keeps _ _ _ z k := by
    obtain ⟨K, hK, c⟩ := z
    refine ⟨K, hK.keeps k, ?_⟩
    exact { t := c.t, more := c.more, hd := c.hd, out := c.out, empty := fun _ z => absurd z List.not_mem_nil }
theorem obsY_eq {n : Nat} {fa : List He.Fa} {fn : List He.DefD} {ex : PySem.W.Frag → Bool} {g : Addr → Option Obj} {s : Shared} (h : ∀ a, g a = s.heap.get? a) : obsY n fa fn ex g = (hookY n fa fn ex).obs s := by
  rw [show g = s.heap.get? from funext h]
  rfl
end OX
set_option Elab.async false
set_option linter.all false
set_option maxRecDepth 100000
set_option maxHeartbeats 4000000
namespace DN
open PySem PySem.Spec PyProof.Rows L2 CM
/-! ### keys: None, ints, texts, tuples of such -/
abbrev NK := NestedKey
mutual
inductive KeyV (H : Hp) : NK → V → Prop
  | non : KeyV H .none .non
  | int (i : Int) : KeyV H (.num i) (.int i)
  | str (z : Str) : KeyV H (.text z) (.str z)
  | tup {a : Addr} {ks : List NK} {vs : List V} : H a = some (.tup vs) → KeysV H ks vs → KeyV H (.tup ks) (.ref a)
inductive KeysV (H : Hp) : List NK → List V → Prop
  | nil : KeysV H [] []
  | cons {k : NK} {v : V} {ks : List NK} {vs : List V} : KeyV H k v → KeysV H ks vs → KeysV H (k :: ks) (v :: vs)
end
mutual
theorem KeyV.same {H H' : Hp} (s : ∀ a xs, H a = some (.tup xs) → H' a = some (.tup xs)) : ∀ {k : NK} {v : V}, KeyV H k v → KeyV H' k v
  | _, _, .non => .non
  | _, _, .int i => .int i
  | _, _, .str z => .str z
  | _, _, .tup e h => .tup (s _ _ e) (h.same s)
theorem KeysV.same {H H' : Hp} (s : ∀ a xs, H a = some (.tup xs) → H' a = some (.tup xs)) : ∀ {ks : List NK} {vs : List V}, KeysV H ks vs → KeysV H' ks vs
  | _, _, .nil => .nil
  | _, _, .cons h t => .cons (h.same s) (t.same s)
end
mutual
theorem KeyV.is {P : Program} {w : World} {H : Hp} {h : Heap} (ok : HOk P w H h) : ∀ {k : NK} {v : V}, KeyV H k v → ∀ {u : Value}, RelV v u → NestedIs h k u
  | _, _, .non, u, r => by
    obtain rfl : u = Value.none := r
    exact .none
  | _, _, .int i, u, r => by
    obtain ⟨t, rfl⟩ := r
    exact .int i t
  | _, _, .str z, u, r => by
    obtain ⟨t, rfl⟩ := r
    exact .text z t
  | _, _, .tup (a := a) e hs, u, r => by
    obtain rfl : u = Value.ref a := r
    obtain ⟨_, its, rv, o, g, hc, n, hd⟩ := (show ObjOk P w H h a (.tup _) from ok a _ e)
    exact .tup g hc hd (by simpa using hs.is ok rv)
theorem KeysV.is {P : Program} {w : World} {H : Hp} {h : Heap} (ok : HOk P w H h) : ∀ {ks : List NK} {vs : List V}, KeysV H ks vs → ∀ {us : List Value}, Vals vs us → NestedAll h ks us
  | _, _, .nil, _, .nil => .nil
  | _, _, .cons h1 t1, _, .cons r1 r2 => .cons (h1.is ok r1) (t1.is ok r2)
end
mutual
theorem KeyV.inj {H : Hp} : ∀ {k j : NK} {v : V}, KeyV H k v → KeyV H j v → k = j
  | _, _, _, .non, .non => rfl
  | _, _, _, .int _, .int _ => rfl
  | _, _, _, .str _, .str _ => rfl
  | _, _, _, .tup e h, .tup e2 h2 => by
    rw [e] at e2
    cases e2
    rw [h.inj h2]
theorem KeysV.inj {H : Hp} : ∀ {ks js : List NK} {vs : List V}, KeysV H ks vs → KeysV H js vs → ks = js
  | _, _, _, .nil, .nil => rfl
  | _, _, _, .cons a b, .cons c d => by rw [a.inj c, b.inj d]
end
/-! ### the dict -/
abbrev Ent := NK × Addr × V
/-- its entries, told by values: the keys' own addresses are kept -/
def dn (P : Program) (w : World) (d : Addr) (xs : List Ent) : HO := .ext fun h => ∃ us : List Value, Vals (xs.map (·.2.2)) us ∧ xs.length ≤ sizeLine ∧ (d == sysModules) = false ∧ (xs.map (·.1)).Nodup ∧
  ∃ o es ep, h.get? d = some o ∧ o.ExactDict ∧ o.data = .dict es ep ∧ es.toList = ((xs.zip us).map fun p => (p.1.1, p.1.2.1, p.2)).map (entryOfKey (nestedKind P w))
/-- at d: a dict of these keys and values, in their order -/
def Dct (P : Program) (w : World) (H : Hp) (d : Addr) (xs : List Ent) : Prop := H d = some (dn P w d xs) ∧ ∀ x ∈ xs, KeyV H x.1 (.ref x.2.1) ∧ x.1.depth ≤ 8
theorem Dct.mono {P : Program} {w : World} {H H' : Hp} {d : Addr} {xs : List Ent} (h : Dct P w H d xs) (e : H' d = some (dn P w d xs)) (s : ∀ a ys, H a = some (.tup ys) → H' a = some (.tup ys)) : Dct P w H' d xs := ⟨e, fun x hx => ⟨(h.2 x hx).1.same s, (h.2 x hx).2⟩⟩
theorem Dct.same {P : Program} {w : World} {H H' : Hp} {d : Addr} {xs : List Ent} (h : Dct P w H d xs) (s : Same H H') : Dct P w H' d xs := h.mono (s _ _ h.1) fun a ys e => s a _ e
theorem dn_ne {P : Program} {w : World} {d : Addr} {xs : List Ent} {ys : List V} : dn P w d xs ≠ .tup ys := fun z => by
  unfold dn at z
  cases z
/-- what the library wants of it -/
theorem Dct.keyed {P : Program} {w : World} {H : Hp} {h : Heap} {d : Addr} {xs : List Ent} (ok : HOk P w H h) (D : Dct P w H d xs) : ∃ zs : List (NK × Addr × Value), h.DictOfH (nestedKind P w) d zs ∧ Paired (fun x z => x.1 = z.1 ∧ x.2.1 = z.2.1 ∧ RelV x.2.2 z.2.2) xs zs ∧ xs.length ≤ sizeLine ∧ (d == sysModules) = false := by
  obtain ⟨⟨us, r, hl, hs, nd, o, es, ep, g, ex, hd, he⟩, _⟩ := (show ObjOk P w H h d (dn P w d xs) from ok d _ D.1)
  have pr : ∀ {xs : List Ent} {us : List Value}, Vals (xs.map (·.2.2)) us → Paired (fun x z => x.1 = z.1 ∧ x.2.1 = z.2.1 ∧ RelV x.2.2 z.2.2) xs ((xs.zip us).map fun p => (p.1.1, p.1.2.1, p.2)) := by
    intro xs
    induction xs with
    | nil =>
      intro us r
      exact .nil
    | cons x xs ih =>
      intro us r
      cases r with
      | cons a b => exact .cons ⟨rfl, rfl, a⟩ (ih b)
  have keys : ∀ {xs : List Ent} {us : List Value}, Vals (xs.map (·.2.2)) us → ((xs.zip us).map fun p => (p.1.1, p.1.2.1, p.2)).map (·.1) = xs.map (·.1) := by
    intro xs
    induction xs with
    | nil =>
      intro us r
      rfl
    | cons x xs ih =>
      intro us r
      cases r with
      | cons a b =>
        rw [List.zip_cons_cons, List.map_cons, List.map_cons, List.map_cons, ih b]
  refine ⟨_, ⟨o, es, ep, g, ex, hd, he, fun z hz => ?_, by rw [keys r]; exact nd⟩, pr r, hl, hs⟩
  obtain ⟨p, hp, rfl⟩ := List.mem_map.mp hz
  have hx := (List.of_mem_zip (a := p.1) (b := p.2) hp).1
  exact ⟨(D.2 p.1 hx).1.is ok rfl, (D.2 p.1 hx).2⟩
/-- the value at a key -/
def at_ (xs : List Ent) (k : NK) : Option V := (xs.find? fun x => decide (x.1 = k)).map (·.2.2)
theorem at_rel : ∀ {xs : List Ent} {zs : List (NK × Addr × Value)} (k : NK), Paired (fun x z => x.1 = z.1 ∧ x.2.1 = z.2.1 ∧ RelV x.2.2 z.2.2) xs zs → RelO (at_ xs k) ((atKey zs k).map (·.2))
  | _, _, k, .nil => trivial
  | x :: xs, z :: zs, k, .cons h t => by
    have ih := at_rel k t
    unfold at_ atKey at ih ⊢
    rw [List.find?_cons, List.find?_cons, ← h.1]
    by_cases e : x.1 = k
    · rw [decide_eq_true e]
      exact h.2.2
    · rw [decide_eq_false e]
      exact ih
/-! ### made, changed -/
def putE (xs : List Ent) (k : NK) (a : Addr) (v : V) : List Ent := if (at_ xs k).isSome then xs.map fun x => if x.1 = k then (x.1, x.2.1, v) else x else xs ++ [(k, a, v)]
def dropE (xs : List Ent) (k : NK) : List Ent := xs.filter fun x => decide (x.1 ≠ k)
abbrev Alike : List Ent → List (NK × Addr × Value) → Prop := Paired fun x z => x.1 = z.1 ∧ x.2.1 = z.2.1 ∧ RelV x.2.2 z.2.2
theorem Alike.len {xs : List Ent} {zs : List (NK × Addr × Value)} (p : Alike xs zs) : xs.length = zs.length := Paired.length p
theorem Alike.vals : ∀ {xs : List Ent} {zs : List (NK × Addr × Value)}, Alike xs zs → Vals (xs.map (·.2.2)) (zs.map (·.2.2))
  | _, _, .nil => .nil
  | _, _, .cons h t => .cons h.2.2 (Alike.vals t)
theorem Alike.zip : ∀ {xs : List Ent} {zs : List (NK × Addr × Value)}, Alike xs zs → ((xs.zip (zs.map (·.2.2))).map fun p => (p.1.1, p.1.2.1, p.2)) = zs
  | _, _, .nil => rfl
  | x :: xs, (k, a, v) :: zs, .cons h t => by
    rw [List.map_cons, List.zip_cons_cons, List.map_cons, Alike.zip t]
    obtain ⟨h1, h2, _⟩ := h
    dsimp only at h1 h2 ⊢
    rw [h1, h2]
theorem Alike.keys : ∀ {xs : List Ent} {zs : List (NK × Addr × Value)}, Alike xs zs → xs.map (·.1) = zs.map (·.1)
  | _, _, .nil => rfl
  | _, _, .cons h t => by rw [List.map_cons, List.map_cons, Alike.keys t, h.1]
theorem dn_ok {P : Program} {w : World} {H : Hp} {h : Heap} {d : Addr} {xs : List Ent} {zs : List (NK × Addr × Value)} (m : h.DictOfH (nestedKind P w) d zs) (p : Alike xs zs) (hl : xs.length ≤ sizeLine) (hs : (d == sysModules) = false) : ObjOk P w H h d (dn P w d xs) := by
  obtain ⟨o, es, ep, g, ex, hd, he, _, nd⟩ := m
  refine ⟨⟨zs.map (·.2.2), p.vals, hl, hs, by rw [p.keys]; exact nd, o, es, ep, g, ex, hd, by rw [p.zip]; exact he⟩, ⟨o, g⟩, fun h1 h2 φ k => ?_⟩
  obtain ⟨us, r, hl, hs, nd, o, es, ep, g, rest⟩ := φ
  exact ⟨us, r, hl, hs, nd, o, es, ep, k _ g, rest⟩
theorem Alike.puts {k : NK} {v : V} {u : Value} (r : RelV v u) : ∀ {xs : List Ent} {zs : List (NK × Addr × Value)}, Alike xs zs → Alike (xs.map fun x => if x.1 = k then (x.1, x.2.1, v) else x) (zs.map (putAt k u))
  | _, _, .nil => .nil
  | x :: xs, z :: zs, .cons h t => by
    rw [List.map_cons, List.map_cons]
    refine .cons ?_ (Alike.puts r t)
    unfold putAt
    obtain ⟨h1, h2, h3⟩ := h
    by_cases e : x.1 = k
    · rw [if_pos e, if_pos (h1 ▸ e)]
      exact ⟨h1, h2, r⟩
    · rw [if_neg e, if_neg (h1 ▸ e)]
      exact ⟨h1, h2, h3⟩
theorem Alike.more {k : NK} {a : Addr} {v : V} {u : Value} (r : RelV v u) : ∀ {xs : List Ent} {zs : List (NK × Addr × Value)}, Alike xs zs → Alike (xs ++ [(k, a, v)]) (zs ++ [(k, a, u)])
  | _, _, .nil => .cons ⟨rfl, rfl, r⟩ .nil
  | _, _, .cons h t => .cons h (Alike.more r t)
theorem Alike.put {xs : List Ent} {zs : List (NK × Addr × Value)} (p : Alike xs zs) (k : NK) (a : Addr) {v : V} {u : Value} (r : RelV v u) : Alike (putE xs k a v) (storedH zs k a u) := by
  have e : (at_ xs k).isSome = (atKey zs k).isSome := by
    have z := at_rel k p
    cases h1 : at_ xs k <;> cases h2 : atKey zs k <;> rw [h1, h2] at z <;> first | rfl | exact z.elim
  unfold putE storedH
  rw [e]
  split
  · exact Alike.puts r p
  · exact Alike.more r p
theorem Alike.drop {xs : List Ent} {zs : List (NK × Addr × Value)} (p : Alike xs zs) (k : NK) : Alike (dropE xs k) (withoutH zs k) := by
  unfold dropE withoutH
  induction p with
  | nil => exact .nil
  | @cons x z xs zs h t ih =>
    rw [List.filter_cons, List.filter_cons, ← h.1]
    split
    · exact .cons h ih
    · exact ih
theorem len_put (xs : List Ent) (k : NK) (a : Addr) (v : V) : (putE xs k a v).length ≤ xs.length + 1 := by
  unfold putE
  split
  · rw [List.length_map]
    omega
  · rw [List.length_append]
    exact Nat.le_refl _
theorem len_drop (xs : List Ent) (k : NK) : (dropE xs k).length ≤ xs.length := List.length_filter_le _ _
section
variable {X : Cx} {pins : List (Addr × Obj)} {σ : L2.St} {H : Hp} {s : Shared} {d a : Addr} {xs : List Ent} {k : NK}
theorem key_is (I : Inv X pins σ H s) (hk : KeyV H k (.ref a)) (hd : k.depth ≤ 8) : (nestedKind X.prog X.w).is s.heap k a := ⟨hk.is I.hok rfl, hd⟩
theorem room_in (hu : X.A.units + 40 < cLine) : (nestedKind X.prog X.w).room X.A.in1 := by
  show X.A.units + 1 + 8 < cLine
  omega
def rInN (P : Program) (w : World) (neg : Bool) : R2 := fun x y H Q => ∃ (a d : Addr) (xs : List Ent) (k : NK), x = .ref a ∧ y = .ref d ∧ Dct P w H d xs ∧ KeyV H k (.ref a) ∧ k.depth ≤ 8 ∧ Q (.bl (if neg then !(at_ xs k).isSome else (at_ xs k).isSome)) H
theorem some_rel {xs : List Ent} {zs : List (NK × Addr × Value)} (k : NK) (p : Alike xs zs) : (atKey zs k).isSome = (at_ xs k).isSome := by
  have z := at_rel k p
  cases h1 : at_ xs k <;> cases h2 : atKey zs k <;> rw [h1, h2] at z <;> first | rfl | exact z.elim
theorem op_inN {P : Program} {w : World} (hu : X.A.units + 40 < cLine) (hP : X.prog = P := by rfl) (hw : X.w = w := by rfl) : OpR X (compareOp .In) (rInN P w false) := by
  subst hP hw
  intro pns s σ H x y v u Q I rx ry h
  obtain ⟨a, d, xs, k, rfl, rfl, D, hk, hd, q⟩ := h
  cases (show v = Value.ref a from rx)
  cases (show u = Value.ref d from ry)
  obtain ⟨zs, m, p, hl, hs⟩ := D.keyed I.hok
  refine wpAny_in_heap (room_in hu) (key_is I hk hd) hs m ⟨.bl _, H, I.tok _, rfl, ?_⟩
  rw [some_rel k p]
  exact q
theorem op_notInN {P : Program} {w : World} (hu : X.A.units + 40 < cLine) (hP : X.prog = P := by rfl) (hw : X.w = w := by rfl) : OpR X (compareOp .NotIn) (rInN P w true) := by
  subst hP hw
  intro pns s σ H x y v u Q I rx ry h
  obtain ⟨a, d, xs, k, rfl, rfl, D, hk, hd, q⟩ := h
  cases (show v = Value.ref a from rx)
  cases (show u = Value.ref d from ry)
  obtain ⟨zs, m, p, hl, hs⟩ := D.keyed I.hok
  refine PyProof.Rows.wpAny_notIn_heap (room_in hu) (key_is I hk hd) hs m ⟨.bl _, H, I.tok _, rfl, ?_⟩
  rw [some_rel k p]
  exact q
/-- d[k] = v -/
def rSetN (P : Program) (w : World) : TSet := fun o i v H Q => ∃ (d a : Addr) (xs : List Ent) (k : NK), o = .ref d ∧ i = .ref a ∧ Dct P w H d xs ∧ KeyV H k (.ref a) ∧ k.depth ≤ 8 ∧ xs.length < 1000 ∧ Q (upd H d (dn P w d (putE xs k a v)))
theorem set_dictN (hu : X.A.units + 40 < cLine) : PSet X (rSetN X.prog X.w) := by
  intro pins s σ H o i v ov iv u Q I ro ri rv h
  obtain ⟨d, a, xs, k, rfl, rfl, D, hk, hd, hz, q⟩ := h
  cases (show ov = Value.ref d from ro)
  cases (show iv = Value.ref a from ri)
  obtain ⟨zs, m, p, hl, hs⟩ := D.keyed I.hok
  refine wpAny_setItem_heap (room_in hu) (key_is I hk hd) m (fun h' m' sb => ?_) (by rw [← Alike.len p]; exact hl)
  have hz2 := len_put xs k a v
  refine ⟨_, I.write (x := d) (e := d) (o := dn X.prog X.w d (putE xs k a v)) (by rw [D.1]; exact True.intro) (.inl rfl) (fun b o hb e => (sb.2 b hb).trans e) ?_ (dn_ok m' (Alike.put p k a rv) (Nat.le_trans hz2 (by rw [sizeLine_eq]; omega)) hs), q⟩
  obtain ⟨o, _, _, g, _⟩ := m'
  exact ⟨o, g⟩
/-- del d[k], there -/
def sDelN (P : Program) (w : World) (td ty : TE) : TS := fun D σ H => td σ H fun x H1 => ty σ H1 fun y H2 => ∃ (d a : Addr) (xs : List Ent) (k : NK), x = .ref d ∧ y = .ref a ∧ Dct P w H2 d xs ∧ KeyV H2 k (.ref a) ∧ k.depth ≤ 8 ∧ (at_ xs k).isSome = true ∧ D.nx σ (upd H2 d (dn P w d (dropE xs k)))
theorem ps_delN {o i : Expr} {td ty : TE} {tpos pos : Pos} (hu : X.A.units + 40 < cLine) (ho : PE X o td) (hi : PE X i ty) : PS X (.Delete [.Subscript o i tpos] pos) (sDelN X.prog X.w td ty) := by
  refine ⟨fun pins s σ H D I h => ?_⟩
  refine wpAny_Delete (wpAny_deleteEach_cons (wpAny_delete_Subscript (thn (ho.run pins s σ H _ I h) fun u s1 hh => ?_)))
  obtain ⟨x, H1, I1, rx, q1⟩ := hh
  refine thn (hi.run pins s1 σ H1 _ I1 q1) fun iv s2 hh => ?_
  obtain ⟨y, H2, I2, ry, d, a, xs, k, rfl, rfl, Dc, hk, hd, l, q2⟩ := hh
  cases (show u = Value.ref d from rx)
  cases (show iv = Value.ref a from ry)
  obtain ⟨zs, m, p, hl, hs⟩ := Dc.keyed I2.hok
  obtain ⟨pp, hp⟩ := Option.isSome_iff_exists.mp ((some_rel k p).trans l)
  refine wpAny_delItem_heap (room_in hu) (key_is I2 hk hd) hs m hp (fun h' m' sb => wpAny_deleteEach_nil ⟨σ, _, ?_, q2⟩) (by rw [← Alike.len p]; exact hl)
  refine I2.write (x := d) (e := d) (o := dn X.prog X.w d (dropE xs k)) (by rw [Dc.1]; exact True.intro) (.inl rfl) (fun b o hb e => (sb.2 b hb).trans e) ?_ (dn_ok m' (Alike.drop p k) (Nat.le_trans (len_drop xs k) hl) hs)
  obtain ⟨o, _, _, g, _⟩ := m'
  exact ⟨o, g⟩
end
end DN
set_option Elab.async false
set_option linter.all false
set_option maxRecDepth 100000
set_option maxHeartbeats 4000000
namespace DN
open PySem PySem.Spec PyProof.Rows L2 CM
section
variable {X : Cx} {pins : List (Addr × Obj)} {σ : L2.St} {H : Hp} {s : Shared}
theorem at_none {xs : List Ent} {zs : List (NK × Addr × Value)} {k : NK} (p : Alike xs zs) (h : at_ xs k = none) : atKey zs k = none := by
  have z := at_rel k p
  rw [h] at z
  cases e : atKey zs k with
  | none => rfl
  | some q =>
    rw [e] at z
    exact z.elim
theorem at_some {xs : List Ent} {zs : List (NK × Addr × Value)} {k : NK} {v : V} (p : Alike xs zs) (h : at_ xs k = some v) : ∃ q, atKey zs k = some q ∧ RelV v q.2 := by
  have z := at_rel k p
  rw [h] at z
  cases e : atKey zs k with
  | none =>
    rw [e] at z
    exact z.elim
  | some q =>
    rw [e] at z
    exact ⟨q, rfl, z⟩
/-- {} -/
def tDNewN (P : Program) (w : World) : TE := fun _ H Q => ∀ p, H p = none → Q (.ref p) (upd H p (dn P w p []))
theorem pe_dnewN {pos : Pos} : PE X (.Dict [] [] pos) (tDNewN X.prog X.w) := ⟨fun pins s σ H Q I h => by
  refine wpAny_Dict_empty ?_
  have big := I.big
  have m : (s.heap.push { cls := .type "dict", data := .dict #[] }).DictOfH (nestedKind X.prog X.w) s.heap.objs.size [] := Heap.DictOfH.new s.heap
  have ok : ObjOk X.prog X.w (upd H s.heap.objs.size (dn X.prog X.w s.heap.objs.size [])) (s.heap.push { cls := .type "dict", data := .dict #[] }) s.heap.objs.size (dn X.prog X.w s.heap.objs.size []) :=
    dn_ok (xs := []) m .nil (Nat.zero_le _) (beq_eq_false_iff_ne.mpr (Nat.ne_of_gt I.big))
  exact ⟨.ref s.heap.objs.size, _, I.laid (a := s.heap.objs.size) (o := dn X.prog X.w s.heap.objs.size []) (t' := s.toks) (fun _ _ q => Heap.get?_push_of_some _ q) (Nat.le_refl _) ok, rfl, h _ (I.hok.fresh (Nat.le_refl _))⟩⟩
/-- d.get(k, x) -/
def rGetN (P : Program) (w : World) : V → List V → Hp → VK → Prop := fun o xs H Q => ∃ (d a : Addr) (es : List Ent) (k : NK) (x : V), o = .ref d ∧ xs = [.ref a, x] ∧ Dct P w H d es ∧ KeyV H k (.ref a) ∧ k.depth ≤ 8 ∧ Q ((at_ es k).getD x) H
theorem mt_getN {P : Program} {w : World} (hu : X.A.units + 40 < cLine) (hP : X.prog = P := by rfl) (hw : X.w = w := by rfl) : MtR X "dict.get" (rGetN P w) := by
  subst hP hw
  intro pins s σ H o xs v us Q I ro rx h
  obtain ⟨d, a, es, k, x, rfl, rfl, D, hk, hd, q⟩ := h
  cases (show v = Value.ref d from ro)
  obtain ⟨u1, u2, rfl, r1, r2⟩ := vals2 rx
  cases (show u1 = Value.ref a from r1)
  obtain ⟨zs, m, p, hl, hs⟩ := D.keyed I.hok
  refine getOr_keyed (room_in hu) (key_is I hk hd) hs ⟨zs, m, rfl⟩ ?_
  rw [valueAt_pairsH]
  cases e : at_ es k with
  | none =>
    rw [at_none p e]
    rw [e] at q
    exact ⟨x, H, I.tok _, r2, q⟩
  | some v =>
    obtain ⟨q', e2, rr⟩ := at_some p e
    rw [e2]
    rw [e] at q
    exact ⟨v, H, I.tok _, rr, q⟩
/-- len(d) -/
def rLenN (P : Program) (w : World) : List V → Hp → VK → Prop := fun xs H Q => ∃ (d : Addr) (es : List Ent), xs = [.ref d] ∧ Dct P w H d es ∧ Q (.int (es.length : Nat)) H
theorem cr_lenN {P : Program} {w : World} (hP : X.prog = P := by rfl) (hw : X.w = w := by rfl) : CallR X (.builtin "len") (rLenN P w) := by
  subst hP hw
  intro pins s σ H vs us Q I r h
  obtain ⟨d, es, rfl, D, q⟩ := h
  rw [Vals.ref1 r]
  obtain ⟨zs, m, p, hl, hs⟩ := D.keyed I.hok
  have e : es.length = zs.length := Alike.len p
  refine call_len_dictH hs m (by rw [← e]; rw [sizeLine_eq] at hl; omega) ?_
  exact ⟨.int (es.length : Nat), H, I.tok _, ⟨_, by rw [e]⟩, q⟩
/-- d.pop(k, x) -/
def rPopN (P : Program) (w : World) : V → List V → Hp → VK → Prop := fun o xs H Q => ∃ (d a : Addr) (es : List Ent) (k : NK) (x : V), o = .ref d ∧ xs = [.ref a, x] ∧ Dct P w H d es ∧ KeyV H k (.ref a) ∧ k.depth ≤ 8 ∧
  (at_ es k = none → Q x H) ∧ (∀ v, at_ es k = some v → Q v (upd H d (dn P w d (dropE es k))))
theorem mt_popN {P : Program} {w : World} (hu : X.A.units + 40 < cLine) (hP : X.prog = P := by rfl) (hw : X.w = w := by rfl) : MtR X "dict.pop" (rPopN P w) := by
  subst hP hw
  intro pins s σ H o xs v us Q I ro rx h
  obtain ⟨d, a, es, k, x, rfl, rfl, D, hk, hd, q1, q2⟩ := h
  cases (show v = Value.ref d from ro)
  obtain ⟨u1, u2, rfl, r1, r2⟩ := vals2 rx
  cases (show u1 = Value.ref a from r1)
  obtain ⟨zs, m, p, hl, hs⟩ := D.keyed I.hok
  cases e : at_ es k with
  | none => exact call_pop_default_heap (room_in hu) (key_is I hk hd) hs m (at_none p e) (fun tk => ⟨x, H, I.tok _, r2, q1 e⟩) (by rw [← Alike.len p]; exact hl)
  | some v =>
    obtain ⟨q', e2, rr⟩ := at_some p e
    refine call_pop_heap (.inr ⟨u2, rfl⟩) (F.args_dict_pop_3 _ _ _) (room_in hu) (key_is I hk hd) hs m e2 (fun h' m' sb => ?_) (by rw [← Alike.len p]; exact hl)
    refine ⟨v, _, I.write (x := d) (e := d) (o := dn X.prog X.w d (dropE es k)) (by rw [D.1]; exact True.intro) (.inl rfl) (fun b o hb e => (sb.2 b hb).trans e) ?_ (dn_ok m' (Alike.drop p k) (Nat.le_trans (len_drop es k) hl) hs), rr, q2 v e⟩
    obtain ⟨o, _, _, g, _⟩ := m'
    exact ⟨o, g⟩
end
end DN
set_option Elab.async false
set_option linter.all false
set_option maxRecDepth 100000
set_option maxHeartbeats 4000000
namespace DN
open PySem PySem.Spec PyProof.Rows L2 CM RZ
/-! ### values by their data: == and != -/
mutual
theorem shw_plain {H : Hp} : ∀ {v : V} {d : PyData}, Shw H v d → d.plain = true
  | _, _, .non => by simp only [PyData.plain]
  | _, _, .bl _ => by simp only [PyData.plain]
  | _, _, .int _ => by simp only [PyData.plain]
  | _, _, .str _ => by simp only [PyData.plain]
  | _, _, .lst _ h => by
    simp only [PyData.plain]
    exact shws_plain h
  | _, _, .tup _ h => by
    simp only [PyData.plain]
    exact shws_plain h
theorem shws_plain {H : Hp} : ∀ {vs : List V} {ds : List PyData}, ShwAll H vs ds → PyData.plainAll ds = true
  | _, _, .nil => by simp only [PyData.plainAll]
  | _, _, .cons h t => by simp only [PyData.plainAll, shw_plain h, shws_plain t, Bool.and_self]
end
mutual
theorem Shw_same {H H' : Hp} (s : Same H H') : ∀ {v : V} {d : PyData}, Shw H v d → Shw H' v d
  | _, _, .non => .non
  | _, _, .bl b => .bl b
  | _, _, .int i => .int i
  | _, _, .str z => .str z
  | _, _, .lst e h => .lst (s _ _ e) (Shws_same s h)
  | _, _, .tup e h => .tup (s _ _ e) (Shws_same s h)
theorem Shws_same {H H' : Hp} (s : Same H H') : ∀ {vs : List V} {ds : List PyData}, ShwAll H vs ds → ShwAll H' vs ds
  | _, _, .nil => .nil
  | _, _, .cons h t => .cons (Shw_same s h) (Shws_same s t)
end
section
variable {X : Cx} {pins : List (Addr × Obj)} {σ : L2.St} {H : Hp} {s : Shared}
def rEqD (ne : Bool) : R2 := fun x y H Q => ∃ dx dy, Shw H x dx ∧ Shw H y dy ∧ dx.depth ≤ 40 ∧ Q (.bl (if ne then !(PyData.eqv dx dy) else PyData.eqv dx dy)) H
theorem op_eqD (hu : X.A.units + 64 < cLine) : OpR X (compareOp .Eq) (rEqD false) := by
  intro pns s σ H x y v u Q I rx ry h
  obtain ⟨dx, dy, sx, sy, hd, q⟩ := h
  obtain ⟨as, ra⟩ := sx.reads I.hok rx
  obtain ⟨bs, rb⟩ := sy.reads I.hok ry
  exact SeqAt.eq_plain ra rb (shw_plain sx) (shw_plain sy) (by omega) ⟨.bl _, H, I, rfl, q⟩
theorem op_neD (hu : X.A.units + 64 < cLine) : OpR X (compareOp .NotEq) (rEqD true) := by
  intro pns s σ H x y v u Q I rx ry h
  obtain ⟨dx, dy, sx, sy, hd, q⟩ := h
  obtain ⟨as, ra⟩ := sx.reads I.hok rx
  obtain ⟨bs, rb⟩ := sy.reads I.hok ry
  exact SeqAt.ne_plain ra rb (shw_plain sx) (shw_plain sy) (by omega) ⟨.bl _, H, I, rfl, q⟩
end
/-! ### list(d), bool(d) -/
section
variable {X : Cx} {pins : List (Addr × Obj)} {σ : L2.St} {H : Hp} {s : Shared}
def keyRefs (es : List Ent) : List V := es.map fun x => V.ref x.2.1
theorem keys_raw {P : Program} {w : World} {h : Heap} {d : Addr} {zs : List (NK × Addr × Value)} (m : h.DictOfH (nestedKind P w) d zs) : ∃ es ep, h.DictRaw d es ep ∧ es.size = zs.length ∧ ∀ i (hi : i < es.size), ∃ z, zs[i]? = some z ∧ es[i].key = .ref z.2.1 := by
  obtain ⟨es, ep, r, hs, hk⟩ := m.raw
  exact ⟨es, ep, r, hs, fun i hi => by
    obtain ⟨y, h1, h2, _⟩ := hk i hi
    exact ⟨y, h1, h2⟩⟩
theorem keyRefs_vals {zs : List (NK × Addr × Value)} : ∀ {es : List Ent} {its : List Value}, Alike es zs → its.length = zs.length → (∀ (i : Nat) (v : Value), its[i]? = some v → ∃ z, zs[i]? = some z ∧ v = .ref z.2.1) → Vals (keyRefs es) its := by
  intro es its p
  unfold keyRefs
  induction p generalizing its with
  | nil =>
    intro hl _
    cases its with
    | nil => exact .nil
    | cons => cases hl
  | @cons x z xs zs h t ih =>
    intro hl hv
    cases its with
    | nil => cases hl
    | cons u us =>
      refine .cons ?_ (ih (Nat.succ.inj hl) fun i v e => hv (i + 1) v e)
      obtain ⟨z', e, e2⟩ := hv 0 u rfl
      cases e
      subst e2
      show Value.ref _ = Value.ref _
      rw [h.2.1]
def rListN (P : Program) (w : World) : List V → Hp → VK → Prop := fun xs H Q => ∃ (d : Addr) (es : List Ent), xs = [.ref d] ∧ Dct P w H d es ∧ ∀ p, H p = none → Q (.ref p) (upd H p (.lst (keyRefs es)))
theorem cr_listN {P : Program} {w : World} (hc : X.calm = true) (hP : X.prog = P := by rfl) (hw : X.w = w := by rfl) : CallR X (.type "list") (rListN P w) := by
  subst hP hw
  intro pins s σ H vs us Q I r h
  obtain ⟨d, es, rfl, D, q⟩ := h
  rw [Vals.ref1 r]
  obtain ⟨zs, m, p, hl, hs⟩ := D.keyed I.hok
  obtain ⟨ees, ep, hr, hsz, hk⟩ := keys_raw m
  have hlen : es.length = zs.length := Alike.len p
  refine PySem.W.kdl_call (KdlSrc.rawDict hs) ?_ hr (by omega) (fun h' tk acc' c' hk' hD hacc => ?_)
  · exact I.ok.hd hc
  · have v1 : Vals (keyRefs es) acc'.toList := keyRefs_vals p (by rw [Array.length_toList, hacc.1, hsz]) fun i v e => by
      obtain ⟨hi, e2⟩ := hacc.2 i v (by rw [← Array.getElem?_toList]; exact e)
      obtain ⟨z, h1, h2⟩ := hk i hi
      exact ⟨z, h1, by rw [e2, h2]⟩
    have ok : ObjOk X.prog X.w (upd H s.heap.objs.size (.lst (keyRefs es))) h' s.heap.objs.size (.lst (keyRefs es)) := ⟨by unfold keyRefs; rw [List.length_map]; exact hl, acc'.toList, c', v1, by rw [Array.toArray_toList]; exact hD⟩
    exact ⟨.ref s.heap.objs.size, _, I.laid (t' := tk) hk' (Nat.le_refl _) ok, rfl, q _ (I.hok.fresh (Nat.le_refl _))⟩
theorem truthyN {prog : Program} {w : World} {A : Around} {E : Value → Shared → Prop} {d : Addr} {zs : List (NK × Addr × Value)} {Q : Bool → Shared → Prop} (hd : (d == sysModules) = false) (hm : s.heap.DictOfH (nestedKind prog w) d zs) (hfit : (zs.length : Int) < 2 ^ 63)
    (h : Q (!zs.isEmpty) { s with toks := s.toks + 1 + 1 }) : wpAny (model prog w) A (truthy (.ref d)) Q E s := by
  have hne : ((zs.length : Int) != 0) = !zs.isEmpty := by cases zs <;> simp <;> omega
  have key : wpAny (model prog w) A (runValue (.builtin "len" ⟨[.ref d], []⟩)) (fun r s' => r = .int zs.length (s.toks + 1) ∧ Q (!zs.isEmpty) s') E s := by
    refine wpAny_runValue (codeAny_builtin entry_len ?_)
    rw [Around.under_plainId plain_len _]
    exact wpAny_mono (wpAny_len_body_dictH (Q := fun r s' => r = .int zs.length (s.toks + 1) ∧ Q (!zs.isEmpty) s') hd hm hfit ⟨rfl, h⟩)
      (fun fin s' h' => by obtain ⟨r, rfl, hq⟩ := h'; exact hq) fun _ _ e => e
  unfold truthy
  first
    | refine wpAny_bind (wpAny_callSpecial?_none (name := Str.ofString "__bool__") hm.typeIs noBool_dict ?_)
    | refine wpAny_bind (wpAny_pure (wpAny_bind (wpAny_callSpecial?_none (name := Str.ofString "__bool__") hm.typeIs noBool_dict ?_)))
  first
    | refine wpAny_bind (wpAny_specialOf (name := Str.ofString "__len__") hm.typeIs F.slot_dict_len.lookup ?_)
    | refine wpAny_bind (wpAny_pure (wpAny_bind (wpAny_specialOf (name := Str.ofString "__len__") hm.typeIs F.slot_dict_len.lookup ?_)))
  first
    | exact wpAny_bind (wpAny_mono key (fun r s' h' => by obtain ⟨rfl, hq⟩ := h'; exact wpAny_pure (hne ▸ hq)) fun _ _ e => e)
    | exact wpAny_bind (wpAny_pure (wpAny_bind (wpAny_mono key (fun r s' h' => by obtain ⟨rfl, hq⟩ := h'; exact wpAny_pure (hne ▸ hq)) fun _ _ e => e)))
/-- bool(v) by the truth of v -/
theorem meets_bool_in {prog : Program} {w : World} (v : Value) : MeetsIn prog w (Builtin.«bool.__new__» ⟨[.type "bool", v], []⟩) (fun A R s => wpAny (model prog w) A.in1 (truthy v) (fun b s' => R (.ok (.ret (.bool b))) s') (fun e s' => R (.error e) s') s) :=
  .of_wp fun A R s hs => by
    obtain ⟨hp, g, d, tk, os⟩ := s
    have f1 := F.conv_sub_bool
    have f2 : wpAny (model prog w) A.in1 (truthy v) (fun b s' => wpAny (model prog w) A.in1 (ret (.bool b)) (fun fin s' => ∃ v, fin = .done (.ret v) ∧ R (.ok (.ret v)) s') (fun e s' => R (.error e) s') s') (fun e s' => R (.error e) s') ⟨hp, g, d, tk, os⟩ :=
      wpAny_mono hs (fun b s' z => wpAny_pure ⟨_, rfl, z⟩) fun _ _ z => z
    unfold Builtin.«bool.__new__»
    repeat (any_goals (first | exact f2 | exact wpAny_bind f2 | assumption | wp_step))
theorem call_bool_of {prog : Program} {w : World} {A : Around} {E : Value → Shared → Prop} {v : Value} {Q : Value → Shared → Prop} (h : wpAny (model prog w) A.in1.in1 (truthy v) (fun b s' => Q (.bool b) s') E s) : wpAny (model prog w) A (call (.type "bool") [v]) Q E s := by
  refine callType_newIn F.called_bool F.newNe_bool (F.typeCall_bool_1 v) (F.newCall_bool_1 v) (fun obj => F.args_object_init_2 obj v) F.entry_bool_new (meets_bool_in v) ?_
  refine wpAny_mono h (fun b s' z => ?_) fun _ _ z => z
  exact ⟨rfl, z⟩
def rBoolN (P : Program) (w : World) : List V → Hp → VK → Prop := fun xs H Q => ∃ (d : Addr) (es : List Ent), xs = [.ref d] ∧ Dct P w H d es ∧ Q (.bl (!es.isEmpty)) H
theorem cr_boolN {P : Program} {w : World} (hP : X.prog = P := by rfl) (hw : X.w = w := by rfl) : CallR X (.type "bool") (rBoolN P w) := by
  subst hP hw
  intro pins s σ H vs us Q I r h
  obtain ⟨d, es, rfl, D, q⟩ := h
  rw [Vals.ref1 r]
  obtain ⟨zs, m, p, hl, hs⟩ := D.keyed I.hok
  have e : es.length = zs.length := Alike.len p
  refine call_bool_of (truthyN hs m (by rw [← e]; rw [sizeLine_eq] at hl; omega) ?_)
  refine ⟨.bl (!es.isEmpty), H, I.tok _, ?_, q⟩
  show Value.bool _ = Value.bool _
  congr 1
  cases es <;> cases zs <;> first | rfl | cases e
/-- d.m(..) -/
def tBMN (P : Program) (w : World) (r : V → List V → Hp → VK → Prop) (to : TE) (t : TA) : TE := fun σ H Q => to σ H fun x H1 => (∃ (d : Addr) (es : List Ent), x = .ref d ∧ Dct P w H1 d es) ∧ t σ H1 fun xs H2 => r x xs H2 Q
theorem pe_bmN {P : Program} {w : World} {o e : Expr} {es : List Expr} {to : TE} {t : TA} {name : Str} {apos cpos : Pos} {id : String} {r : V → List V → Hp → VK → Prop} (pa : PlainAttrs "dict") (slot : Slot "dict" name id) (hty : typeOf (.builtin id) = pure (.type "method_descriptor")) (hm : MtR X id r) (ho : PE X o to) (ha : PA X (e :: es) t)
    (hP : X.prog = P := by rfl) (hw : X.w = w := by rfl)
    (hbase : attributeBase o name X.env (eval o X.env) = eval o X.env := by rfl)
    (hfew : ((backTo cpos (starEach (e :: es) X.env)).all (fun x => !x.1) && (backToKw cpos (keywordEach [] X.env)).all (fun x => x.1.isSome)
      && decide ((e :: es).length + ([] : List Keyword).length + (if ([] : List Keyword).isEmpty then 0 else 1) < 30)) = true := by rfl)
    (hline : (apos.endLine == cpos.line) = true := by rfl) (hs : starEach (e :: es) X.env = (false, eval e X.env) :: starEach es X.env := by rfl) (hplain : (backTo cpos (starEach es X.env)).any (·.1) = false := by rfl) :
    PE X (.Call (.Attribute o name apos) (e :: es) [] cpos) (tBMN P w r to t) := by
  subst hP hw
  refine ⟨fun pins s σ H Q I h => ?_⟩
  refine wpAny_Call_method_late hbase hfew hline rfl (thn (ho.run pins s σ H _ I h) fun v s1 ⟨x, H1, I1, r1, ⟨d, ent, ex, D⟩, q1⟩ => ?_)
  subst ex
  obtain rfl : v = Value.ref d := r1
  obtain ⟨zs, m, p, hl, hsy⟩ := D.keyed I1.hok
  obtain ⟨oo, _, _, g, xx, _⟩ := m
  refine ⟨"dict", id, pa, slot, hty, ⟨oo, g, xx.1⟩, fun a e2 => ?_, ?_⟩
  · cases e2
    exact ⟨oo, g, xx.2.1⟩
  have hA := ha.run cpos pins s1 σ H1 _ I1 q1
  rw [hs] at hA ⊢
  refine Calls.callWith_builtin (by show (false || (backTo cpos (starEach es X.env)).any (·.1)) = false; rw [hplain] <;> rfl) (Calls.evalArgs_plain ?_)
  exact thn hA fun us s2 ⟨vs, H2, I2, r2, q2⟩ => hm pins s2 σ H2 (.ref d) vs (.ref d) us Q I2 rfl r2 q2
end
end DN
set_option Elab.async false
set_option linter.all false
set_option maxRecDepth 100000
set_option maxHeartbeats 4000000
namespace DN
open PySem PySem.Spec PyProof.Rows L2 CM RZ
/-! ### == and != of two dicts -/
section
variable {prog : Program} {w : World} {K : Type} [DecidableEq K] {knd : HeapKind prog w K} {A : Around} {E : Value → Shared → Prop} {s : Shared}
def hitN (ev : Value → Value → Bool) (kb : List (K × Addr × Value)) (z : K × Addr × Value) : Bool := match atKey kb z.1 with
  | none => false
  | some p => ev z.2.2 p.2
theorem same_pairsN {nm : String} {a b : Addr} {ka kb : List (K × Addr × Value)} {ev : Value → Value → Bool} {Q : Bool → Shared → Prop} (hr : knd.room A) (ha : (a == sysModules) = false) (hb : (b == sysModules) = false)
    (da : s.heap.DictOfH knd a ka) (db : s.heap.DictOfH knd b kb) (hits : ∀ z ∈ ka, ∀ p, atKey kb z.1 = some p → SeqAt.EqAt A s z.2.2 p.2 (ev z.2.2 p.2)) (h : Q (ka.length == kb.length && ka.all (hitN ev kb)) s) :
    wpAny (model prog w) A (Builtin.Dict.samePairs nm a b) Q E s := by
  have da' := da
  have db' := db
  obtain ⟨oa, es, ep, hoa, _, hda, hea, hka, hna⟩ := da
  obtain ⟨ob, es', ep', hob, _, hdb, heb, hkb, hnb⟩ := db
  have hla : es.size = ka.length := size_of_entries hea
  have hlb : es'.size = kb.length := size_of_entries heb
  unfold Builtin.Dict.samePairs Builtin.Dict.showsAll
  rw [if_neg (show ¬ (a == sysModules) = true by rw [ha]; exact Bool.false_ne_true), if_neg (show ¬ (b == sysModules) = true by rw [hb]; exact Bool.false_ne_true)]
  refine wpAny_bind (wpAny_pure (wpAny_bind (wpAny_pure ?_)))
  refine wpAny_bind (wpAny_dictEntries hoa hda ?_)
  dsimp only
  refine wpAny_bind (wpAny_dictEntries hob hdb ?_)
  by_cases hsz : es.size = es'.size
  case neg =>
    rw [if_pos (by simpa using hsz)]
    have hbf : (ka.length == kb.length) = false := by rw [← hla, ← hlb]; simpa using hsz
    rw [hbf, Bool.false_and] at h
    exact wpAny_bind (wpAny_rule (wpAny_pure h))
  case pos =>
    have hbt : (ka.length == kb.length) = true := by rw [← hla, ← hlb]; simpa using hsz
    rw [hbt, Bool.true_and] at h
    rw [if_neg (by rw [hsz]; simp)]
    refine wpAny_bind (wpAny_dictEpoch hoa hda ?_)
    refine wpAny_bind ?_
    rw [Std.Legacy.Range.forIn_eq_forIn_range']
    simp only [Std.Legacy.Range.size, Nat.sub_zero, Nat.add_sub_cancel, Nat.div_one]
    refine wpAny_forIn_list _
      (fun rest q s' => s' = s ∧ q = (none, ()) ∧ ∃ i, rest = List.range' i (es.size - i) ∧ i ≤ es.size ∧ ka.all (hitN ev kb) = (ka.drop i).all (hitN ev kb))
      _ ?_ ?_ _ _ ⟨rfl, rfl, 0, by simp, Nat.zero_le _, rfl⟩
    · rintro x rest q s' ⟨rfl, rfl, i, hr', hi, hpre⟩
      have hlt : i < es.size := by
        rcases Nat.lt_or_ge i es.size with h | h
        · exact h
        · rw [Nat.sub_eq_zero_of_le h] at hr'; simp at hr'
      obtain ⟨rfl, hrest⟩ : x = i ∧ rest = List.range' (i + 1) (es.size - (i + 1)) := by
        have e : es.size - i = (es.size - (i + 1)) + 1 := by omega
        rw [e, List.range'_succ] at hr'
        injection hr' with h1 h2
        exact ⟨h1, h2⟩
      refine wpAny_bind (wpAny_dictEntries hoa hda ?_)
      have hlt' : x < ka.length := by rw [← hla]; exact hlt
      have hx : es[x]? = some (entryOfKey knd ka[x]) := by rw [entry_at hea, List.getElem?_eq_getElem hlt']; rfl
      rw [hx]
      have hdrop : ka.drop x = ka[x] :: ka.drop (x + 1) := List.drop_eq_getElem_cons hlt'
      have hmem : ka[x] ∈ ka := List.getElem_mem hlt'
      show wpAny _ _ (holding [.ref ka[x].2.1, ka[x].2.2] _ >>= _) _ _ _
      refine wpAny_bind (wpAny_holding (wpAny_bind (wpAny_dictFind_heap hr (hka _ hmem) hob hdb heb hkb hnb (fun hn => ?_) fun j p hj => ?_)))
      · have hat : atKey kb ka[x].1 = none := by
          cases e : atKey kb ka[x].1 with
          | none => rfl
          | some p =>
            unfold atKey at e
            cases e2 : kb.find? (fun z => decide (z.1 = ka[x].1)) with
            | none => rw [e2] at e; cases e
            | some z =>
              have hz := List.find?_some e2
              obtain ⟨j, hj, ej⟩ := List.mem_iff_getElem.mp (List.mem_of_find?_eq_some e2)
              exact absurd (show kb[j]? = some (ka[x].1, z.2) by rw [List.getElem?_eq_getElem hj, ej]; rw [← of_decide_eq_true hz]) (hn j z.2)
        have hf : ka.all (hitN ev kb) = false := by
          rw [hpre, hdrop, List.all_cons]
          have : hitN ev kb ka[x] = false := by unfold hitN; rw [hat]
          rw [this, Bool.false_and]
        rw [hf] at h
        refine wpAny_pure ?_
        show wpAny _ _ (if (!false) = true then _ else _) _ _ _
        rw [if_pos (by decide)]
        exact wpAny_pure (wpAny_pure h)
      · have hat : atKey kb ka[x].1 = some p := atKey_of_get hnb hj
        have hjl : es'[j]? = some (entryOfKey knd (ka[x].1, p)) := by rw [entry_at heb, hj]; rfl
        refine wpAny_bind (wpAny_dictEntries hob hdb ?_)
        rw [hjl]
        have he := hits _ hmem p hat
        have hh : hitN ev kb ka[x] = ev ka[x].2.2 p.2 := by unfold hitN; rw [hat]
        refine wpAny_holding (he prog w _ _ ?_)
        cases ee : ev ka[x].2.2 p.2 with
        | false =>
          have hf : ka.all (hitN ev kb) = false := by rw [hpre, hdrop, List.all_cons, hh, ee, Bool.false_and]
          rw [hf] at h
          show wpAny _ _ (if (!false) = true then _ else _) _ _ _
          rw [if_pos (by decide)]
          exact wpAny_pure (wpAny_pure h)
        | true =>
          have hf : ka.all (hitN ev kb) = (ka.drop (x + 1)).all (hitN ev kb) := by rw [hpre, hdrop, List.all_cons, hh, ee, Bool.true_and]
          show wpAny _ _ (if (!true) = true then _ else _) _ _ _
          rw [if_neg (by decide)]
          refine wpAny_bind (wpAny_dictEpoch hoa hda ?_)
          rw [if_neg (by simp)]
          exact wpAny_pure ⟨rfl, rfl, x + 1, hrest, hlt, hf⟩
    · rintro q s' ⟨rfl, rfl, i, hr', hi, hpre⟩
      have hin : i = es.size := by
        rcases Nat.lt_or_ge i es.size with h | h
        · have e : es.size - i = (es.size - (i + 1)) + 1 := by omega
          rw [e, List.range'_succ] at hr'; exact nomatch hr'
        · exact Nat.le_antisymm hi h
      refine wpAny_pure ?_
      rw [hin, hla, List.drop_length, List.all_nil] at hpre
      rw [hpre] at h
      exact h
theorem eq_dictN {a b : Addr} {ka kb : List (K × Addr × Value)} {ev : Value → Value → Bool} {Q : Value → Shared → Prop} (hr : knd.room A.in1) (ha : (a == sysModules) = false) (hb : (b == sysModules) = false)
    (da : s.heap.DictOfH knd a ka) (db : s.heap.DictOfH knd b kb) (hu : A.units < cLine) (hits : ∀ z ∈ ka, ∀ p, atKey kb z.1 = some p → SeqAt.EqAt A.in1 s z.2.2 p.2 (ev z.2.2 p.2)) (h : Q (.bool (ka.length == kb.length && ka.all (hitN ev kb))) s) :
    wpAny (model prog w) A (compareOp .Eq (.ref a) (.ref b)) Q E s := by
  refine wpAny_richCompare_same_room (op := .Eq) da.typeIs db.typeIs PySem.F.slot_dict_eq (wpAny_call_entry PySem.F.slot_dict_eq da.typeIs PySem.F.entry_dict_eq ?_ (PySem.F.args_dict_eq_2 _ _)) hu
  show wpAny _ _ (Builtin.Dict.dictSlotArgs "__eq__" ⟨[.ref a, .ref b], []⟩ >>= _) _ _ s
  refine wpAny_bind ?_
  unfold Builtin.Dict.dictSlotArgs
  refine wpAny_bind (wpAny_notOrdered_dict da.typeIs ?_)
  show wpAny _ _ (pure (Value.ref a, Value.ref b)) _ _ s
  refine wpAny_pure ?_
  refine wpAny_bind (wpAny_isInstance (T := "dict") db.typeIs PySem.F.sub_dict_dict ?_)
  simp only [Bool.not_true, Bool.false_eq_true, if_false]
  refine wpAny_bind (wpAny_pure (wpAny_bind (wpAny_pure ?_)))
  refine wpAny_bind (same_pairsN hr ha hb da db hits ?_)
  refine wpAny_pure ⟨_, rfl, ?_, ?_⟩
  · exact fun x => nomatch x
  · generalize (ka.length == kb.length && ka.all (hitN ev kb)) = r at h
    cases r <;> exact h
theorem ne_dictN {a b : Addr} {ka kb : List (K × Addr × Value)} {ev : Value → Value → Bool} {Q : Value → Shared → Prop} (hr : knd.room A.in1) (ha : (a == sysModules) = false) (hb : (b == sysModules) = false)
    (da : s.heap.DictOfH knd a ka) (db : s.heap.DictOfH knd b kb) (hu : A.units < cLine) (hits : ∀ z ∈ ka, ∀ p, atKey kb z.1 = some p → SeqAt.EqAt A.in1 s z.2.2 p.2 (ev z.2.2 p.2)) (h : Q (.bool (!(ka.length == kb.length && ka.all (hitN ev kb)))) s) :
    wpAny (model prog w) A (compareOp .NotEq (.ref a) (.ref b)) Q E s := by
  refine wpAny_richCompare_same_room (op := .NotEq) da.typeIs db.typeIs PySem.F.slot_dict_ne (wpAny_call_entry PySem.F.slot_dict_ne da.typeIs PySem.F.entry_dict_ne ?_ (PySem.F.args_dict_ne_2 _ _)) hu
  show wpAny _ _ (Builtin.Dict.dictSlotArgs "__ne__" ⟨[.ref a, .ref b], []⟩ >>= _) _ _ s
  refine wpAny_bind ?_
  unfold Builtin.Dict.dictSlotArgs
  refine wpAny_bind (wpAny_notOrdered_dict da.typeIs ?_)
  show wpAny _ _ (pure (Value.ref a, Value.ref b)) _ _ s
  refine wpAny_pure ?_
  refine wpAny_bind (wpAny_isInstance (T := "dict") db.typeIs PySem.F.sub_dict_dict ?_)
  simp only [Bool.not_true, Bool.false_eq_true, if_false]
  refine wpAny_bind (wpAny_pure (wpAny_bind (wpAny_pure ?_)))
  refine wpAny_bind (same_pairsN hr ha hb da db hits ?_)
  refine wpAny_pure ⟨_, rfl, ?_, ?_⟩
  · exact fun x => nomatch x
  · generalize (ka.length == kb.length && ka.all (hitN ev kb)) = r at h
    cases r <;> exact h
end
/-! ### the same by values: flags, ints, texts, None -/
def fl4 : V → Bool
  | .bl _ | .int _ | .str _ | .non => true
  | _ => false
def flD : V → PyData
  | .bl b => .bool b
  | .int i => .int i
  | .str z => .str z
  | _ => .none
def vlD : Value → PyData
  | .bool b => .bool b
  | .int i _ => .int i
  | .str z _ => .str z
  | _ => .none
theorem fl_rel {v : V} {u : Value} {h : Heap} (f : fl4 v = true) (r : RelV v u) : vlD u = flD v ∧ Reads h u (flD v) [] ∧ (flD v).plain = true ∧ (flD v).depth ≤ 1 := by
  cases v with
  | bl b =>
    obtain rfl : u = .bool b := r
    exact ⟨rfl, .bool b, by simp only [flD, PyData.plain], by simp [flD, PyData.depth]⟩
  | int i =>
    obtain ⟨t, rfl⟩ := (show ∃ t, u = Value.int i t from r)
    exact ⟨rfl, .int i t, by simp only [flD, PyData.plain], by simp [flD, PyData.depth]⟩
  | str z =>
    obtain ⟨t, rfl⟩ := (show ∃ t, u = Value.str z t from r)
    exact ⟨rfl, .str z t, by simp only [flD, PyData.plain], by simp [flD, PyData.depth]⟩
  | non =>
    obtain rfl : u = .none := r
    exact ⟨rfl, .none, by simp only [flD, PyData.plain], by simp [flD, PyData.depth]⟩
  | _ => cases f
theorem fl_val {v : V} {u : Value} (f : fl4 v = true) (r : RelV v u) : vlD u = flD v := by
  cases v with
  | bl b =>
    obtain rfl : u = .bool b := r
    rfl
  | int i =>
    obtain ⟨t, rfl⟩ := (show ∃ t, u = Value.int i t from r)
    rfl
  | str z =>
    obtain ⟨t, rfl⟩ := (show ∃ t, u = Value.str z t from r)
    rfl
  | non =>
    obtain rfl : u = .none := r
    rfl
  | _ => cases f
def hitE (ys : List Ent) (x : Ent) : Bool := match at_ ys x.1 with
  | none => false
  | some v => PyData.eqv (flD x.2.2) (flD v)
def eqE (xs ys : List Ent) : Bool := xs.length == ys.length && xs.all (hitE ys)
def FlE (xs ys : List Ent) : Prop := ∀ x ∈ xs, ∀ v, at_ ys x.1 = some v → fl4 x.2.2 = true ∧ fl4 v = true
abbrev evV : Value → Value → Bool := fun u v => PyData.eqv (vlD u) (vlD v)
theorem alike_mem {xs : List Ent} {zs : List (NK × Addr × Value)} (p : Alike xs zs) : ∀ z ∈ zs, ∃ x ∈ xs, x.1 = z.1 ∧ RelV x.2.2 z.2.2 := by
  induction p with
  | nil =>
    intro z hz
    cases hz
  | @cons x z xs zs h t ih =>
    intro y hy
    rcases List.mem_cons.mp hy with rfl | hy
    · exact ⟨x, List.mem_cons_self .., h.1, h.2.2⟩
    · obtain ⟨x', m, r⟩ := ih y hy
      exact ⟨x', List.mem_cons_of_mem _ m, r⟩
theorem all_hits {xs ys : List Ent} {zs zt : List (NK × Addr × Value)} (p : Alike xs zs) (q : Alike ys zt) (f : FlE xs ys) : zs.all (hitN evV zt) = xs.all (hitE ys) := by
  induction p with
  | nil => rfl
  | @cons x z xs zs h t ih =>
    have f2 : FlE xs ys := fun x hx => f x (List.mem_cons_of_mem _ hx)
    rw [List.all_cons, List.all_cons, ih f2]
    congr 1
    unfold hitN hitE
    rw [← h.1]
    cases e : at_ ys x.1 with
    | none => rw [at_none q e]
    | some v =>
      obtain ⟨qq, e2, rr⟩ := at_some q e
      obtain ⟨f3, f4⟩ := f x (List.mem_cons_self ..) v e
      rw [e2]
      show PyData.eqv (vlD z.2.2) (vlD qq.2) = _
      rw [fl_val f3 h.2.2, fl_val f4 rr]
section
variable {X : Cx} {pins : List (Addr × Obj)} {σ : L2.St} {H : Hp} {s : Shared}
theorem hits_of {A : Around} {h : Heap} {xs ys : List Ent} {zs zt : List (NK × Addr × Value)} (p : Alike xs zs) (q : Alike ys zt) (f : FlE xs ys) (hu : A.units + 4 < cLine) : ∀ z ∈ zs, ∀ pp, atKey zt z.1 = some pp → SeqAt.EqAt A s z.2.2 pp.2 (evV z.2.2 pp.2) := by
  intro z hz pp hp
  obtain ⟨x, hx, e1, rx⟩ := alike_mem p z hz
  cases e : at_ ys x.1 with
  | none =>
    rw [← e1, at_none q e] at hp
    cases hp
  | some v =>
    obtain ⟨qq, e2, rr⟩ := at_some q e
    rw [← e1, e2] at hp
    cases hp
    obtain ⟨f3, f4⟩ := f x hx v e
    obtain ⟨a1, a2, a3, a4⟩ := fl_rel (h := s.heap) f3 rx
    obtain ⟨b1, b2, b3, b4⟩ := fl_rel (h := s.heap) f4 rr
    show SeqAt.EqAt A s z.2.2 pp.2 (PyData.eqv (vlD z.2.2) (vlD pp.2))
    rw [a1, b1]
    exact SeqAt.eqAt_plain _ _ A s _ _ _ _ a2 b2 a3 b3 (by omega)
def rEqN (P : Program) (w : World) (ne : Bool) : R2 := fun x y H Q => ∃ (a b : Addr) (xs ys : List Ent), x = .ref a ∧ y = .ref b ∧ Dct P w H a xs ∧ Dct P w H b ys ∧ FlE xs ys ∧ Q (.bl (if ne then !(eqE xs ys) else eqE xs ys)) H
theorem op_eqN {P : Program} {w : World} (hu : X.A.units + 64 < cLine) (hP : X.prog = P := by rfl) (hw : X.w = w := by rfl) : OpR X (compareOp .Eq) (rEqN P w false) := by
  subst hP hw
  intro pns s σ H x y v u Q I rx ry h
  obtain ⟨a, b, xs, ys, rfl, rfl, Da, Db, f, q⟩ := h
  cases (show v = Value.ref a from rx)
  cases (show u = Value.ref b from ry)
  obtain ⟨za, ma, pa, hla, hsa⟩ := Da.keyed I.hok
  obtain ⟨zb, mb, pb, hlb, hsb⟩ := Db.keyed I.hok
  refine eq_dictN (ev := evV) (room_in (by omega)) hsa hsb ma mb (by omega) (hits_of (h := s.heap) pa pb f (by show X.A.units + 1 + 4 < cLine; omega)) ⟨.bl _, H, I, rfl, ?_⟩
  rw [all_hits pa pb f, ← Alike.len pa, ← Alike.len pb]
  exact q
theorem op_neN {P : Program} {w : World} (hu : X.A.units + 64 < cLine) (hP : X.prog = P := by rfl) (hw : X.w = w := by rfl) : OpR X (compareOp .NotEq) (rEqN P w true) := by
  subst hP hw
  intro pns s σ H x y v u Q I rx ry h
  obtain ⟨a, b, xs, ys, rfl, rfl, Da, Db, f, q⟩ := h
  cases (show v = Value.ref a from rx)
  cases (show u = Value.ref b from ry)
  obtain ⟨za, ma, pa, hla, hsa⟩ := Da.keyed I.hok
  obtain ⟨zb, mb, pb, hlb, hsb⟩ := Db.keyed I.hok
  refine ne_dictN (ev := evV) (room_in (by omega)) hsa hsb ma mb (by omega) (hits_of (h := s.heap) pa pb f (by show X.A.units + 1 + 4 < cLine; omega)) ⟨.bl _, H, I, rfl, ?_⟩
  rw [all_hits pa pb f, ← Alike.len pa, ← Alike.len pb]
  exact q
end
end DN
set_option Elab.async false
set_option linter.all false
set_option maxRecDepth 100000
set_option maxHeartbeats 4000000
namespace OP
open PySem PySem.Spec PyProof.Rows L2 CM
/-! ### what a class says of an operator: its def nm at g -/
structure Own (K : PySem.W.Frag) (C : Addr) (nm : Str) (g : Addr) : Prop where
  at_ : PySem.W.findIn K (.ref C) nm = some (some (.ref g))
  fn : PySem.W.isFn K (.ref g) = true
  fi : PySem.W.fnIn K g = true
section
variable {X : Cx} {CX : CXT} {pins : List (Addr × Obj)} {σ : L2.St} {H : Hp} {s : Shared} {a C dx g : Addr} {fs : List (Str × V)} {nm : Str} {k : Nat} {sp : Sp} {E : XK}
theorem inst_of (I : Inv X pins σ H s) (h : H a = some (.ins C dx fs)) : ∃ ox od, PySem.W.InstAt s.heap a ox C od ∧ ox.data = .plain := StX.insC_at I (.inr ⟨dx, fs, h⟩)
/-- the def is called -/
theorem run_own {Q : VK} {us : List Value} {vs : List V} (F : FnR X.prog X.w X.K X.mg X.base CX k g sp) (hr : Room k X.A) (hx : Passes CX X E) (I : Inv X pins σ H s) (r : Vals vs us) (h : sp (.ref a :: vs) H Q E) :
    wpAny (model X.prog X.w) X.A (call (.ref g) (.ref a :: us)) (EP X pins σ Q) X.xe s :=
  wpAny_mono (wpAny_call (run_fnR (us := .ref a :: us) (vs := .ref a :: vs) F hr hx I (.cons rfl r) h)) (fun _ _ z => z) fun _ _ z => z
theorem run_own1 {Q : VK} {us : List Value} {vs : List V} (F : FnR X.prog X.w X.K X.mg X.base CX k g sp) (hr : Room (k + 1) X.A) (hx : Passes CX X E) (I : Inv X pins σ H s) (r : Vals vs us) (h : sp (.ref a :: vs) H Q E) :
    wpAny (model X.prog X.w) X.A.in1 (call (.ref g) (.ref a :: us)) (EP X pins σ Q) X.xe s :=
  wpAny_mono (wpAny_call (SlX.run_at (us := .ref a :: us) (ws := .ref a :: vs) F hr.in1 I.env0.in1 hx I (.cons rfl r) h)) (fun _ _ z => z) fun _ _ z => z
/-- o[i], o an instance of C -/
def tIxO (C : Addr) (sp : Sp) (E : XK) (ta ti : TE) : TE := fun σ H Q => ta σ H fun x H1 => ti σ H1 fun y H2 => ∃ a dx fs, x = .ref a ∧ H2 a = some (.ins C dx fs) ∧ sp [x, y] H2 Q E
theorem pe_ixO {value slice : Expr} {pos : Pos} {ta ti : TE} (o : Own X.K C "__getitem__" g) (F : FnR X.prog X.w X.K X.mg X.base CX k g sp) (hr : Room (k + 1) X.A) (hx : Passes CX X E) (ha : PE X value ta) (hi : PE X slice ti)
    (hsl : ∀ x i : Value, subscripted slice true x i = runValue (.builtin "lifetime.subscript" ⟨[x, i], []⟩) := by intro _ _; rfl) : PE X (.Subscript value slice pos) (tIxO C sp E ta ti) := by
  refine ⟨fun pins s σ H Q I h => ?_⟩
  refine Subscript_ (thn (ha.run pins s σ H _ I h) fun u s1 ⟨x, H1, I1, rx, q⟩ => thn (hi.run pins s1 σ H1 _ I1 q) fun iv s2 ⟨y, H2, I2, ry, a, dx, fs, ex, hins, q2⟩ => ?_)
  subst ex
  obtain rfl : u = Value.ref a := rx
  obtain ⟨ox, od, J, hd⟩ := inst_of I2 hins
  obtain ⟨m, hF⟩ := I2.fr
  exact PySem.W.sub_K hF I2.ok.mod.kin J o.at_ o.fi o.fn (run_own1 F hr hx I2 (.cons ry .nil) q2) (hsl _ _)
/-- o[i] = v -/
def rSetO (C : Addr) (sp : Sp) (E : XK) : TSet := fun o i v H Q => ∃ a dx fs, o = .ref a ∧ H a = some (.ins C dx fs) ∧ sp [o, i, v] H (fun _ H' => Q H') E
theorem set_own (o : Own X.K C "__setitem__" g) (hq : PySem.W.noSeq X.K C = true) (F : FnR X.prog X.w X.K X.mg X.base CX k g sp) (hr : Room k X.A) (hx : Passes CX X E) : PSet X (rSetO C sp E) := by
  intro pins s σ H x i v ov iv u Q I ro ri rv h
  obtain ⟨a, dx, fs, rfl, hins, q⟩ := h
  cases (show ov = Value.ref a from ro)
  obtain ⟨ox, od, J, hd⟩ := inst_of I hins
  obtain ⟨m, hF⟩ := I.fr
  refine PySem.W.ksp_setItem hF I.ok.mod.kin J hq o.at_ o.fn (wpAny_mono (run_own F hr hx I (.cons ri (.cons rv .nil)) q) (fun w s' z => ?_) fun _ _ z => z)
  obtain ⟨_, H', I', _, q'⟩ := z
  exact ⟨H', I', q'⟩
/-- v in o -/
def rInO (C : Addr) (neg : Bool) (sp : Sp) (E : XK) : R2 := fun x y H Q => ∃ a dx fs, y = .ref a ∧ H a = some (.ins C dx fs) ∧ sp [y, x] H (fun r H' => ∃ b, r = .bl b ∧ Q (.bl (if neg then !b else b)) H') E
theorem contains_own {Q : Bool → Shared → Prop} {c x : Value} {v : V} (o : Own X.K C "__contains__" g) (F : FnR X.prog X.w X.K X.mg X.base CX k g sp) (hr : Room k X.A) (hx : Passes CX X E) (I : Inv X pins σ H s) (hins : H a = some (.ins C dx fs)) (r : RelV v x)
    {q : Bool → Hp → Prop} (h : sp [.ref a, v] H (fun r H' => ∃ b, r = .bl b ∧ q b H') E) (fin : ∀ b H' s', Inv X pins σ H' s' → q b H' → Q b s') : wpAny (model X.prog X.w) X.A (contains (.ref a) x) Q X.xe s := by
  obtain ⟨ox, od, J, hd⟩ := inst_of I hins
  have sp1 : PySem.W.Looks (model X.prog X.w) s.heap (specialOf (.ref a) "__contains__") (some (.ref g)) := J.type.andThen (PySem.W.looks_findIn I.kIn o.at_)
  unfold contains
  refine wpAny_holding ?_
  have e0 : stdlibNamesSay? (.ref a) x = Option.none := by
    unfold stdlibNamesSay?
    rfl
  rw [e0]
  refine wpAny_bind (sp1.here ?_)
  have n1 : ¬ ((some (Value.ref g) == some Value.none) = true) := fun z => by cases (Option.some.inj (beq_iff_eq.mp z))
  have n2 : ¬ ((Value.ref g == Value.none) = true) := fun z => by cases (beq_iff_eq.mp z)
  rw [if_neg n1]
  refine wpAny_bind (m := callSpecialUnlessNone? _ _ _ _) ?_
  unfold callSpecialUnlessNone?
  refine wpAny_bind (sp1.here ?_)
  dsimp only
  refine wpAny_holding (wpAny_bind ((PySem.W.bind_fn I.kIn _ (beq_iff_eq.mp o.fn)).here ?_))
  dsimp only
  rw [if_neg n2]
  refine wpAny_bind (wpAny_mono (run_own F hr hx I (.cons r .nil) h) (fun w s' z => ?_) fun _ _ z => z)
  obtain ⟨_, H', I', rw, b, rfl, q'⟩ := z
  cases (show w = Value.bool b from rw)
  refine wpAny_pure ?_
  dsimp only
  unfold truthy
  exact wpAny_pure (fin b H' s' I' q')
theorem op_inO (o : Own X.K C "__contains__" g) (F : FnR X.prog X.w X.K X.mg X.base CX k g sp) (hr : Room k X.A) (hx : Passes CX X E) : OpR X (compareOp .In) (rInO C false sp E) := by
  intro pns s σ H x y v u Q I rx ry h
  obtain ⟨a, dx, fs, rfl, hins, q⟩ := h
  cases (show u = Value.ref a from ry)
  show wpAny _ _ (contains (.ref a) v >>= fun b => pure (Value.bool b)) _ _ _
  refine wpAny_bind (contains_own (c := .ref a) (q := fun b H' => Q (.bl b) H') o F hr hx I hins rx q fun b H' s' I' q' => wpAny_pure ?_)
  exact ⟨.bl b, H', I', rfl, q'⟩
theorem op_notInO (o : Own X.K C "__contains__" g) (F : FnR X.prog X.w X.K X.mg X.base CX k g sp) (hr : Room k X.A) (hx : Passes CX X E) : OpR X (compareOp .NotIn) (rInO C true sp E) := by
  intro pns s σ H x y v u Q I rx ry h
  obtain ⟨a, dx, fs, rfl, hins, q⟩ := h
  cases (show u = Value.ref a from ry)
  show wpAny _ _ (contains (.ref a) v >>= fun b => pure (Value.bool !b)) _ _ _
  refine wpAny_bind (contains_own (c := .ref a) (q := fun b H' => Q (.bl !b) H') o F hr hx I hins rx q fun b H' s' I' q' => wpAny_pure ?_)
  exact ⟨.bl !b, H', I', rfl, q'⟩
/-- len(o) -/
def rLenO (C : Addr) (sp : Sp) (E : XK) : List V → Hp → VK → Prop := fun xs H Q => ∃ a dx fs, xs = [V.ref a] ∧ H a = some (.ins C dx fs) ∧ sp [.ref a] H (fun r H' => ∃ n : Nat, r = .int n ∧ n < 2 ^ 60 ∧ Q (.int n) H') E
theorem cr_lenO (o : Own X.K C "__len__" g) (F : FnR X.prog X.w X.K X.mg X.base CX k g sp) (hr : Room (k + 1) X.A) (hx : Passes CX X E) : CallR X (.builtin "len") (rLenO C sp E) := by
  intro pins s σ H vs us Q I r h
  obtain ⟨a, dx, fs, rfl, hins, q⟩ := h
  rw [Vals.ref1 r]
  obtain ⟨ox, od, J, hd⟩ := inst_of I hins
  refine Calls.call_function_entry kind_len plain_len entry_len (args_len1 _) ?_
  unfold Builtin.«len»
  refine wpAny_bind (m := oneArg "len" _) (wpAny_pure ?_)
  refine wpAny_bind (m := callSpecial? (.ref a) (Str.ofString "__len__")) (PySem.W.special_fn I.kIn J o.at_ (beq_iff_eq.mp o.fn) (wpAny_mono (run_own1 F hr hx I .nil q) (fun w s' z => ?_) fun _ _ z => z))
  obtain ⟨_, H', I', rw, n, rfl, hn, q'⟩ := z
  obtain ⟨t, rfl⟩ := (show ∃ t, w = Value.int n t from rw)
  have hn2 : (n : Int) < 2 ^ 63 := by omega
  refine wpAny_bind (wpAny_holding (wpAny_pure ?_))
  refine wpAny_bind (wpAny_letGo ?_)
  show wpAny _ _ (if (n : Int) < 0 then _ else _) _ _ _
  rw [if_neg (by omega)]
  show wpAny _ _ (if (n : Int) ≥ 2 ^ 63 then _ else _) _ _ _
  rw [if_neg (by omega)]
  exact wpAny_bind (wpAny_mkInt (wpAny_pure ⟨_, rfl, ⟨.int n, H', I'.tok _, ⟨_, rfl⟩, q'⟩⟩))
end
end OP
set_option Elab.async false
set_option linter.all false
set_option maxRecDepth 100000
set_option maxHeartbeats 4000000
namespace OP
open PySem PySem.Spec PyProof.Rows L2 CM
section
variable {X : Cx} {CX : CXT} {pins : List (Addr × Obj)} {σ : L2.St} {H : Hp} {s : Shared} {a C dx g : Addr} {fs : List (Str × V)} {nm : Str} {k : Nat} {sp : Sp} {E : XK}
theorem Room.in2 (hr : Room (k + 2) X.A) : Room k X.A.in1.in1 := (show Room (k + 1) X.A.in1 from Room.in1 hr).in1
/-- bool(o) -/
theorem truthy_own2 {Q : Bool → Shared → Prop} {q : Bool → Hp → Prop} (o : Own X.K C "__bool__" g) (F : FnR X.prog X.w X.K X.mg X.base CX k g sp) (hr : Room (k + 2) X.A) (hx : Passes CX X E) (I : Inv X pins σ H s) (hins : H a = some (.ins C dx fs))
    (h : sp [.ref a] H (fun r H' => ∃ b, r = .bl b ∧ q b H') E) (fin : ∀ b H' s', Inv X pins σ H' s' → q b H' → Q b s') : wpAny (model X.prog X.w) X.A.in1.in1 (truthy (.ref a)) Q X.xe s := by
  obtain ⟨ox, od, J, hd⟩ := inst_of I hins
  have run : wpAny (model X.prog X.w) X.A.in1.in1 (call (.ref g) [.ref a]) (EP X pins σ fun r H' => ∃ b, r = .bl b ∧ q b H') X.xe s :=
    wpAny_mono (wpAny_call (SlX.run_at (us := [.ref a]) (ws := [.ref a]) F (Room.in2 hr) I.env0.in1.in1 hx I (.cons rfl .nil) h)) (fun _ _ z => z) fun _ _ z => z
  have sp1 : wpAny (model X.prog X.w) X.A.in1.in1 (callSpecial? (.ref a) (Str.ofString "__bool__")) (fun r s' => ∃ b, r = some (.bool b) ∧ Q b s') X.xe s :=
    PySem.W.special_fn I.kIn J o.at_ (beq_iff_eq.mp o.fn) (wpAny_mono run (fun w s' z => by
      obtain ⟨_, H', I', rw, b, rfl, q'⟩ := z
      cases (show w = Value.bool b from rw)
      exact ⟨b, rfl, fin b H' s' I' q'⟩) fun _ _ z => z)
  unfold truthy
  first
    | (refine wpAny_bind (m := callSpecial? (.ref a) (Str.ofString "__bool__")) (wpAny_mono sp1 (fun r s' hr => ?_) fun _ _ y => y))
    | (refine wpAny_bind (wpAny_pure ?_); refine wpAny_bind (m := callSpecial? (.ref a) (Str.ofString "__bool__")) (wpAny_mono sp1 (fun r s' hr => ?_) fun _ _ y => y))
  obtain ⟨b, rfl, hq⟩ := hr
  exact wpAny_pure hq
def rBoolO (C : Addr) (sp : Sp) (E : XK) : List V → Hp → VK → Prop := fun xs H Q => ∃ a dx fs, xs = [V.ref a] ∧ H a = some (.ins C dx fs) ∧ sp [.ref a] H (fun r H' => ∃ b, r = .bl b ∧ Q (.bl b) H') E
theorem cr_boolO (o : Own X.K C "__bool__" g) (F : FnR X.prog X.w X.K X.mg X.base CX k g sp) (hr : Room (k + 2) X.A) (hx : Passes CX X E) : CallR X (.type "bool") (rBoolO C sp E) := by
  intro pins s σ H vs us Q I r h
  obtain ⟨a, dx, fs, rfl, hins, q⟩ := h
  rw [Vals.ref1 r]
  exact DN.call_bool_of (truthy_own2 (q := fun b H' => Q (.bl b) H') o F hr hx I hins q fun b H' s' I' q' => ⟨.bl b, H', I', rfl, q'⟩)
/-- o(k = v, ..) -/
theorem callOK_of {M : Model} {A : Around} {E : Value → Shared → Prop} {s : Shared} {a : Addr} {pos : Pos} {Q : Value → Shared → Prop} {args : List (Bool × Sem Value)} {kws : List (Option Str × Sem Value)} (hplain : (args.any (·.1) || kws.any (·.1.isNone)) = false)
    (h : wpAny M A (evalArgs (.ref a) true args kws) (fun z s₁ => (∃ C ox od, PySem.W.InstAt s₁.heap a ox C od ∧ ox.data = .plain) ∧ wpAny M A (call (.ref a) ([] ++ z.pos) z.kw) Q E s₁) E s) : wpAny M A (callWith pos (.ref a) [] args kws) Q E s := by
  unfold callWith
  refine wpAny_bind (wpAny_holding (wpAny_mono h (fun z s₁ h₁ => wpAny_bind (wpAny_standAt ?_)) fun _ _ y => y))
  obtain ⟨⟨C, ox, od, J, hd⟩, h₁⟩ := h₁
  have L := PySem.W.kco_keeper (M := M) J hd
  simp only [hplain]
  refine wpAny_bind (L.here ?_)
  have tail : ∀ {t : Sem Value}, wpAny M A t Q E s₁ → wpAny M A (t >>= fun r => holding [r] point >>= fun _ => pure r) Q E s₁ :=
    fun ht => wpAny_bind (wpAny_mono ht (fun r s₂ hr => wpAny_bind (wpAny_holding (wpAny_point (wpAny_pure hr)))) fun _ _ y => y)
  exact tail (wpAny_operateT h₁)
def tCallOK (X : Cx) (C : Addr) (m : Nat) (sp : Sp) (gV : List V → List V → List V) (E : XK) (tf : TE) (tk : TA) : TE := fun σ H Q => tf σ H fun y H1 => ∃ a, y = V.ref a ∧ tk σ H1 fun zs H2 => zs.length = m ∧ (∃ dx fs, H2 a = some (.ins C dx fs)) ∧ sp (gV [.ref a] zs) H2 Q E
theorem pe_callOK {fe : Expr} {kws : List Keyword} {pos : Pos} {tf : TE} {tk : TA} {fd : FuncData} {ps ks : List Str} {gg : List Value → List Value → List Value} {gV : List V → List V → List V} (hf : PE X fe tf) (c : StX.CallO X.K C g)
    (F : FnOk X.prog X.w X.K X.mg X.base CX k g fd ps sp) (hb : KBn X.K fd ps 1 ks gg gV) (hr : Room k X.A) (hx : Passes CX X E) (hkw : PK X kws tk) (hall : (backToKw pos (keywordEach kws X.env)).all (·.1.isSome) = true := by rfl)
    (hks : (backToKw pos (keywordEach kws X.env)).filterMap (·.1) = ks := by rfl)
    (ht : eval (.Call fe [] kws pos) X.env = (do callWith pos (← eval fe X.env) [] (backTo pos (starEach [] X.env)) (backToKw pos (keywordEach kws X.env))) := by rfl)
    (hpl : ((backTo pos (starEach [] X.env)).any (·.1) || (backToKw pos (keywordEach kws X.env)).any (·.1.isNone)) = false := by rfl) : PE X (.Call fe [] kws pos) (tCallOK X C ks.length sp gV E tf tk) := by
  refine ⟨fun pins s σ H Q I h => ?_⟩
  rw [ht]
  refine wpAny_bind (thn (hf.run pins s σ H _ I h) fun u s1 ⟨y, H1, I1, ry, a, ey, q⟩ => ?_)
  subst ey
  obtain rfl : u = Value.ref a := ry
  refine callOK_of hpl (evalArgs_kw2_nil hall ?_)
  refine thn (hkw.run pos pins s1 σ H1 _ I1 q) fun ws s2 ⟨zs, H2, I2, rz, l2, ⟨dx, fs, hins⟩, q2⟩ => ?_
  obtain ⟨ox, od, J, hd⟩ := inst_of I2 hins
  refine ⟨⟨C, ox, od, J, hd⟩, ?_⟩
  rw [hks]
  have e2 : ws.length = ks.length := rz.length.symm.trans l2
  refine wpAny_call (PySem.W.kco_code (a := ⟨[], ks.zip ws⟩) I2.kIn J hd c.at_ c.fn c.fi (codeAny_mono (F.run X.A X.stack s2 H2 ⟨[.ref a], ks.zip ws⟩ (gg [.ref a] ws) (gV [.ref a] zs) Q E hr I2.env0 (hb.to s2 [.ref a] ws I2.kIn rfl e2) (hb.rel (vs := [V.ref a]) (us := [Value.ref a]) (.cons rfl .nil) rz) q2) fun r s' hq => ?_))
  cases r with
  | error e => exact hx pins σ H2 s2 e s' I2 hq
  | ok fl =>
    cases fl with
    | ret u => exact I2.after hq
    | next => exact False.elim hq
    | brk => exact False.elim hq
    | cont => exact False.elim hq
/-- keywords that stand for all parameters but the first -/
theorem kbn_all {x qual : Str} {params : Arguments} {body : List Stmt} {scope : Scope} {K : PySem.W.Frag} {f : Addr} {fd : FuncData} {ps ks : List Str} (F : FunD K x qual params body scope [] [] f fd) (n : Nat) (gg : {α : Type} → List α → List α → List α)
    (hrel : ∀ {vs zs : List V} {us ws : List Value}, Vals vs us → Vals zs ws → Vals (gg vs zs) (gg us ws))
    (h : ∀ (kV doc pm : Value) (an : Option Addr) (cdv ct : Value) (us ws : List Value), us.length = n → ws.length = ks.length → bindArgs (PySem.W.fnOf x qual params body scope .none kV doc pm an cdv ct) ⟨us, ks.zip ws⟩ = pure (ps.zip (gg us ws))) : KBn K fd ps n ks (fun us ws => gg us ws) (fun vs zs => gg vs zs) := by
  obtain ⟨oc, od, dV, kV, doc, pm, an, cdv, ct, osl, rfl, lk, hcd, hD, hK⟩ := F.ex
  rcases hD with ⟨_, rfl⟩ | ⟨e, _⟩
  · exact ⟨fun s us ws _ l1 l2 => .of_eq (h kV doc pm an cdv ct us ws l1 l2), fun r1 r2 => hrel r1 r2⟩
  · exact absurd rfl e
/-- o == v, o an instance of C, v of any type that is not below C -/
def rEqO (K : PySem.W.Frag) (C : Addr) (sp : Sp) (E : XK) : R2 := fun x y H Q => ∃ a dx fs t, x = .ref a ∧ H a = some (.ins C dx fs) ∧ TyX K H y t ∧ PySem.W.notFirst K C t = true ∧ sp [x, y] H (fun r H' => ∃ b, r = .bl b ∧ Q (.bl b) H') E
end
end OP
set_option Elab.async false
set_option linter.all false
set_option maxRecDepth 100000
set_option maxHeartbeats 4000000
namespace GR
open PySem PySem.Spec PyProof.Rows L2 CM RZ DN
theorem u40 {n m : Nat} (h : n + 64 < m) : n + 40 < m := by omega
/-! ### plain values -/
def leafB : V → Bool
  | .int _ => true
  | .str _ => true
  | .non => true
  | _ => false
/-- instances of this class are no data -/
structure InsK (K : PySem.W.Frag) (C : Addr) : Prop where
  cl : Cls K C
  ca : PySem.W.findIn K (.ref C) "__class__" = some (some (.builtin "object.__class__"))
  gs : PySem.W.specialIn K (.builtin "object.__class__") "__get__" = some (some (.builtin "getset_descriptor.__get__"))
  tk : PySem.W.takesIn K (.builtin "object.__class__") = some true
  mr : PySem.W.mroIn K C (.type "object") = some true
  ki : PySem.W.kitOne K (.ref C) (.type "int") = some false
  ks : PySem.W.kitOne K (.ref C) (.type "str") = some false
  kt : PySem.W.kitOne K (.ref C) (.type "tuple") = some false
/-- a flag, a list, a dict, an instance -/
def Odd (K : PySem.W.Frag) (H : Hp) (v : V) : Prop := (∃ b, v = .bl b) ∨ (∃ a xs, v = .ref a ∧ H a = some (.lst xs)) ∨ (∃ a kvs, v = .ref a ∧ H a = some (.dK kvs)) ∨ ∃ a C dx fs, v = .ref a ∧ H a = some (.ins C dx fs) ∧ InsK K C
/-- what is_plain_within says of a thing within n levels -/
def PN (K : PySem.W.Frag) (H : Hp) : Nat → V → Bool → Prop
  | 0, v, b => (leafB v = true ∧ b = true) ∨ (Odd K H v ∧ b = false) ∨ ∃ a xs, v = .ref a ∧ H a = some (.tup xs) ∧ b = xs.isEmpty
  | n + 1, v, b => (leafB v = true ∧ b = true) ∨ (Odd K H v ∧ b = false) ∨ ∃ a xs, v = .ref a ∧ H a = some (.tup xs) ∧
    ((b = true ∧ ∀ x ∈ xs, PN K H n x true) ∨ (b = false ∧ ∃ (i : Nat) (x : V), xs[i]? = some x ∧ PN K H n x false ∧ ∀ (j : Nat) (y : V), j < i → xs[j]? = some y → PN K H n y true))
theorem PN.leaf {K : PySem.W.Frag} {H : Hp} {v : V} (h : leafB v = true) : ∀ n : Nat, PN K H n v true
  | 0 => .inl ⟨h, rfl⟩
  | _ + 1 => .inl ⟨h, rfl⟩
theorem PN.odd {K : PySem.W.Frag} {H : Hp} {v : V} (h : Odd K H v) : ∀ n : Nat, PN K H n v false
  | 0 => .inr (.inl ⟨h, rfl⟩)
  | _ + 1 => .inr (.inl ⟨h, rfl⟩)
mutual
def dat : NK → PyData
  | .none => .none
  | .num i => .int i
  | .text z => .str z
  | .tup ks => .tuple (dats ks)
def dats : List NK → List PyData
  | [] => []
  | k :: ks => dat k :: dats ks
end
mutual
def plN : Nat → NK → Bool
  | _, .none => true
  | _, .num _ => true
  | _, .text _ => true
  | 0, .tup ks => ks.isEmpty
  | n + 1, .tup ks => plNs n ks
def plNs : Nat → List NK → Bool
  | _, [] => true
  | n, k :: ks => plN n k && plNs n ks
end
mutual
theorem key_shw {H : Hp} : ∀ {k : NK} {v : V}, KeyV H k v → Shw H v (dat k)
  | _, _, .non => by
    rw [dat]
    exact .non
  | _, _, .int i => by
    rw [dat]
    exact .int i
  | _, _, .str z => by
    rw [dat]
    exact .str z
  | _, _, .tup e h => by
    rw [dat]
    exact .tup e (keys_shw h)
theorem keys_shw {H : Hp} : ∀ {ks : List NK} {vs : List V}, KeysV H ks vs → ShwAll H vs (dats ks)
  | _, _, .nil => by
    rw [dats]
    exact .nil
  | _, _, .cons h t => by
    rw [dats]
    exact .cons (key_shw h) (keys_shw t)
end
mutual
theorem dat_depth : ∀ k : NK, (dat k).depth = k.depth
  | .none => by simp only [dat, PyData.depth, NestedKey.depth]
  | .num _ => by simp only [dat, PyData.depth, NestedKey.depth]
  | .text _ => by simp only [dat, PyData.depth, NestedKey.depth]
  | .tup ks => by simp only [dat, PyData.depth, NestedKey.depth, dats_depth ks]
theorem dats_depth : ∀ ks : List NK, PyData.depthAll (dats ks) = NestedKey.depthAll ks
  | [] => by simp only [dats, PyData.depthAll, NestedKey.depthAll]
  | k :: ks => by simp only [dats, PyData.depthAll, NestedKey.depthAll, dat_depth k, dats_depth ks]
end
section
variable {K : PySem.W.Frag}
mutual
theorem pn_key {H : Hp} : ∀ {n : Nat} {k : NK} {v : V}, KeyV H k v → plN n k = true → PN K H n v true
  | n, _, _, .non, _ => .leaf rfl n
  | n, _, _, .int i, _ => .leaf rfl n
  | n, _, _, .str z, _ => .leaf rfl n
  | 0, _, _, .tup (ks := ks) (vs := vs) e h, q => by
    refine .inr (.inr ⟨_, vs, rfl, e, ?_⟩)
    rw [plN] at q
    cases h with
    | nil => rfl
    | cons => cases q
  | n + 1, _, _, .tup (ks := ks) (vs := vs) e h, q => by
    rw [plN] at q
    exact .inr (.inr ⟨_, vs, rfl, e, .inl ⟨rfl, pns_key h q⟩⟩)
theorem pns_key {H : Hp} : ∀ {n : Nat} {ks : List NK} {vs : List V}, KeysV H ks vs → plNs n ks = true → ∀ x ∈ vs, PN K H n x true
  | _, _, _, .nil, _, x, hx => by cases hx
  | n, _, _, .cons h t, q, x, hx => by
    rw [plNs, Bool.and_eq_true] at q
    rcases List.mem_cons.mp hx with e | hx
    · rw [e]
      exact pn_key h q.1
    · exact pns_key t q.2 x hx
end
/-- a plain value -/
structure Pl (H : Hp) (v : V) (k : NK) : Prop where
  key : KeyV H k v
  pl : plN 4 k = true
  dep : k.depth ≤ 6
theorem Pl.same {H H' : Hp} {v : V} {k : NK} (h : Pl H v k) (s : ∀ a xs, H a = some (.tup xs) → H' a = some (.tup xs)) : Pl H' v k := ⟨h.key.same s, h.pl, h.dep⟩
theorem Pl.pn {H : Hp} {v : V} {k : NK} (h : Pl H v k) : PN K H 4 v true := pn_key h.key h.pl
theorem Pl.shw {H : Hp} {v : V} {k : NK} (h : Pl H v k) : Shw H v (dat k) := key_shw h.key
/-- a place: a tuple of two plain values -/
structure Plc (H : Hp) (p : Addr) (k : NK) : Prop where
  ex : ∃ v1 v2 k1 k2, H p = some (.tup [v1, v2]) ∧ Pl H v1 k1 ∧ Pl H v2 k2 ∧ k = .tup [k1, k2]
theorem Plc.key {H : Hp} {p : Addr} {k : NK} (h : Plc H p k) : KeyV H k (.ref p) ∧ k.depth ≤ 8 := by
  obtain ⟨v1, v2, k1, k2, e, h1, h2, rfl⟩ := h.ex
  refine ⟨.tup e (.cons h1.key (.cons h2.key .nil)), ?_⟩
  have a := h1.dep
  have b := h2.dep
  simp only [NestedKey.depth, NestedKey.depthAll]
  omega
theorem Plc.same {H H' : Hp} {p : Addr} {k : NK} (h : Plc H p k) (s : ∀ a xs, H a = some (.tup xs) → H' a = some (.tup xs)) : Plc H' p k := by
  obtain ⟨v1, v2, k1, k2, e, h1, h2, e2⟩ := h.ex
  exact ⟨v1, v2, k1, k2, s _ _ e, h1.same s, h2.same s, e2⟩
/-- a value of a grid: a flag, or a plain value -/
def Wr (H : Hp) : Bool → V → PyData → Prop
  | true, v, d => ∃ b, v = .bl b ∧ d = .bool b
  | false, v, d => ∃ k, Pl H v k ∧ d = dat k
theorem Wr.same {H H' : Hp} {fl : Bool} {v : V} {d : PyData} (h : Wr H fl v d) (s : ∀ a xs, H a = some (.tup xs) → H' a = some (.tup xs)) : Wr H' fl v d := by
  cases fl with
  | true => exact h
  | false =>
    obtain ⟨k, h1, h2⟩ := h
    exact ⟨k, h1.same s, h2⟩
theorem Wr.shw {H : Hp} {fl : Bool} {v : V} {d : PyData} (h : Wr H fl v d) : Shw H v d ∧ d.depth ≤ 6 := by
  cases fl with
  | true =>
    obtain ⟨b, rfl, rfl⟩ := h
    exact ⟨.bl b, by simp only [PyData.depth]; omega⟩
  | false =>
    obtain ⟨k, h1, rfl⟩ := h
    exact ⟨h1.shw, by rw [dat_depth]; exact h1.dep⟩
/-! ### types -/
def tyN : PyData → String
  | .none => "NoneType"
  | .bool _ => "bool"
  | .int _ => "int"
  | .str _ => "str"
  | .list _ => "list"
  | .tuple _ => "tuple"
  | .dict _ => "dict"
theorem shw_ty {H : Hp} {v : V} {d : PyData} (h : Shw H v d) : TyX K H v (.type (tyN d)) := by
  cases h with
  | non => exact .base .non
  | bl b => exact .base (.bl b)
  | int i => exact .base (.int i)
  | str z => exact .base (.str z)
  | lst e _ => exact .base (.lst e)
  | tup e _ => exact .base (.tup e)
theorem kit_bb {a b : String} {r : Bool} (h : L2.kitB a b = some r) : PySem.W.kitOne K (.type a) (.type b) = some r := kit_ty h
theorem Wr.bool {H : Hp} {fl : Bool} {v : V} {d : PyData} (h : Wr H fl v d) : PySem.W.kitOne K (.type (tyN d)) (.type "bool") = some fl := by
  cases fl with
  | true =>
    obtain ⟨b, rfl, rfl⟩ := h
    show PySem.W.kitOne K (.type "bool") (.type "bool") = some true
    exact kit_bb (by decide +kernel)
  | false =>
    obtain ⟨k, h1, rfl⟩ := h
    cases k <;> (simp only [dat, tyN]; exact kit_bb (by decide +kernel))
theorem Wr.tyIn {H : Hp} {fl : Bool} {v : V} {d : PyData} (h : Wr H fl v d) : tyN d ∈ ["bool", "NoneType", "int", "str", "tuple"] := by
  cases fl with
  | true =>
    obtain ⟨b, rfl, rfl⟩ := h
    show "bool" ∈ ["bool", "NoneType", "int", "str", "tuple"]
    decide
  | false =>
    obtain ⟨k, h1, rfl⟩ := h
    cases k <;> (simp only [dat, tyN]; decide)
/-! ### what a dict says, but for the addresses of its keys -/
def kv (x : Ent) : NK × V := (x.1, x.2.2)
theorem at_kv (xs : List Ent) (k : NK) : at_ xs k = ((xs.map kv).find? fun y => decide (y.1 = k)).map (·.2) := by
  unfold at_
  induction xs with
  | nil => rfl
  | cons x r ih =>
    rw [List.map_cons, List.find?_cons, List.find?_cons]
    show (match decide (x.1 = k) with | true => some x | false => r.find? fun x => decide (x.1 = k)).map (fun z : Ent => z.2.2) = (match decide (x.1 = k) with | true => some (kv x) | false => (r.map kv).find? fun y => decide (y.1 = k)).map (fun z : NK × V => z.2)
    cases decide (x.1 = k) with
    | true => rfl
    | false => exact ih
theorem at_congr {xs ys : List Ent} (h : xs.map kv = ys.map kv) (k : NK) : at_ xs k = at_ ys k := by rw [at_kv, at_kv, h]
theorem put_kv {xs ys : List Ent} (h : xs.map kv = ys.map kv) (k : NK) (a b : Addr) (v : V) : (putE xs k a v).map kv = (putE ys k b v).map kv := by
  have g : ∀ zs : List Ent, (zs.map fun x => if x.1 = k then (x.1, x.2.1, v) else x).map kv = (zs.map kv).map fun y => if y.1 = k then (y.1, v) else y := by
    intro zs
    rw [List.map_map, List.map_map]
    refine List.map_congr_left fun x _ => ?_
    show kv (if x.1 = k then (x.1, x.2.1, v) else x) = if x.1 = k then (x.1, v) else kv x
    split <;> rfl
  unfold putE
  rw [at_congr h k]
  split
  · rw [g, g, h]
  · rw [List.map_append, List.map_append, h]
    rfl
theorem drop_kv {xs ys : List Ent} (h : xs.map kv = ys.map kv) (k : NK) : (dropE xs k).map kv = (dropE ys k).map kv := by
  have g : ∀ zs : List Ent, (dropE zs k).map kv = (zs.map kv).filter fun y => decide (y.1 ≠ k) := by
    intro zs
    unfold dropE
    rw [List.filter_map]
    rfl
  rw [g, g, h]
theorem drop_none {xs : List Ent} {k : NK} (h : at_ xs k = none) : dropE xs k = xs := by
  unfold dropE
  rw [List.filter_eq_self]
  intro x hx
  refine decide_eq_true fun e => ?_
  unfold at_ at h
  rw [Option.map_eq_none_iff, List.find?_eq_none] at h
  exact h x hx (decide_eq_true e)
theorem len_kv {xs ys : List Ent} (h : xs.map kv = ys.map kv) : xs.length = ys.length := by
  have e := congrArg List.length h
  rw [List.length_map, List.length_map] at e
  exact e
theorem mem_put {xs : List Ent} {k : NK} {a : Addr} {v : V} {x : Ent} (h : x ∈ putE xs k a v) : (∃ y ∈ xs, y.1 = x.1 ∧ y.2.1 = x.2.1 ∧ (y.2.2 = x.2.2 ∨ x.2.2 = v)) ∨ x = (k, a, v) := by
  unfold putE at h
  split at h
  · obtain ⟨y, hy, e⟩ := List.mem_map.mp h
    refine .inl ⟨y, hy, ?_⟩
    subst e
    split
    · exact ⟨rfl, rfl, .inr rfl⟩
    · exact ⟨rfl, rfl, .inl rfl⟩
  · rcases List.mem_append.mp h with h | h
    · exact .inl ⟨x, h, rfl, rfl, .inl rfl⟩
    · exact .inr (List.mem_singleton.mp h)
theorem mem_drop {xs : List Ent} {k : NK} {x : Ent} (h : x ∈ dropE xs k) : x ∈ xs := (List.mem_filter.mp h).1
/-- a dict behind a store -/
theorem dct_put {P : Program} {w : World} {H : Hp} {d p : Addr} {xs : List Ent} {k : NK} {v : V} (D : Dct P w H d xs) (hk : KeyV H k (.ref p)) (hd : k.depth ≤ 8) : Dct P w (upd H d (dn P w d (putE xs k p v))) d (putE xs k p v) := by
  have s : ∀ a ys, H a = some (.tup ys) → (upd H d (dn P w d (putE xs k p v))) a = some (.tup ys) := fun a ys e => by
    have n : a ≠ d := fun z => by
      rw [z, D.1] at e
      exact dn_ne (Option.some.inj e)
    rw [upd_ne n]
    exact e
  refine ⟨upd_same, fun x hx => ?_⟩
  rcases mem_put hx with ⟨y, hy, e1, e2, _⟩ | rfl
  · obtain ⟨h1, h2⟩ := D.2 y hy
    rw [← e1, ← e2]
    exact ⟨h1.same s, h2⟩
  · exact ⟨hk.same s, hd⟩
theorem dct_drop {P : Program} {w : World} {H : Hp} {d : Addr} {xs : List Ent} {k : NK} (D : Dct P w H d xs) : Dct P w (upd H d (dn P w d (dropE xs k))) d (dropE xs k) := by
  have s : ∀ a ys, H a = some (.tup ys) → (upd H d (dn P w d (dropE xs k))) a = some (.tup ys) := fun a ys e => by
    have n : a ≠ d := fun z => by
      rw [z, D.1] at e
      exact dn_ne (Option.some.inj e)
    rw [upd_ne n]
    exact e
  refine ⟨upd_same, fun x hx => ?_⟩
  obtain ⟨h1, h2⟩ := D.2 x (mem_drop hx)
  exact ⟨h1.same s, h2⟩
/-- the keys as a list: what it shows -/
theorem keys_shown {P : Program} {w : World} {H : Hp} {d : Addr} {xs : List Ent} (D : Dct P w H d xs) : ShwAll H (keyRefs xs) (xs.map fun x => dat x.1) := by
  have h := D.2
  unfold keyRefs
  clear D
  induction xs with
  | nil => exact .nil
  | cons x r ih => exact .cons (key_shw (h x (List.mem_cons_self ..)).1) (ih fun y hy => h y (List.mem_cons_of_mem _ hy))
theorem keys_deep {xs : List Ent} (h : ∀ x ∈ xs, x.1.depth ≤ 8) : PyData.depthAll (xs.map fun x => dat x.1) ≤ 8 := by
  induction xs with
  | nil => simp [PyData.depthAll]
  | cons x r ih =>
    have a := h x (List.mem_cons_self ..)
    have b := ih fun y hy => h y (List.mem_cons_of_mem _ hy)
    rw [List.map_cons, PyData.depthAll, dat_depth]
    omega
theorem keys_same {xs ys : List Ent} (h : xs.map kv = ys.map kv) : (xs.map fun x => dat x.1) = ys.map fun x => dat x.1 := by
  have e : ∀ zs : List Ent, (zs.map fun x => dat x.1) = (zs.map kv).map fun y => dat y.1 := by
    intro zs
    rw [List.map_map]
    rfl
  rw [e, e, h]
theorem eqv_self {H : Hp} {v : V} {d : PyData} (h : Shw H v d) : PyData.eqv d d = true := SeqAt.eqv_refl_plain d (shw_plain h)
/-- a grid at g: its default, its dict -/
def Gd (P : Program) (w : World) (C : Addr) (H : Hp) (g : Addr) (dv : V) (e : Addr) (xs : List Ent) : Prop := (∃ dx, H g = some (.ins C dx [("default", dv), ("entries", .ref e)])) ∧ Dct P w H e xs
theorem Gd.same {P : Program} {w : World} {C g e : Addr} {H H' : Hp} {dv : V} {xs : List Ent} (h : Gd P w C H g dv e xs) (s : Same H H') : Gd P w C H' g dv e xs := let ⟨⟨dx, h1⟩, h2⟩ := h; ⟨⟨dx, s _ _ h1⟩, h2.same s⟩
theorem same_tup {H H' : Hp} (s : Same H H') : ∀ a xs, H a = some (.tup xs) → H' a = some (.tup xs) := fun a xs e => s a _ e
theorem Pl.int {H : Hp} (i : Int) : Pl H (.int i) (.num i) := ⟨.int i, by simp only [plN], by simp only [NestedKey.depth]; omega⟩
theorem Pl.str {H : Hp} (z : Str) : Pl H (.str z) (.text z) := ⟨.str z, by simp only [plN], by simp only [NestedKey.depth]; omega⟩
theorem Pl.non {H : Hp} : Pl H .non .none := ⟨.non, by simp only [plN], by simp only [NestedKey.depth]; omega⟩
theorem kp_tup {a : Addr} {H H' : Hp} {ys : List V} (h : H a = some (.lst ys)) (s : Kp a H H') : ∀ b xs, H b = some (.tup xs) → H' b = some (.tup xs) := fun b xs e => s b _ (fun z => by
  rw [z, h] at e
  cases e) e
/-- all but these objects stay -/
def Kps (S : List Addr) (H H' : Hp) : Prop := ∀ b o, b ∉ S → H b = some o → H' b = some o
theorem Kps.trans {S : List Addr} {H H1 H2 : Hp} (x : Kps S H H1) (y : Kps S H1 H2) : Kps S H H2 := fun b o n e => y b o n (x b o n e)
theorem Kps.mono {S S' : List Addr} {H H' : Hp} (h : Kps S H H') (m : ∀ b ∈ S, b ∈ S') : Kps S' H H' := fun b o n e => h b o (fun z => n (m b z)) e
theorem Kps.same {S : List Addr} {H H' : Hp} (s : Same H H') : Kps S H H' := fun b o _ e => s b o e
theorem Kps.kp {S : List Addr} {a : Addr} {H H' : Hp} (s : Kp a H H') (m : a ∈ S) : Kps S H H' := fun b o n e => s b o (fun z => n (z ▸ m)) e
theorem Kps.upd {S : List Addr} {a : Addr} {H : Hp} {o : HO} (m : a ∈ S) : Kps S H (upd H a o) := fun b u n e => by
  rw [upd_ne (fun z => n (by rw [z]; exact m))]
  exact e
/-- tuples stay -/
def TP (H H' : Hp) : Prop := ∀ a xs, H a = some (.tup xs) → H' a = some (.tup xs)
theorem TP.trans {H H1 H2 : Hp} (x : TP H H1) (y : TP H1 H2) : TP H H2 := fun a xs e => y a xs (x a xs e)
theorem TP.same {H H' : Hp} (s : Same H H') : TP H H' := same_tup s
theorem TP.kp {a : Addr} {H H' : Hp} {ys : List V} (h : H a = some (.lst ys)) (s : Kp a H H') : TP H H' := kp_tup h s
theorem tp_dct {P : Program} {w : World} {H : Hp} {d : Addr} {xs : List Ent} {o : HO} (D : Dct P w H d xs) : TP H (upd H d o) := fun a ys e => by
  have n : a ≠ d := fun z => by
    rw [z, D.1] at e
    exact dn_ne (Option.some.inj e)
  rw [upd_ne n]
  exact e
/-- a grid and the law's own dict of it -/
structure Two (P : Program) (w : World) (C : Addr) (H : Hp) (fl : Bool) (g e c : Addr) (dv : V) (xs ys : List Ent) : Prop where
  gd : Gd P w C H g dv e xs
  dc : Dct P w H c ys
  ne : e ≠ c
  wd : ∃ d, Wr H fl dv d
  vals : ∀ x ∈ xs, ∃ d, Wr H fl x.2.2 d
variable {P : Program} {w : World} {C g e c : Addr} {H H' : Hp} {fl : Bool} {dv : V} {xs ys : List Ent}
theorem dn_ins {d : Addr} {dx : Addr} {fs : List (Str × V)} : dn P w d xs ≠ .ins C dx fs := fun z => by
  unfold dn at z
  cases z
theorem dn_lst {d : Addr} {zs : List V} : dn P w d xs ≠ .lst zs := fun z => by
  unfold dn at z
  cases z
theorem Two.g_e (h : Two P w C H fl g e c dv xs ys) : g ≠ e := fun z => by
  obtain ⟨⟨dx, h1⟩, h2⟩ := h.gd
  rw [z, h2.1] at h1
  exact dn_ins (Option.some.inj h1)
theorem Two.g_c (h : Two P w C H fl g e c dv xs ys) : g ≠ c := fun z => by
  obtain ⟨⟨dx, h1⟩, h2⟩ := h.gd
  rw [z, h.dc.1] at h1
  exact dn_ins (Option.some.inj h1)
theorem Two.keep {S : List Addr} (h : Two P w C H fl g e c dv xs ys) (s : Kps S H H') (t : TP H H') (n1 : g ∉ S) (n2 : e ∉ S) (n3 : c ∉ S) : Two P w C H' fl g e c dv xs ys := by
  obtain ⟨⟨⟨dx, h1⟩, h2⟩, h3, h4, ⟨d, h5⟩, h6⟩ := h
  exact ⟨⟨⟨dx, s _ _ n1 h1⟩, h2.mono (s _ _ n2 h2.1) t⟩, h3.mono (s _ _ n3 h3.1) t, h4, ⟨d, h5.same t⟩, fun x hx => let ⟨d, hd⟩ := h6 x hx; ⟨d, hd.same t⟩⟩
theorem Two.same (h : Two P w C H fl g e c dv xs ys) (s : Same H H') : Two P w C H' fl g e c dv xs ys := h.keep (S := []) (Kps.same s) (same_tup s) (List.not_mem_nil) (List.not_mem_nil) (List.not_mem_nil)
theorem Two.at_lst {a : Addr} {zs : List V} (h : Two P w C H fl g e c dv xs ys) (ha : H a = some (.lst zs)) : g ≠ a ∧ e ≠ a ∧ c ≠ a := by
  obtain ⟨⟨⟨dx, h1⟩, h2⟩, h3, _⟩ := h
  refine ⟨fun z => ?_, fun z => ?_, fun z => ?_⟩
  · rw [z, ha] at h1
    cases h1
  · have := h2.1
    rw [z, ha] at this
    exact dn_lst (Option.some.inj this).symm
  · have := h3.1
    rw [z, ha] at this
    exact dn_lst (Option.some.inj this).symm
theorem Two.kp {a : Addr} {zs : List V} (h : Two P w C H fl g e c dv xs ys) (ha : H a = some (.lst zs)) (s : Kp a H H') : Two P w C H' fl g e c dv xs ys := by
  obtain ⟨n1, n2, n3⟩ := h.at_lst ha
  exact h.keep (S := [a]) (Kps.kp s (List.mem_singleton.mpr rfl)) (kp_tup ha s) (fun z => n1 (List.mem_singleton.mp z)) (fun z => n2 (List.mem_singleton.mp z)) (fun z => n3 (List.mem_singleton.mp z))
theorem Two.put_e {p : Addr} {k : NK} {v : V} {d : PyData} (h : Two P w C H fl g e c dv xs ys) (hk : KeyV H k (.ref p)) (hd : k.depth ≤ 8) (wv : Wr H fl v d) : Two P w C (upd H e (dn P w e (putE xs k p v))) fl g e c dv (putE xs k p v) ys := by
  have t : TP H (upd H e (dn P w e (putE xs k p v))) := tp_dct h.gd.2
  have ge := h.g_e
  obtain ⟨⟨⟨dx, h1⟩, h2⟩, h3, h4, ⟨dd, h5⟩, h6⟩ := h
  refine ⟨⟨⟨dx, by rw [upd_ne ge]; exact h1⟩, dct_put h2 hk hd⟩, h3.mono (by rw [upd_ne (Ne.symm h4)]; exact h3.1) t, h4, ⟨dd, h5.same t⟩, fun x hx => ?_⟩
  rcases mem_put hx with ⟨y, hy, _, _, ev⟩ | rfl
  · rcases ev with ev | ev
    · obtain ⟨d, hd⟩ := h6 y hy
      rw [← ev]
      exact ⟨d, hd.same t⟩
    · rw [ev]
      exact ⟨d, wv.same t⟩
  · exact ⟨d, wv.same t⟩
theorem Two.drop_e {k : NK} (h : Two P w C H fl g e c dv xs ys) : Two P w C (upd H e (dn P w e (dropE xs k))) fl g e c dv (dropE xs k) ys := by
  have t : TP H (upd H e (dn P w e (dropE xs k))) := tp_dct h.gd.2
  have ge := h.g_e
  obtain ⟨⟨⟨dx, h1⟩, h2⟩, h3, h4, ⟨dd, h5⟩, h6⟩ := h
  refine ⟨⟨⟨dx, by rw [upd_ne ge]; exact h1⟩, dct_drop h2⟩, h3.mono (by rw [upd_ne (Ne.symm h4)]; exact h3.1) t, h4, ⟨dd, h5.same t⟩, fun x hx => ?_⟩
  obtain ⟨d, hd⟩ := h6 x (mem_drop hx)
  exact ⟨d, hd.same t⟩
theorem Two.put_c {p : Addr} {k : NK} {v : V} (h : Two P w C H fl g e c dv xs ys) (hk : KeyV H k (.ref p)) (hd : k.depth ≤ 8) : Two P w C (upd H c (dn P w c (putE ys k p v))) fl g e c dv xs (putE ys k p v) := by
  have t : TP H (upd H c (dn P w c (putE ys k p v))) := tp_dct h.dc
  have gc := h.g_c
  obtain ⟨⟨⟨dx, h1⟩, h2⟩, h3, h4, ⟨dd, h5⟩, h6⟩ := h
  exact ⟨⟨⟨dx, by rw [upd_ne gc]; exact h1⟩, h2.mono (by rw [upd_ne h4]; exact h2.1) t⟩, dct_put h3 hk hd, h4, ⟨dd, h5.same t⟩, fun x hx => let ⟨d, hd⟩ := h6 x hx; ⟨d, hd.same t⟩⟩
theorem Two.drop_c {k : NK} (h : Two P w C H fl g e c dv xs ys) : Two P w C (upd H c (dn P w c (dropE ys k))) fl g e c dv xs (dropE ys k) := by
  have t : TP H (upd H c (dn P w c (dropE ys k))) := tp_dct h.dc
  have gc := h.g_c
  obtain ⟨⟨⟨dx, h1⟩, h2⟩, h3, h4, ⟨dd, h5⟩, h6⟩ := h
  exact ⟨⟨⟨dx, by rw [upd_ne gc]; exact h1⟩, h2.mono (by rw [upd_ne h4]; exact h2.1) t⟩, dct_drop h3, h4, ⟨dd, h5.same t⟩, fun x hx => let ⟨d, hd⟩ := h6 x hx; ⟨d, hd.same t⟩⟩
theorem at_mem {k : NK} {u : V} (h : at_ xs k = some u) : ∃ x ∈ xs, x.2.2 = u := by
  unfold at_ at h
  obtain ⟨x, hx, e⟩ := Option.map_eq_some_iff.mp h
  exact ⟨x, List.mem_of_find?_eq_some hx, e⟩
theorem Two.worth (h : Two P w C H fl g e c dv xs ys) (k : NK) : ∃ d, Wr H fl ((at_ xs k).getD dv) d := by
  cases ha : at_ xs k with
  | none => exact h.wd
  | some u =>
    obtain ⟨x, hx, ex⟩ := at_mem ha
    obtain ⟨d, hd⟩ := h.vals x hx
    rw [ex] at hd
    exact ⟨d, hd⟩
/-- a grid that is as its dict, of no more than n -/
def Slt (P : Program) (w : World) (C : Addr) (H : Hp) (n : Nat) (fl : Bool) (g e c : Addr) (dv : V) : Prop := ∃ xs ys, Two P w C H fl g e c dv xs ys ∧ xs.map kv = ys.map kv ∧ xs.length ≤ n
theorem Slt.keep {n : Nat} {S : List Addr} (h : Slt P w C H n fl g e c dv) (s : Kps S H H') (t : TP H H') (n1 : g ∉ S) (n2 : e ∉ S) (n3 : c ∉ S) : Slt P w C H' n fl g e c dv := let ⟨xs, ys, T, h1, h2⟩ := h; ⟨xs, ys, T.keep s t n1 n2 n3, h1, h2⟩
theorem Slt.same {n : Nat} (h : Slt P w C H n fl g e c dv) (s : Same H H') : Slt P w C H' n fl g e c dv := let ⟨xs, ys, T, h1, h2⟩ := h; ⟨xs, ys, T.same s, h1, h2⟩
theorem Slt.kp {n : Nat} {a : Addr} {zs : List V} (h : Slt P w C H n fl g e c dv) (ha : H a = some (.lst zs)) (s : Kp a H H') : Slt P w C H' n fl g e c dv := let ⟨xs, ys, T, h1, h2⟩ := h; ⟨xs, ys, T.kp ha s, h1, h2⟩
theorem Slt.le {n m : Nat} (h : Slt P w C H n fl g e c dv) (l : n ≤ m) : Slt P w C H m fl g e c dv := let ⟨xs, ys, T, h1, h2⟩ := h; ⟨xs, ys, T, h1, Nat.le_trans h2 l⟩
section
variable {X : Cx}
/-- {}, told by P and w -/
theorem pe_dnewP {pos : Pos} (hP : X.prog = P := by rfl) (hw : X.w = w := by rfl) : PE X (.Dict [] [] pos) (tDNewN P w) := by
  subst hP hw
  exact pe_dnewN
end
/-! ### what a class says of its operators, as a Boolean -/
def ownB (K : PySem.W.Frag) (C : Addr) (nm : Str) : Bool := He.eqO (PySem.W.findIn K (.ref C) nm) (some (some (.ref (He.ma K C nm)))) && (PySem.W.isFn K (.ref (He.ma K C nm)) && PySem.W.fnIn K (He.ma K C nm))
theorem ownB_ok {C : Addr} {nm : Str} (h : ownB K C nm = true) : OP.Own K C nm (He.ma K C nm) := by
  obtain ⟨h1, h⟩ := He.ba h
  obtain ⟨h2, h3⟩ := He.ba h
  exact ⟨He.eqO_ok h1, h2, h3⟩
theorem ownB_call {C : Addr} (h : ownB K C "__call__" = true) : StX.CallO K C (He.ma K C "__call__") := by
  obtain ⟨h1, h⟩ := He.ba h
  obtain ⟨h2, h3⟩ := He.ba h
  exact ⟨He.eqO_ok h1, h2, h3⟩
def notB (K : PySem.W.Frag) (C : Addr) : Bool := ["bool", "NoneType", "int", "str", "tuple"].all fun T => decide (PySem.W.kitOne K (.type T) (.ref C) = some false)
theorem notB_ok {C : Addr} (h : notB K C = true) : ∀ T ∈ ["bool", "NoneType", "int", "str", "tuple"], PySem.W.kitOne K (.type T) (.ref C) = some false := fun T hT => of_decide_eq_true (List.all_eq_true.mp h T hT)
/-- every parameter is given -/
theorem raw0 {mg : Str → Option Value} {base : Heap} {k : Nat} {f : Addr} {fd : FuncData} {ps : List Str} {sp : Sp} (G : FnOk P w K mg base CX0 k f fd ps sp) (b : Binds K fd ps []) : FnR P w K mg base CX0 k f sp :=
  (FnOk.raw G b .nil).imp fun vs H Q E h => by
    rw [List.append_nil]
    exact h
end
end GR
set_option Elab.async false
set_option linter.all false
set_option maxRecDepth 100000
set_option maxHeartbeats 4000000
/-! own == and != of instances, against any value; isinstance of dicts by nested keys -/
namespace OP
open PySem PySem.Spec PyProof.Rows L2 CM DN
inductive TyN (P : Program) (w : World) (K : PySem.W.Frag) (H : Hp) : V → Value → Prop where
  | x {v : V} {t : Value} (h : TyX K H v t) : TyN P w K H v t
  | dct {d : Addr} {xs : List Ent} (h : Dct P w H d xs) : TyN P w K H (.ref d) (.type "dict")
theorem TyN.same {P : Program} {w : World} {K : PySem.W.Frag} {H H' : Hp} {v : V} {t : Value} (h : TyX K H' v t) : TyN P w K H' v t := .x h
section
variable {X : Cx} {CX : CXT} {pins : List (Addr × Obj)} {σ : L2.St} {H : Hp} {s : Shared} {C g : Addr} {k : Nat} {sp : Sp} {E : XK}
theorem kit_ofN {P : Program} {w : World} {x : V} {u t : Value} (I : Inv X pins σ H s) (rx : RelV x u) (ty : TyN P w X.K H x t) (hP : X.prog = P := by rfl) (hw : X.w = w := by rfl) : ∃ Pp : Heap → Prop, PySem.W.KitX X.K u t Pp ∧ Pp s.heap ∧ u ≠ .builtin "__main__.__loader__#opaque" := by
  subst hP hw
  cases ty with
  | x h => exact kit_of I rx h
  | @dct d xs D =>
    cases (show u = Value.ref d from rx)
    obtain ⟨⟨us, _, _, _, _, o, es, ep, h1, h2, _⟩, _⟩ := (show ObjOk X.prog X.w H s.heap d (dn X.prog X.w d xs) from I.hok d _ D.1)
    exact ⟨_, PySem.W.kitx_dict, ⟨o, h1, h2.1⟩, fun z => nomatch z⟩
def rIsiN (P : Program) (w : World) (K : PySem.W.Frag) : List V → Hp → VK → Prop := fun xs H Q => ∃ (x c : V) (t u : Value) (b : Bool), xs = [x, c] ∧ ClsV c u ∧ TyN P w K H x t ∧ PySem.W.kitOne K t u = some b ∧ Q (.bl b) H
theorem call_isiN {P : Program} {w : World} (hP : X.prog = P := by rfl) (hw : X.w = w := by rfl) : CallR X (.builtin "isinstance") (rIsiN P w X.K) := by
  subst hP hw
  intro pins s σ H xs us Q I r h
  obtain ⟨x, c, t, u, b, rfl, k, ty, e, q⟩ := h
  obtain ⟨u1, u2, rfl, r1, r2⟩ := vals2 r
  have e2 := k.eq r2
  subst e2
  obtain ⟨Pp, Z, p, hx⟩ := kit_ofN I r1 ty
  exact PySem.W.kia_one Z I.kIn p e hx fun tk => ⟨.bl b, H, I.tok tk, rfl, q⟩
/-- o == v, o an instance of C, v of any type that is not below C -/
def rEqP (P : Program) (w : World) (K : PySem.W.Frag) (C : Addr) (sp : Sp) (E : XK) : R2 := fun x y H Q => ∃ a dx fs t, x = .ref a ∧ H a = some (.ins C dx fs) ∧ TyN P w K H y t ∧ PySem.W.notFirst K C t = true ∧ sp [x, y] H (fun r H' => ∃ b, r = .bl b ∧ Q (.bl b) H') E
theorem op_eqO {P : Program} {w : World} (o : Own X.K C "__eq__" g) (F : FnR X.prog X.w X.K X.mg X.base CX k g sp) (hr : Room k X.A) (hx : Passes CX X E) (hP : X.prog = P := by rfl) (hw : X.w = w := by rfl) : OpR X (compareOp .Eq) (rEqP P w X.K C sp E) := by
  subst hP hw
  intro pins s σ H x y v u Q I rx ry h
  obtain ⟨a, dx, fs, t, rfl, ha, ty, hn, q⟩ := h
  cases (show v = Value.ref a from rx)
  obtain ⟨ox, od, J, _⟩ := inst_of I ha
  obtain ⟨m, hF⟩ := I.fr
  obtain ⟨Pp, Z, p, _⟩ := kit_ofN I ry ty
  show wpAny _ X.A (richCompare .Eq (.ref a) u) _ _ s
  refine PySem.W.cmp_K (op := .Eq) (tb := t) hr.units0 hF I.ok.mod.kin J (Z.ty _ _ I.kIn p) hn o.at_ o.fn ?_
  refine wpAny_mono (wpAny_call (run_fnR (us := [.ref a, u]) (vs := [.ref a, y]) F hr hx I (.cons rfl (.cons ry .nil)) q)) (fun w s' z => ?_) fun _ _ x => x
  obtain ⟨z', H', I', rz, b, ez, qz⟩ := z
  subst ez
  cases rz
  exact ⟨.bl b, H', I', rfl, qz⟩
/-- the same, K told: for comprehensions -/
theorem op_eqOK {P : Program} {w : World} {K : PySem.W.Frag} (o : Own K C "__eq__" g) (F : FnR P w K X.mg X.base CX k g sp) (hr : Room k X.A) (hx : Passes CX X E) (hK : X.K = K := by rfl) (hP : X.prog = P := by rfl) (hw : X.w = w := by rfl) : OpR X (compareOp .Eq) (rEqP P w K C sp E) := by
  subst hP hw hK
  exact op_eqO o F hr hx
end
/-! ### != by the own == -/
section
variable {prog : Program} {w : World} {A : Around} {E : Value → Shared → Prop} {s : Shared} {K : PySem.W.Frag} {x C L f : Addr} {h₀ : Heap} {m : Str → Option Value} {ox : Obj} {od : Option Obj} {b tb : Value}
theorem ne_slot : Slot "object" "__ne__" "object.__ne__" := .of (owner := "object") (n := "__ne__") (by rw [typeLookup_type, builtinLookup_eq_fast]; kernel_rfl) (by decide +kernel) (by decide +kernel) (by decide +kernel) (.inl (by decide +kernel)) (by rw [isSubtype_type]; kernel_rfl)
theorem ifBound_ne {M : Model} {args : List Value} {Q : Option Value → Shared → Prop} (X : K.In s.heap) (I : PySem.W.InstAt s.heap x ox C od) (hs : PySem.W.findIn K (.ref C) "__ne__" = some (some (.builtin "object.__ne__")))
    (h : wpAny M A (call (.builtin "object.__ne__") (.ref x :: args)) (fun v => Q (some v)) E s) : wpAny M A (callSpecialIfBound? (.ref x) "__ne__" args) Q E s := by
  simp only [callSpecialIfBound?, bindSpecialIfBound?]
  refine wpAny_holding (wpAny_bind (wpAny_bind (wpAny_bind (I.type.here ((PySem.W.looks_findIn X hs).here ?_)))))
  simp only [ne_slot.bind]
  refine wpAny_bind (wpAny_askSetting (wpAny_ite ?_))
  have fin : wpAny M A (call (.builtin "object.__ne__") ([.ref x] ++ args) >>= fun v => pure (some v)) Q E s := wpAny_bind (wpAny_mono h (fun v s' h' => wpAny_pure h') fun _ _ h' => h')
  split
  · exact wpAny_bind (wpAny_pure (wpAny_pure fin))
  · exact wpAny_tryCatch (wpAny_bind (wpAny_pure (wpAny_pure fin)))
theorem entry_ne {Q : Fin → Shared → Prop} (X : K.In s.heap) (I : PySem.W.InstAt s.heap x ox C od) (hs : PySem.W.findIn K (.ref C) "__eq__" = some (some (.ref f))) (hf : PySem.W.isFn K (.ref f) = true) (hu : A.units < cLine)
    (hcall : wpAny (model prog w) A (call (.ref f) [.ref x, b]) (fun v s' => ∃ c, v = .bool c ∧ Q (.done (.ret (.bool (!c)))) s') E s) : wpAny (model prog w) A (Builtin.«object.__ne__» ⟨[.ref x, b], []⟩) Q E s := by
  unfold Builtin.«object.__ne__»
  repeat (first
    | with_reducible refine wpAny_cRoomFor hu ?_
    | (refine wpAny_bind (m := callSpecialIfBound? (.ref x) (Str.ofString "__eq__") [b])
        (PySem.W.ifBound_K X I hs hf (wpAny_mono hcall (fun r s' hr => by
          obtain ⟨c, rfl, hq⟩ := hr
          repeat (first | exact hq | exact wpAny_pure hq | exact wpAny_truthy_bool hq | (refine wpAny_bind (m := truthy (.bool _)) (wpAny_truthy_bool ?_)) | wp_step)) fun _ _ e => e)))
    | wp_step)
theorem cmp_ne {Q : Value → Shared → Prop} (hu : A.units + 1 < cLine) (F : PyProof.Rows.Fr h₀ L s.heap m) (X₀ : K.In h₀) (I : PySem.W.InstAt s.heap x ox C od) (hb : PySem.W.Looks (model prog w) s.heap (typeOf b) tb) (hn : PySem.W.notFirst K C tb = true)
    (hs : PySem.W.findIn K (.ref C) "__eq__" = some (some (.ref f))) (hf : PySem.W.isFn K (.ref f) = true) (hne : PySem.W.findIn K (.ref C) "__ne__" = some (some (.builtin "object.__ne__"))) (hm : PySem.W.mroIn K C (.type "object") = some true)
    (h : wpAny (model prog w) A.in1 (call (.ref f) [.ref x, b]) (fun v s' => ∃ c, v = .bool c ∧ Q (.bool (!c)) s') E s) : wpAny (model prog w) A (richCompare .NotEq (.ref x) b) Q E s := by
  have X := X₀.keeps F.keep
  have hu1 : A.in1.units < cLine := by
    have : A.in1.units = A.units + 1 := rfl
    omega
  have one : wpAny (model prog w) A (tryCompare (.ref x) "__ne__" b) (fun r s' => ∃ v, r = some v ∧ Q v s') E s := by
    unfold tryCompare
    refine wpAny_bind (ifBound_ne X I hne (wpAny_call (codeAny_call_builtin ne_slot.plain PySem.F.cmpEntry_ne (PySem.W.check_slot PySem.F.cmpKind_ne PySem.F.cmpSplit_ne (I.type.andThen (PySem.W.looks_mroIn X hm)) (PySem.F.cmpArgs_ne _ _)
      (entry_ne X I hs hf hu1 (wpAny_mono h (fun v s' hv => ?_) fun _ _ e => e))))))
    obtain ⟨c, rfl, hq⟩ := hv
    first | exact ⟨c, rfl, wpAny_pure ⟨_, rfl, hq⟩⟩ | exact ⟨c, rfl, wpAny_pure (wpAny_pure ⟨_, rfl, hq⟩)⟩
  unfold richCompare
  simp only [oneThing_ref]
  refine wpAny_holding (wpAny_bind (wpAny_cRoomFor (Nat.lt_of_succ_lt hu) ?_))
  refine wpAny_bind (I.type.here (wpAny_bind (hb.here ?_)))
  split
  · rename_i q
    have e : PySem.W.subIn K tb (.ref C) = some false := by
      rcases Bool.or_eq_true_iff.mp hn with e | e
      · rw [beq_iff_eq.mp e] at q; simp at q
      · exact beq_iff_eq.mp e
    refine wpAny_bind ((PySem.W.looks_subIn X e).here ?_)
    simp only [Bool.false_eq_true, if_false]
    refine wpAny_bind (wpAny_mono one (fun r s' z => ?_) fun _ _ e => e)
    obtain ⟨v, rfl, hq⟩ := z
    exact wpAny_pure hq
  · refine wpAny_bind (wpAny_pure ?_)
    simp only [Bool.false_eq_true, if_false]
    refine wpAny_bind (wpAny_mono one (fun r s' z => ?_) fun _ _ e => e)
    obtain ⟨v, rfl, hq⟩ := z
    exact wpAny_pure hq
end
section
variable {X : Cx} {CX : CXT} {pins : List (Addr × Obj)} {σ : L2.St} {H : Hp} {s : Shared} {C g : Addr} {k : Nat} {sp : Sp} {E : XK}
structure OwnNe (K : PySem.W.Frag) (C : Addr) : Prop where
  ne : PySem.W.findIn K (.ref C) "__ne__" = some (some (.builtin "object.__ne__"))
  mr : PySem.W.mroIn K C (.type "object") = some true
def rNeP (P : Program) (w : World) (K : PySem.W.Frag) (C : Addr) (sp : Sp) (E : XK) : R2 := fun x y H Q => ∃ a dx fs t, x = .ref a ∧ H a = some (.ins C dx fs) ∧ TyN P w K H y t ∧ PySem.W.notFirst K C t = true ∧ sp [x, y] H (fun r H' => ∃ b, r = .bl b ∧ Q (.bl (!b)) H') E
theorem op_neO {P : Program} {w : World} (o : Own X.K C "__eq__" g) (n : OwnNe X.K C) (F : FnR X.prog X.w X.K X.mg X.base CX k g sp) (hr : Room (k + 1) X.A) (hx : Passes CX X E) (hP : X.prog = P := by rfl) (hw : X.w = w := by rfl) : OpR X (compareOp .NotEq) (rNeP P w X.K C sp E) := by
  subst hP hw
  intro pins s σ H x y v u Q I rx ry h
  obtain ⟨a, dx, fs, t, rfl, ha, ty, hn, q⟩ := h
  cases (show v = Value.ref a from rx)
  obtain ⟨ox, od, J, _⟩ := inst_of I ha
  obtain ⟨m, hF⟩ := I.fr
  obtain ⟨Pp, Z, p, _⟩ := kit_ofN I ry ty
  show wpAny _ X.A (richCompare .NotEq (.ref a) u) _ _ s
  refine cmp_ne (tb := t) (by have := hr.units; omega) hF I.ok.mod.kin J (Z.ty _ _ I.kIn p) hn o.at_ o.fn n.ne n.mr ?_
  refine wpAny_mono (run_own1 (us := [u]) (vs := [y]) F hr hx I (.cons ry .nil) q) (fun w s' z => ?_) fun _ _ x => x
  obtain ⟨z', H', I', rz, b, ez, qz⟩ := z
  subst ez
  cases rz
  exact ⟨b, rfl, .bl (!b), H', I', rfl, qz⟩
end
end OP
namespace DN
open PySem PySem.Spec PyProof.Rows L2 CM
section
variable {X : Cx}
/-- d[k] -/
def rIxN (P : Program) (w : World) : R2 := fun x y H Q => ∃ (d a : Addr) (es : List Ent) (k : NK) (v : V), x = .ref d ∧ y = .ref a ∧ Dct P w H d es ∧ KeyV H k (.ref a) ∧ k.depth ≤ 8 ∧ at_ es k = some v ∧ Q v H
theorem ix_dctN {P : Program} {w : World} (hu : X.A.units + 40 < cLine) (hP : X.prog = P := by rfl) (hw : X.w = w := by rfl) : IxR X (rIxN P w) := by
  subst hP hw
  intro value slice pins s σ H x y v u Q I rx ry h hs
  obtain ⟨d, a, es, k, r, rfl, rfl, D, hk, hd, e, q⟩ := h
  cases (show v = Value.ref d from rx)
  cases (show u = Value.ref a from ry)
  obtain ⟨zs, m, p, hl, hsm⟩ := D.keyed I.hok
  obtain ⟨q', e2, rr⟩ := at_some p e
  exact tail_any m.typeIs slot_dict_getitem.lookup (wpAny_getItem_heap (room_in hu) (key_is I hk hd) m e2 ⟨r, H, I.tok _, rr, q⟩) hs
end
end DN
set_option Elab.async false
set_option linter.all false
set_option maxRecDepth 100000
set_option maxHeartbeats 4000000
/-! dicts by nested keys as maps: what is read behind a store, which are equal -/
namespace GR
open PySem PySem.Spec PyProof.Rows L2 CM RZ DN
def ks (xs : List Ent) : List NK := xs.map (·.1)
theorem at_cons {x : Ent} {xs : List Ent} {k : NK} : at_ (x :: xs) k = if x.1 = k then some x.2.2 else at_ xs k := by
  unfold at_
  rw [List.find?_cons]
  by_cases h : x.1 = k
  · rw [decide_eq_true h, if_pos h]
    rfl
  · rw [decide_eq_false h, if_neg h]
theorem at_nil {k : NK} : at_ [] k = none := rfl
theorem at_isSome {xs : List Ent} {k : NK} : (at_ xs k).isSome = true ↔ k ∈ ks xs := by
  induction xs with
  | nil => simp [at_nil, ks]
  | cons x r ih =>
    rw [at_cons]
    show _ ↔ k ∈ x.1 :: ks r
    rw [List.mem_cons]
    by_cases h : x.1 = k
    · rw [if_pos h]
      exact ⟨fun _ => .inl h.symm, fun _ => rfl⟩
    · rw [if_neg h, ih]
      exact ⟨.inr, fun z => z.elim (fun e => absurd e.symm h) id⟩
theorem at_none_iff {xs : List Ent} {k : NK} : at_ xs k = none ↔ k ∉ ks xs := by
  rw [← at_isSome]
  cases at_ xs k <;> simp
theorem at_mem_nd {xs : List Ent} (nd : (ks xs).Nodup) {x : Ent} (h : x ∈ xs) : at_ xs x.1 = some x.2.2 := by
  induction xs with
  | nil => cases h
  | cons y r ih =>
    have nd2 : (y.1 :: ks r).Nodup := nd
    rw [List.nodup_cons] at nd2
    rw [at_cons]
    rcases List.mem_cons.mp h with rfl | h
    · rw [if_pos rfl]
    · by_cases e : y.1 = x.1
      · exact absurd (List.mem_map.mpr ⟨x, h, e.symm⟩) nd2.1
      · rw [if_neg e]
        exact ih nd2.2 h
theorem at_append {xs ys : List Ent} {k : NK} : at_ (xs ++ ys) k = (at_ xs k).or (at_ ys k) := by
  induction xs with
  | nil => rfl
  | cons x r ih =>
    rw [List.cons_append, at_cons, at_cons, ih]
    split <;> rfl
theorem at_put {xs : List Ent} {k j : NK} {a : Addr} {v : V} : at_ (putE xs k a v) j = if j = k then some v else at_ xs j := by
  unfold putE
  by_cases h : (at_ xs k).isSome = true
  · rw [if_pos h]
    have g : ∀ zs : List Ent, at_ (zs.map fun x => if x.1 = k then (x.1, x.2.1, v) else x) j = if j = k then (if k ∈ ks zs then some v else none) else at_ zs j := by
      intro zs
      induction zs with
      | nil => simp [at_nil, ks]
      | cons z r ih =>
        rw [List.map_cons, at_cons, ih, at_cons]
        show _ = if j = k then (if k ∈ z.1 :: ks r then some v else none) else _
        by_cases e : z.1 = k
        · rw [if_pos e]
          by_cases e2 : j = k
          · subst e2
            simp [e]
          · have e3 : ¬ z.1 = j := fun q => e2 (q.symm.trans e)
            simp [e2, e3]
        · rw [if_neg e]
          by_cases e2 : j = k
          · subst e2
            simp [e, Ne.symm e]
          · simp [e2]
    rw [g]
    split
    · rw [if_pos (at_isSome.mp h)]
    · rfl
  · rw [if_neg h, at_append, at_cons, at_nil]
    by_cases e : j = k
    · subst e
      have n : at_ xs j = none := by
        cases q : at_ xs j with
        | none => rfl
        | some u => rw [q] at h; exact absurd rfl h
      rw [n]
      simp
    · have e3 : ¬ k = j := fun q => e q.symm
      simp [e, e3]
theorem at_drop {xs : List Ent} {k j : NK} : at_ (dropE xs k) j = if j = k then none else at_ xs j := by
  unfold dropE
  induction xs with
  | nil => simp [at_nil]
  | cons x r ih =>
    rw [List.filter_cons]
    by_cases e : x.1 = k
    · rw [decide_eq_false (fun n => n e), if_neg Bool.false_ne_true, ih, at_cons]
      by_cases e2 : j = k
      · simp [e2]
      · have e3 : ¬ x.1 = j := fun q => e2 (q.symm.trans e)
        simp [e2, e3]
    · rw [decide_eq_true e, if_pos rfl, at_cons, ih, at_cons]
      by_cases e2 : j = k
      · subst e2
        simp [e]
      · simp [e2]
theorem nd_put {xs : List Ent} (nd : (ks xs).Nodup) (k : NK) (a : Addr) (v : V) : (ks (putE xs k a v)).Nodup := by
  unfold putE
  by_cases h : (at_ xs k).isSome = true
  · rw [if_pos h]
    have e : ks (xs.map fun x => if x.1 = k then (x.1, x.2.1, v) else x) = ks xs := by
      unfold ks
      rw [List.map_map]
      refine List.map_congr_left fun x _ => ?_
      show (if x.1 = k then (x.1, x.2.1, v) else x).1 = x.1
      split <;> rfl
    rw [e]
    exact nd
  · rw [if_neg h]
    unfold ks
    rw [List.map_append]
    refine List.nodup_append.mpr ⟨nd, by simp, fun x hx y hy e => ?_⟩
    have ey : y = k := by simpa using hy
    rw [e, ey] at hx
    exact h (at_isSome.mpr hx)
theorem nd_drop {xs : List Ent} (nd : (ks xs).Nodup) (k : NK) : (ks (dropE xs k)).Nodup := by
  unfold ks dropE
  exact List.Nodup.sublist (List.Sublist.map _ (List.filter_sublist ..)) nd
theorem len_sub {α : Type} [DecidableEq α] : ∀ {l m : List α}, l.Nodup → (∀ x ∈ l, x ∈ m) → l.length ≤ m.length
  | [], m, _, _ => Nat.zero_le _
  | a :: l, m, nd, h => by
    rw [List.nodup_cons] at nd
    have ha := h a (List.mem_cons_self ..)
    have := len_sub (l := l) (m := m.erase a) nd.2 fun x hx => (List.mem_erase_of_ne (fun e => nd.1 (by rw [← e]; exact hx))).mpr (h x (List.mem_cons_of_mem _ hx))
    rw [List.length_erase_of_mem ha] at this
    have hp : 0 < m.length := List.length_pos_of_mem ha
    rw [List.length_cons]
    omega
theorem ks_len {xs : List Ent} : (ks xs).length = xs.length := List.length_map ..
/-- no more entries than the other, if all keys stand there -/
theorem len_le {xs ys : List Ent} (nx : (ks xs).Nodup) (h : ∀ k, at_ ys k = none → at_ xs k = none) : xs.length ≤ ys.length := by
  rw [← ks_len, ← ks_len]
  refine len_sub nx fun k hk => ?_
  cases e : at_ ys k with
  | none =>
    have := h k e
    rw [at_none_iff] at this
    exact absurd hk this
  | some v => exact at_isSome.mp (by rw [e]; rfl)
theorem len_eq {xs ys : List Ent} (nx : (ks xs).Nodup) (ny : (ks ys).Nodup) (h : ∀ k, at_ xs k = at_ ys k) : xs.length = ys.length :=
  Nat.le_antisymm (len_le nx fun k e => by rw [h]; exact e) (len_le ny fun k e => by rw [← h]; exact e)
theorem eqv_fl {v : V} (h : fl4 v = true) : PyData.eqv (flD v) (flD v) = true := by
  cases v <;> first | (simp [flD, PyData.eqv]; done) | (cases h; done) | simp [fl4] at h
theorem eqE_true {xs ys : List Ent} (nx : (ks xs).Nodup) (ny : (ks ys).Nodup) (h : ∀ k, at_ xs k = at_ ys k) (f : ∀ x ∈ xs, fl4 x.2.2 = true) : eqE xs ys = true := by
  unfold eqE
  rw [Bool.and_eq_true, beq_iff_eq, List.all_eq_true]
  refine ⟨len_eq nx ny h, fun x hx => ?_⟩
  unfold hitE
  rw [← h, at_mem_nd nx hx]
  exact eqv_fl (f x hx)
theorem eqE_len {xs ys : List Ent} (h : xs.length ≠ ys.length) : eqE xs ys = false := by
  unfold eqE
  rw [show (xs.length == ys.length) = false from by simpa using h]
  rfl
theorem ks_kv {xs ys : List Ent} (h : xs.map kv = ys.map kv) : ks xs = ks ys := by
  have e : ∀ zs : List Ent, ks zs = (zs.map kv).map (·.1) := fun zs => by
    unfold ks
    rw [List.map_map]
    rfl
  rw [e, e, h]
theorem len_drop_lt {xs : List Ent} {k : NK} {u : V} (h : at_ xs k = some u) : (dropE xs k).length < xs.length := by
  obtain ⟨x, hx, e⟩ := List.mem_map.mp (at_isSome.mp (by rw [h]; rfl) : k ∈ ks xs)
  unfold dropE
  refine Nat.lt_of_le_of_ne (List.length_filter_le _ _) fun q => ?_
  have := (List.filter_eq_self.mp (List.Sublist.eq_of_length (List.filter_sublist ..) q)) x hx
  exact absurd e (of_decide_eq_true this)
theorem len_put_new {xs : List Ent} {k : NK} {a : Addr} {v : V} (h : at_ xs k = none) : (putE xs k a v).length = xs.length + 1 := by
  unfold putE
  rw [h, if_neg (by simp), List.length_append, List.length_singleton]
end GR
set_option Elab.async false
set_option linter.all false
set_option maxRecDepth 100000
set_option maxHeartbeats 2000000
namespace K06
open PySem PySem.Spec PyProof.Rows L2 CM DN GR
def topS (i : Nat) : Stmt := PySem.Challenge.pw_kindgrove_k06_equal_grids.main.body.getD i (.Pass ⟨0, 0, 0, 0⟩)
abbrev s_wall : Stmt := topS 0
abbrev n_wall : List Str := ["k"]
theorem sc_wall : FnScope n_wall ["k"] (defScope s_wall) := ⟨rfl, rfl, rfl, by decide +kernel, rfl, by decide +kernel, by decide +kernel⟩
abbrev s_BadValue___init : Stmt := inClass (topS 3) 0
abbrev n_BadValue___init : List Str := ["self", "value"]
theorem sc_BadValue___init : FnScope n_BadValue___init ["self", "value"] (defScope s_BadValue___init) := ⟨rfl, rfl, rfl, by decide +kernel, rfl, by decide +kernel, by decide +kernel⟩
abbrev s_is_int : Stmt := topS 6
abbrev n_is_int : List Str := ["thing"]
theorem sc_is_int : FnScope n_is_int ["thing"] (defScope s_is_int) := ⟨rfl, rfl, rfl, by decide +kernel, rfl, by decide +kernel, by decide +kernel⟩
abbrev s_is_flag : Stmt := topS 7
abbrev n_is_flag : List Str := ["thing"]
theorem sc_is_flag : FnScope n_is_flag ["thing"] (defScope s_is_flag) := ⟨rfl, rfl, rfl, by decide +kernel, rfl, by decide +kernel, by decide +kernel⟩
abbrev s_by_repr : Stmt := topS 8
abbrev n_by_repr : List Str := ["things"]
theorem sc_by_repr : FnScope n_by_repr ["things"] (defScope s_by_repr) := ⟨rfl, rfl, rfl, by decide +kernel, rfl, by decide +kernel, by decide +kernel⟩
abbrev s_is_plain : Stmt := topS 9
abbrev n_is_plain : List Str := ["thing"]
theorem sc_is_plain : FnScope n_is_plain ["thing"] (defScope s_is_plain) := ⟨rfl, rfl, rfl, by decide +kernel, rfl, by decide +kernel, by decide +kernel⟩
abbrev s_is_plain_within : Stmt := topS 10
abbrev n_is_plain_within : List Str := ["thing", "deepest", "part"]
theorem sc_is_plain_within : FnScope n_is_plain_within ["thing", "deepest"] (defScope s_is_plain_within) := ⟨rfl, rfl, rfl, by decide +kernel, rfl, by decide +kernel, by decide +kernel⟩
abbrev s_Filling___init : Stmt := inClass (topS 12) 0
abbrev n_Filling___init : List Str := ["self", "default", "places", "place"]
theorem sc_Filling___init : FnScope n_Filling___init ["self", "default", "places"] (defScope s_Filling___init) := ⟨rfl, rfl, rfl, by decide +kernel, rfl, by decide +kernel, by decide +kernel⟩
abbrev s_Grid___init : Stmt := inClass (topS 13) 0
abbrev n_Grid___init : List Str := ["self", "default"]
theorem sc_Grid___init : FnScope n_Grid___init ["self", "default"] (defScope s_Grid___init) := ⟨rfl, rfl, rfl, by decide +kernel, rfl, by decide +kernel, by decide +kernel⟩
abbrev s_Grid___getitem : Stmt := inClass (topS 13) 1
abbrev n_Grid___getitem : List Str := ["self", "at"]
theorem sc_Grid___getitem : FnScope n_Grid___getitem ["self", "at"] (defScope s_Grid___getitem) := ⟨rfl, rfl, rfl, by decide +kernel, rfl, by decide +kernel, by decide +kernel⟩
abbrev s_Grid___setitem : Stmt := inClass (topS 13) 2
abbrev n_Grid___setitem : List Str := ["self", "at", "worth", "place"]
theorem sc_Grid___setitem : FnScope n_Grid___setitem ["self", "at", "worth"] (defScope s_Grid___setitem) := ⟨rfl, rfl, rfl, by decide +kernel, rfl, by decide +kernel, by decide +kernel⟩
abbrev s_Grid___call : Stmt := inClass (topS 13) 3
abbrev n_Grid___call : List Str := ["self", "one", "other"]
theorem sc_Grid___call : FnScope n_Grid___call ["self", "one", "other"] (defScope s_Grid___call) := ⟨rfl, rfl, rfl, by decide +kernel, rfl, by decide +kernel, by decide +kernel⟩
abbrev s_Grid___iter : Stmt := inClass (topS 13) 4
abbrev n_Grid___iter : List Str := ["self"]
theorem sc_Grid___iter : FnScope n_Grid___iter ["self"] (defScope s_Grid___iter) := ⟨rfl, rfl, rfl, by decide +kernel, rfl, by decide +kernel, by decide +kernel⟩
abbrev s_Grid___contains : Stmt := inClass (topS 13) 5
abbrev n_Grid___contains : List Str := ["self", "x"]
theorem sc_Grid___contains : FnScope n_Grid___contains ["self", "x"] (defScope s_Grid___contains) := ⟨rfl, rfl, rfl, by decide +kernel, rfl, by decide +kernel, by decide +kernel⟩
abbrev s_Grid___len : Stmt := inClass (topS 13) 6
abbrev n_Grid___len : List Str := ["self"]
theorem sc_Grid___len : FnScope n_Grid___len ["self"] (defScope s_Grid___len) := ⟨rfl, rfl, rfl, by decide +kernel, rfl, by decide +kernel, by decide +kernel⟩
abbrev s_Grid___bool : Stmt := inClass (topS 13) 7
abbrev n_Grid___bool : List Str := ["self"]
theorem sc_Grid___bool : FnScope n_Grid___bool ["self"] (defScope s_Grid___bool) := ⟨rfl, rfl, rfl, by decide +kernel, rfl, by decide +kernel, by decide +kernel⟩
abbrev s_Grid___eq : Stmt := inClass (topS 13) 8
abbrev n_Grid___eq : List Str := ["self", "other"]
theorem sc_Grid___eq : FnScope n_Grid___eq ["self", "other"] (defScope s_Grid___eq) := ⟨rfl, rfl, rfl, by decide +kernel, rfl, by decide +kernel, by decide +kernel⟩
abbrev s_Grid___and : Stmt := inClass (topS 13) 9
abbrev n_Grid___and : List Str := ["self", "other", "default", "unlike", "place"]
theorem sc_Grid___and : FnScope n_Grid___and ["self", "other"] (defScope s_Grid___and) := ⟨rfl, rfl, rfl, by decide +kernel, rfl, by decide +kernel, by decide +kernel⟩
abbrev s_Grid___or : Stmt := inClass (topS 13) 10
abbrev n_Grid___or : List Str := ["self", "other", "default", "unlike", "place"]
theorem sc_Grid___or : FnScope n_Grid___or ["self", "other"] (defScope s_Grid___or) := ⟨rfl, rfl, rfl, by decide +kernel, rfl, by decide +kernel, by decide +kernel⟩
abbrev s_Grid___invert : Stmt := inClass (topS 13) 11
abbrev n_Grid___invert : List Str := ["self"]
theorem sc_Grid___invert : FnScope n_Grid___invert ["self"] (defScope s_Grid___invert) := ⟨rfl, rfl, rfl, by decide +kernel, rfl, by decide +kernel, by decide +kernel⟩
abbrev s_Grid___ior : Stmt := inClass (topS 13) 12
abbrev n_Grid___ior : List Str := ["self", "other", "union"]
theorem sc_Grid___ior : FnScope n_Grid___ior ["self", "other"] (defScope s_Grid___ior) := ⟨rfl, rfl, rfl, by decide +kernel, rfl, by decide +kernel, by decide +kernel⟩
abbrev s_Grid_places : Stmt := inClass (topS 13) 13
abbrev n_Grid_places : List Str := ["self"]
theorem sc_Grid_places : FnScope n_Grid_places ["self"] (defScope s_Grid_places) := ⟨rfl, rfl, rfl, by decide +kernel, rfl, by decide +kernel, by decide +kernel⟩
abbrev s_Grid_under : Stmt := inClass (topS 13) 14
abbrev n_Grid_under : List Str := ["self", "other"]
theorem sc_Grid_under : FnScope n_Grid_under ["self", "other"] (defScope s_Grid_under) := ⟨rfl, rfl, rfl, by decide +kernel, rfl, by decide +kernel, by decide +kernel⟩
abbrev s_Grid_has_value : Stmt := inClass (topS 13) 15
abbrev n_Grid_has_value : List Str := ["self", "thing"]
theorem sc_Grid_has_value : FnScope n_Grid_has_value ["self", "thing"] (defScope s_Grid_has_value) := ⟨rfl, rfl, rfl, by decide +kernel, rfl, by decide +kernel, by decide +kernel⟩
abbrev s_is_place : Stmt := topS 14
abbrev n_is_place : List Str := ["thing"]
theorem sc_is_place : FnScope n_is_place ["thing"] (defScope s_is_place) := ⟨rfl, rfl, rfl, by decide +kernel, rfl, by decide +kernel, by decide +kernel⟩
abbrev s_checked_place : Stmt := topS 15
abbrev n_checked_place : List Str := ["thing", "part"]
theorem sc_checked_place : FnScope n_checked_place ["thing"] (defScope s_checked_place) := ⟨rfl, rfl, rfl, by decide +kernel, rfl, by decide +kernel, by decide +kernel⟩
abbrev s_standing_in : Stmt := topS 16
abbrev n_standing_in : List Str := ["one", "other", "further", "place"]
theorem sc_standing_in : FnScope n_standing_in ["one", "other"] (defScope s_standing_in) := ⟨rfl, rfl, rfl, by decide +kernel, rfl, by decide +kernel, by decide +kernel⟩
abbrev s_law_well : Stmt := topS 18
abbrev n_law_well : List Str := ["_law_cell"]
theorem sc_law_well : FnScope n_law_well ["_law_cell"] (defScope s_law_well) := ⟨rfl, rfl, rfl, by decide +kernel, rfl, by decide +kernel, by decide +kernel⟩
abbrev s_law_draw : Stmt := topS 19
abbrev n_law_draw : List Str := ["_law_well_here", "_law_many", "_law_digit", "_law_number", "_law_more"]
theorem sc_law_draw : FnScope n_law_draw ["_law_well_here", "_law_many"] (defScope s_law_draw) := ⟨rfl, rfl, rfl, by decide +kernel, rfl, by decide +kernel, by decide +kernel⟩
abbrev s_law_one : Stmt := topS 20
abbrev n_law_one : List Str := ["_law_well_here", "_law_some"]
theorem sc_law_one : FnScope n_law_one ["_law_well_here", "_law_some"] (defScope s_law_one) := ⟨rfl, rfl, rfl, by decide +kernel, rfl, by decide +kernel, by decide +kernel⟩
abbrev s_law_marks : Stmt := topS 21
abbrev n_law_marks : List Str := ["_law_well_here", "_law_some"]
theorem sc_law_marks : FnScope n_law_marks ["_law_well_here"] (defScope s_law_marks) := ⟨rfl, rfl, rfl, by decide +kernel, rfl, by decide +kernel, by decide +kernel⟩
abbrev s_law_grid : Stmt := topS 22
abbrev n_law_grid : List Str := ["_law_well_here", "_law_many", "_law_default", "_law_grid_here", "_law_cells", "_law_k", "_law_place", "_law_flag"]
theorem sc_law_grid : FnScope n_law_grid ["_law_well_here", "_law_many"] (defScope s_law_grid) := ⟨rfl, rfl, rfl, by decide +kernel, rfl, by decide +kernel, by decide +kernel⟩
abbrev s_law_again : Stmt := topS 23
abbrev n_law_again : List Str := ["_law_cells", "_law_default", "_law_places", "_law_grid_here", "_law_place"]
theorem sc_law_again : FnScope n_law_again ["_law_cells", "_law_default", "_law_places"] (defScope s_law_again) := ⟨rfl, rfl, rfl, by decide +kernel, rfl, by decide +kernel, by decide +kernel⟩
abbrev s_law_right : Stmt := topS 24
abbrev n_law_right : List Str := ["_law_well_here", "_law_grid_here", "_law_cells", "_law_default", "_law_other", "_law_place", "_law_thing"]
theorem sc_law_right : FnScope n_law_right ["_law_well_here"] (defScope s_law_right) := ⟨rfl, rfl, rfl, by decide +kernel, rfl, by decide +kernel, by decide +kernel⟩
abbrev s_law : Stmt := topS 25
abbrev n_law : List Str := ["_law_script", "_law_cell", "_law_one_here", "_law_other", "_law_third"]
theorem sc_law : FnScope n_law ["_law_script"] (defScope s_law) := ⟨rfl, rfl, rfl, by decide +kernel, rfl, by decide +kernel, by decide +kernel⟩
abbrev FnP (K : PySem.W.Frag) (x q : Str) (st : Stmt) (f : Addr) (fd : FuncData) : Prop := FunD K x q (defArgs st) (defBody st) (defScope st) [] [] f fd
section
variable {P : Program} {w : World} {K : PySem.W.Frag} {mg : Str → Option Value} {base : Heap}
/-- a number of draws to be divided by -/
structure Sz (m : Int) : Prop where
  lt : m.natAbs.log2 < 9000
theorem Sz.of {m : Int} {k : Nat} (h : m.natAbs < 2 ^ k) (hk : k ≤ 9000) : Sz m := by
  refine ⟨?_⟩
  cases k with
  | zero =>
    have : m.natAbs = 0 := by omega
    rw [this]
    decide
  | succ k => exact Nat.lt_of_lt_of_le (PySem.Flt.log2_lt_of (Nat.succ_pos k) h) hk
def spWell : Sp := fun vs H Q _ => ∃ i : Int, vs = [.int i] ∧ ∀ p, H p = none → Q (.ref p) (upd H p (.lst [.int i, .int 0]))
def spDraw : Sp := fun vs H Q _ => ∃ (a : Addr) (x c m : Int), vs = [.ref a, .int m] ∧ H a = some (.lst [.int x, .int c]) ∧ 0 < m ∧ Sz m ∧
  ∀ r x' c' : Int, 0 ≤ r → r < m → Q (.int r) (upd H a (.lst [.int x', .int c']))
theorem ok_well {f : Addr} {fd : FuncData} {k : Nat} (F : FnP K "_law_well" "_law_well" s_law_well f fd) (m_int : mg "int" = none) : FnOk P w K mg base CX0 (k + 1) f fd ["_law_cell"] spWell := by
  refine F.ok sc_law_well (fun vs H Q E h => ?_) (fun cdv A outer s H vs Q E hr h => ?_)
  · obtain ⟨i, rfl, _⟩ := h
    rfl
  · obtain ⟨i, rfl, q⟩ := h
    refine ⟨_, pss_one (ps_ret (pe_lst (pa_cons (pe_callTy call_int1 (by rfl) m_int boot_int (pa_cons (pv 0) pa_nil)) (pa_cons pe_int pa_nil)))), ?_⟩
    exact ⟨_, rfl, .inl ⟨i, rfl, ⟨by show 2 ≤ sizeLine; decide, fun p hp => q p hp⟩⟩⟩
theorem ok_draw {f : Addr} {fd : FuncData} {k : Nat} (F : FnP K "_law_draw" "_law_draw" s_law_draw f fd) (m_int : mg "int" = none) : FnOk P w K mg base CX0 (k + 1) f fd ["_law_well_here", "_law_many"] spDraw := by
  refine F.ok sc_law_draw (fun vs H Q E h => ?_) (fun cdv A outer s H vs Q E hr h => ?_)
  · obtain ⟨a, x, c, m, rfl, _⟩ := h
    rfl
  · obtain ⟨a, x, c, m, rfl, ha, m0, m1, q⟩ := h
    refine ⟨_, pss_cons (ps_if (pt_cmpR op_ge (pe_ix ix_list (pv 0) pe_int (fun _ _ => rfl)) (pe_op op_pow pe_int pe_int) (nomark _)) (pss_cons (ps_set (i := 2) sc_law_draw.nd rfl (.inl rfl) (pe_op op_mod (pe_callTy call_int1 (by rfl) m_int boot_int (pa_cons (pe_ix ix_list (pv 0) pe_int (fun _ _ => rfl)) pa_nil)) (pv 1)))
      (pss_cons (ps_asg (pe_op op_fdivW (pe_ix ix_list (pv 0) pe_int (fun _ _ => rfl)) (pv 1)) (pg_sub (pv 0) pe_int set_list))
      (pss_one (ps_ret (pv 2))))) (pss_nil))
    (pss_cons (ps_asg (pe_op op_add (pe_ix ix_list (pv 0) pe_int (fun _ _ => rfl)) pe_int) (pg_sub (pv 0) pe_int set_list))
    (pss_cons (ps_set (i := 3) sc_law_draw.nd rfl (.inl rfl) (pe_op op_mod (pe_callTy call_int1 (by rfl) m_int boot_int (pa_cons (pe_op op_mul (pe_callTy call_int1 (by rfl) m_int boot_int (pa_cons (pe_op op_add (pe_op op_add (pe_op op_mod (pe_callTy call_int1 (by rfl) m_int boot_int (pa_cons (pe_ix ix_list (pv 0) pe_int (fun _ _ => rfl)) pa_nil)) pe_int) (pe_op op_mul pe_int (pe_ix ix_list (pv 0) pe_int (fun _ _ => rfl)))) pe_int) pa_nil)) pe_int) pa_nil)) pe_int))
    (pss_cons (ps_set (i := 4) sc_law_draw.nd rfl (.inl rfl) (pe_op op_mod (pe_callTy call_int1 (by rfl) m_int boot_int (pa_cons (pe_op op_fdivW (pe_ix ix_list (pv 0) pe_int (fun _ _ => rfl)) pe_int) pa_nil)) pe_int))
    (pss_cons (ps_set (i := 3) sc_law_draw.nd rfl (.inl rfl) (pe_op op_mod (pe_callTy call_int1 (by rfl) m_int boot_int (pa_cons (pe_op op_mul (pv 3) (pe_op op_add (pe_op op_add (pe_op op_fdiv (pv 3) pe_int) pe_int) (pv 4))) pa_nil)) pe_int))
    (pss_one (ps_ret (pe_op op_mod (pe_callTy call_int1 (by rfl) m_int boot_int (pa_cons (pe_op op_fdiv (pe_op op_mod (pe_callTy call_int1 (by rfl) m_int boot_int (pa_cons (pe_op op_mul (pv 3) (pe_op op_add (pe_op op_fdiv (pv 3) pe_int) pe_int)) pa_nil)) pe_int) pe_int) pa_nil)) (pv 1)))))))), ?_⟩
    have hA : SqL K H a [.int x, .int c] := .inl (.inl ha)
    -- if well[0] >= 10 ** 18
    refine ⟨_, rfl, a, _, 0, _, rfl, rfl, hA, rfl, ?_⟩
    refine ⟨10, 18, rfl, rfl, ⟨by decide, by decide, by decide⟩, ?_⟩
    refine ⟨x, _, rfl, rfl, _, rfl, ite2 (fun big => ?_) (fun small => ?_)⟩
    · refine ⟨_, rfl, a, _, 0, _, rfl, rfl, hA, rfl, .inl ⟨x, rfl, _, rfl, x, m, rfl, rfl, m0, ?_⟩⟩
      refine ⟨_, rfl, a, _, 0, _, rfl, rfl, hA, rfl, _, rfl, x, m, rfl, rfl, ⟨m0, m1.lt⟩, ?_⟩
      refine ⟨_, rfl, a, _, 0, 0, rfl, rfl, ha, rfl, ?_⟩
      exact ⟨_, rfl, q (x % m) (x / m) c (Int.emod_nonneg _ (by omega)) (Int.emod_lt_of_pos _ m0)⟩
    · -- well[1] = well[1] + 1
      refine ⟨_, rfl, a, _, 1, _, rfl, rfl, hA, rfl, c, 1, rfl, rfl, _, rfl, a, _, 1, 1, rfl, rfl, ha, rfl, ?_⟩
      have hB : SqL K (upd H a (.lst [.int x, .int (c + 1)])) a [.int x, .int (c + 1)] := .inl (.inl upd_same)
      have e2 : upd H a (.lst ([V.int x, V.int c].set 1 (.int (c + 1)))) = upd H a (.lst [.int x, .int (c + 1)]) := rfl
      rw [e2]
      have k1 : (0 : Int) < 2147483629 := by decide
      refine ⟨_, rfl, a, _, 0, _, rfl, rfl, hB, rfl, .inl ⟨x, rfl, x, 2147483629, rfl, rfl, (by show (0 : Int) < 2147483629; decide), ?_⟩⟩
      refine ⟨_, rfl, a, _, 1, _, rfl, rfl, hB, rfl, 60013, c + 1, rfl, rfl, .inl (by decide), _, _, rfl, rfl, _, _, rfl, rfl, .inl ⟨_, rfl, ?_⟩⟩
      refine ⟨_, _, rfl, rfl, .inr (by decide), .inl ⟨_, rfl, _, _, rfl, rfl, (by show (0 : Int) < 2147483647; decide), ?_⟩⟩
      dsimp only
      generalize hn : ((x % 2147483629 + 60013 * (c + 1) + 11) * 48271) % 2147483647 = n
      have n0 : 0 ≤ n := by rw [← hn]; exact Int.emod_nonneg _ (by decide)
      have n1 : n < 2147483647 := by rw [← hn]; exact Int.emod_lt_of_pos _ (by decide)
      refine ⟨_, rfl, a, _, 0, _, rfl, rfl, hB, rfl, x, _, rfl, rfl, wide_div (b := 40) (by decide) (by decide) (by decide) (by decide), .inl ⟨_, rfl, _, _, rfl, rfl, (by show (0 : Int) < 9973; decide), ?_⟩⟩
      dsimp only
      generalize hz : (x / 2147483629) % 9973 = z
      refine ⟨_, rfl, _, rfl, _, _, rfl, rfl, ⟨by decide, by decide⟩, _, _, rfl, rfl, _, rfl, _, _, rfl, rfl, n, _, rfl, rfl, .inl ⟨by omega, by omega⟩, .inl ⟨_, rfl, _, _, rfl, rfl, (by show (0 : Int) < 2147483587; decide), ?_⟩⟩
      dsimp only
      generalize hg : (n * (n / 1013 + 40692 + z)) % 2147483587 = g
      have g0 : 0 ≤ g := by rw [← hg]; exact Int.emod_nonneg _ (by decide)
      have g1 : g < 2147483587 := by rw [← hg]; exact Int.emod_lt_of_pos _ (by decide)
      refine ⟨_, rfl, _, rfl, _, _, rfl, rfl, ⟨by decide, by decide⟩, _, _, rfl, rfl, g, _, rfl, rfl, .inl ⟨by omega, by omega⟩, .inl ⟨_, rfl, _, _, rfl, rfl, (by show (0 : Int) < 2147483563; decide), ?_⟩⟩
      refine ⟨_, _, rfl, rfl, ⟨by decide, by decide⟩, .inl ⟨_, rfl, _, rfl, _, m, rfl, rfl, m0, ?_⟩⟩
      exact q _ x (c + 1) (Int.emod_nonneg _ (by omega)) (Int.emod_lt_of_pos _ m0)
/-- one of a list's items -/
def spOne (K : PySem.W.Frag) : Sp := fun vs H Q _ => ∃ (a b : Addr) (x c : Int) (xs : List V), vs = [.ref a, .ref b] ∧ H a = some (.lst [.int x, .int c]) ∧ SqL K H b xs ∧ (∀ x' c' : Int, SqL K (upd H a (.lst [.int x', .int c'])) b xs) ∧ 0 < xs.length ∧ xs.length ≤ 1000 ∧
  ∀ (v : V) (x' c' : Int), v ∈ xs → Q v (upd H a (.lst [.int x', .int c']))
theorem ok_one {f : Addr} {fd : FuncData} {k : Nat} (F : FnP K "_law_one" "_law_one" s_law_one f fd) (C_draw : Cal P w K mg base CX0 "_law_draw" (k + 1) ["_law_well_here", "_law_many"] spDraw) (m_len : mg "len" = none) :
    FnOk P w K mg base CX0 (k + 1 + 1) f fd ["_law_well_here", "_law_some"] (spOne K) := by
  obtain ⟨f_law_draw, fd_law_draw, G_law_draw, b_law_draw, m_law_draw, k_law_draw⟩ := C_draw
  refine F.ok sc_law_one (fun vs H Q E h => ?_) (fun cdv A outer s H vs Q E hr h => ?_)
  · obtain ⟨a, b, x, c, xs, rfl, _⟩ := h
    rfl
  · obtain ⟨a, b, x, c, xs, rfl, ha, hb, hb', l0, l1, q⟩ := h
    refine ⟨_, pss_one (ps_ret (pe_ix ix_list (pv 1) (pe_call G_law_draw (hr.mono (by omega)) (by rfl) m_law_draw k_law_draw b_law_draw .nil pass0 (pa_cons (pv 0) (pa_cons (pe_callB call_len_seq (by rfl) m_len PySem.boot_len (pa_cons (pv 1) pa_nil)) pa_nil))) (fun _ _ => rfl))), ?_⟩
    refine ⟨_, rfl, _, rfl, _, rfl, b, xs, rfl, .inl hb, a, x, c, xs.length, rfl, ha, by omega, .of (k := 10) (by show (xs.length : Int).natAbs < 1024; omega) (by decide), fun r x' c' r0 r1 => ?_⟩
    obtain ⟨i, rfl⟩ := Int.eq_ofNat_of_zero_le r0
    have hi : i < xs.length := by omega
    exact ⟨b, xs, _, xs[i], rfl, rfl, hb' x' c', atI_nat (List.getElem?_eq_getElem hi), q _ x' c' (List.getElem_mem hi)⟩

end
end K06
set_option Elab.async false
set_option linter.all false
set_option maxRecDepth 100000
set_option maxHeartbeats 2000000
namespace K06
open PySem PySem.Spec PyProof.Rows L2 CM DN GR
section
variable {P : Program} {w : World} {K : PySem.W.Frag} {mg : Str → Option Value} {base : Heap}
/-! ### values -/
def spInt (K : PySem.W.Frag) : Sp := fun vs H Q _ => ∃ (v : V) (t : Value) (bi bb : Bool), vs = [v] ∧ TyX K H v t ∧ PySem.W.kitOne K t (.type "int") = some bi ∧ (bi = true → PySem.W.kitOne K t (.type "bool") = some bb) ∧ Q (.bl (bi && !bb)) H
theorem ok_int {f : Addr} {fd : FuncData} {k : Nat} (F : FnP K "is_int" "is_int" s_is_int f fd) (m_isinstance : mg "isinstance" = none) (m_int : mg "int" = none) (m_bool : mg "bool" = none) : FnOk P w K mg base CX0 (k + 1) f fd ["thing"] (spInt K) := by
  refine F.ok sc_is_int (fun vs H Q E h => ?_) (fun cdv A outer s H vs Q E hr h => ?_)
  · obtain ⟨v, t, bi, bb, rfl, _⟩ := h
    rfl
  · obtain ⟨v, t, bi, bb, rfl, ty, ki, kb, q⟩ := h
    refine ⟨_, pss_one (ps_ret (pe_and (pe_callB call_isi (by rfl) m_isinstance (by decide +kernel) (pa_cons (pv 0) (pa_cons (pe_bltn (v := .ty "int") (by rfl) m_int (by decide +kernel) rfl) pa_nil))) (pe_one (pe_not (pe_callB call_isi (by rfl) m_isinstance (by decide +kernel) (pa_cons (pv 0) (pa_cons (pe_bltn (v := .ty "bool") (by rfl) m_bool (by decide +kernel) rfl) pa_nil))))))), ?_⟩
    refine ⟨_, rfl, v, _, t, _, bi, rfl, .ty _, ty, ki, bi, rfl, ite2 (fun e => ?_) (fun e => ?_)⟩
    · subst e
      exact ⟨_, rfl, v, _, t, _, bb, rfl, .ty _, ty, kb rfl, bb, rfl, q⟩
    · have e2 : bi = false := by simpa using e
      subst e2
      exact q
/-- what isinstance says of a leaf, of an odd thing, of a tuple -/
theorem odd_kinds {H : Hp} {v : V} (h : Odd K H v) : v ≠ .non ∧ ∃ (t : Value) (bi bb : Bool), TyX K H v t ∧ PySem.W.kitOne K t (.type "str") = some false ∧ PySem.W.kitOne K t (.type "int") = some bi ∧ (bi = true → PySem.W.kitOne K t (.type "bool") = some bb) ∧ (bi && !bb) = false ∧
    PySem.W.kitOne K t (.type "tuple") = some false := by
  rcases h with ⟨b, rfl⟩ | ⟨a, xs, rfl, h⟩ | ⟨a, kvs, rfl, h⟩ | ⟨a, C, dx, fs, rfl, h, k⟩
  · exact ⟨(fun z => by cases z), _, true, true, .base (.bl b), kit_bb (by decide +kernel), kit_bb (by decide +kernel), fun _ => kit_bb (by decide +kernel), rfl, kit_bb (by decide +kernel)⟩
  · exact ⟨(fun z => by cases z), _, false, false, .base (.lst h), kit_bb (by decide +kernel), kit_bb (by decide +kernel), (fun z => by cases z), rfl, kit_bb (by decide +kernel)⟩
  · exact ⟨(fun z => by cases z), _, false, false, .base (.dK h), kit_bb (by decide +kernel), kit_bb (by decide +kernel), (fun z => by cases z), rfl, kit_bb (by decide +kernel)⟩
  · exact ⟨(fun z => by cases z), _, false, false, .base (.ins h k.cl k.ca k.gs k.tk k.mr), k.ks, k.ki, (fun z => by cases z), rfl, k.kt⟩
/-- is_plain_within(thing, d), d below n -/
def spW (K : PySem.W.Frag) (n : Nat) : Sp := fun vs H Q _ => ∃ (v : V) (d : Nat) (b : Bool), vs = [v, .int d] ∧ d < n ∧ PN K H d v b ∧ Q (.bl b) H
theorem ok_within {f : Addr} {fd : FuncData} (F : FnP K "is_plain_within" "is_plain_within" s_is_plain_within f fd) (m_isinstance : mg "isinstance" = none) (m_str : mg "str" = none) (m_tuple : mg "tuple" = none) (m_len : mg "len" = none)
    (C_is_int : Cal P w K mg base CX0 "is_int" 1 ["thing"] (spInt K)) (b_is_plain_within : Binds K fd ["thing", "deepest"] []) (m_is_plain_within : mg "is_plain_within" = some (.ref f)) (k_is_plain_within : PySem.W.keepIn K (.ref f) = true) :
    ∀ n : Nat, FnOk P w K mg base CX0 (n + 1) f fd ["thing", "deepest"] (spW K n)
  | 0 => ⟨fun vs H Q E ⟨_, _, _, _, h, _⟩ => absurd h (Nat.not_lt_zero _), fun A outer s H args us vs Q E _ _ _ _ ⟨_, _, _, _, h, _⟩ => absurd h (Nat.not_lt_zero _)⟩
  | n + 1 => by
    have G_is_plain_within := ok_within F m_isinstance m_str m_tuple m_len C_is_int b_is_plain_within m_is_plain_within k_is_plain_within n
    obtain ⟨f_is_int, fd_is_int, G_is_int, b_is_int, m_is_int, k_is_int⟩ := C_is_int
    refine F.ok sc_is_plain_within (fun vs H Q E h => ?_) (fun cdv A outer s H vs Q E hr h => ?_)
    · obtain ⟨v, d, b, rfl, _⟩ := h
      rfl
    · obtain ⟨v, d, b, rfl, hd, pn, q⟩ := h
      refine ⟨_, PSs.nox (pss_cons (ps_if (PW.pt (pw_or (pt_cmp (pc_isN (pv 0))) (pw_or (pt_val (pe_callB call_isi (by rfl) m_isinstance (by decide +kernel) (pa_cons (pv 0) (pa_cons (pe_bltn (v := .ty "str") (by rfl) m_str (by decide +kernel) rfl) pa_nil)))) (pw_or1 (pt_val (pe_call G_is_int (hr.mono (by omega)) (by rfl) m_is_int k_is_int b_is_int .nil pass0 (pa_cons (pv 0) pa_nil))))))) (pss_one (ps_ret pe_bl)) (pss_nil))
    (pss_cons (ps_if (pt_not (pt_val (pe_callB call_isi (by rfl) m_isinstance (by decide +kernel) (pa_cons (pv 0) (pa_cons (pe_bltn (v := .ty "tuple") (by rfl) m_tuple (by decide +kernel) rfl) pa_nil))))) (pss_one (ps_ret pe_bl)) (pss_nil))
    (pss_cons (ps_if (pt_cmpR op_eq (pv 1) pe_int (nomark _)) (pss_one (ps_ret (pe_cmpR op_eq (pe_callB call_len_seq (by rfl) m_len PySem.boot_len (pa_cons (pv 0) pa_nil)) pe_int (nomark _)))) (pss_nil))
    (pss_cons (ps_for PassesOwn.never rfl (pi_tup (pv 0)) (pg_name (i := 2) sc_is_plain_within.nd rfl (.inl rfl))
      (pss_one (ps_if (pt_not (pt_val (pe_call G_is_plain_within (hr.mono (by omega)) (by rfl) m_is_plain_within k_is_plain_within b_is_plain_within .nil pass0 (pa_cons (pv 2) (pa_cons (pe_op op_sub (pv 1) pe_int) pa_nil))))) (pss_one (ps_ret pe_bl)) (pss_nil))))
    (pss_one (ps_ret pe_bl)))))), ?_⟩
      have hk : (leafB v = true ∧ b = true) ∨ (Odd K H v ∧ b = false) ∨ ∃ a xs, v = .ref a ∧ H a = some (.tup xs) ∧ (d = 0 → b = xs.isEmpty) ∧ (∀ e, d = e + 1 → (b = true ∧ ∀ x ∈ xs, PN K H e x true) ∨ (b = false ∧ ∃ (i : Nat) (x : V), xs[i]? = some x ∧ PN K H e x false ∧ ∀ (j : Nat) (y : V), j < i → xs[j]? = some y → PN K H e y true)) := by
        cases d with
        | zero =>
          rcases pn with h | h | ⟨a, xs, e1, e2, e3⟩
          · exact .inl h
          · exact .inr (.inl h)
          · exact .inr (.inr ⟨a, xs, e1, e2, fun _ => e3, fun e z => by cases z⟩)
        | succ d =>
          rcases pn with h | h | ⟨a, xs, e1, e2, e3⟩
          · exact .inl h
          · exact .inr (.inl h)
          · exact .inr (.inr ⟨a, xs, e1, e2, (fun z => by cases z), fun e z => by cases z; exact e3⟩)
      rcases hk with ⟨hv, rfl⟩ | ⟨ho, rfl⟩ | ⟨a, xs, rfl, ha, h0, h1⟩
      · cases v with
        | non =>
          refine ⟨_, rfl, _, rfl, iteT (iteT ?_)⟩
          exact q
        | str z =>
          refine ⟨_, rfl, _, rfl, iteF ⟨_, rfl, .str z, _, _, _, true, rfl, .ty _, .base (.str z), kit_bb (by decide +kernel), true, rfl, iteT (iteT ?_)⟩⟩
          exact q
        | int z =>
          refine ⟨_, rfl, _, rfl, iteF ⟨_, rfl, .int z, _, _, _, false, rfl, .ty _, .base (.int z), kit_bb (by decide +kernel), false, rfl, iteF ?_⟩⟩
          refine ⟨_, rfl, .int z, _, true, false, rfl, .base (.int z), kit_bb (by decide +kernel), fun _ => kit_bb (by decide +kernel), _, rfl, iteT ?_⟩
          exact q
        | _ => cases hv
      · obtain ⟨hn, t, bi, bb, ty, ks, ki, kb, e0, kt⟩ := odd_kinds ho
        have en : decide (v = V.non) = false := decide_eq_false hn
        refine ⟨v, rfl, decide (v = V.non), rfl, ?_⟩
        rw [en]
        refine iteF ⟨_, rfl, v, _, t, _, false, rfl, .ty _, ty, ks, false, rfl, iteF ?_⟩
        refine ⟨_, rfl, v, t, bi, bb, rfl, ty, ki, kb, _, rfl, ?_⟩
        rw [e0]
        refine iteF ⟨_, rfl, v, _, t, _, false, rfl, .ty _, ty, kt, false, rfl, iteT ?_⟩
        exact q
      · have ty : TyX K H (.ref a) (.type "tuple") := .base (.tup ha)
        refine ⟨_, rfl, _, rfl, iteF ⟨_, rfl, .ref a, _, _, _, false, rfl, .ty _, ty, kit_bb (by decide +kernel), false, rfl, iteF ?_⟩⟩
        refine ⟨_, rfl, .ref a, _, false, false, rfl, ty, kit_bb (by decide +kernel), (fun z => by cases z), _, rfl, iteF ?_⟩
        refine ⟨_, rfl, .ref a, _, _, _, true, rfl, .ty _, ty, kit_bb (by decide +kernel), true, rfl, iteF ?_⟩
        -- deepest == 0
        refine ⟨_, rfl, rfl, _, rfl, ite2 (fun e => ?_) (fun e => ?_)⟩
        · have d0 : d = 0 := by
            have z := V.int.inj (of_decide_eq_true e)
            omega
          refine ⟨_, rfl, a, xs, rfl, .inr (.inl (.inl ha)), rfl, ?_⟩
          have eb := h0 d0
          have e2 : decide (V.int (xs.length : Int) = V.int 0) = b := by
            rw [eb]
            cases xs with
            | nil => rfl
            | cons x r =>
              refine decide_eq_false fun z => ?_
              have z2 := V.int.inj z
              rw [List.length_cons] at z2
              omega
          rw [e2]
          exact q
        · obtain ⟨e', rfl⟩ : ∃ e', d = e' + 1 := by
            cases d with
            | zero => exact absurd (decide_eq_true rfl) e
            | succ m => exact ⟨m, rfl⟩
          have hm := h1 e' rfl
          have earg : ∀ x : V, [x, V.int (((e' + 1 : Nat) : Int) - 1)] = [x, V.int (e' : Int)] := fun x => by
            rw [show ((e' + 1 : Nat) : Int) - 1 = (e' : Int) by omega]
          rcases hm with ⟨rfl, hall⟩ | ⟨rfl, i0, x0, hx0, k0, kt⟩
          · refine ⟨_, rfl, a, rfl, ⟨xs, .inl (.inl ha)⟩, for_tup (K := K) (a := a) (xs := xs) (fun i σ H' => H' = H ∧ ∃ v2, σ = [some (.ref a), some (.int ((e' + 1 : Nat) : Int)), v2])
              ⟨rfl, none, rfl⟩ (fun i σ H' _ ⟨z, _⟩ => by rw [z]; exact .inl (.inl ha)) ?_ ?_⟩
            · rintro i x σ H' hx ⟨rfl, v2, rfl⟩
              refine ⟨_, rfl, _, rfl, _, 1, rfl, rfl, x, e', true, earg _, by omega, hall x (List.mem_of_getElem? hx), true, rfl, iteF ?_⟩
              exact ⟨rfl, _, rfl⟩
            · rintro σ H' ⟨rfl, v2, rfl⟩
              exact q
          · have hi0 := (List.getElem?_eq_some_iff.mp hx0).1
            refine ⟨_, rfl, a, rfl, ⟨xs, .inl (.inl ha)⟩, for_tup (K := K) (a := a) (xs := xs) (fun i σ H' => i ≤ i0 ∧ H' = H ∧ ∃ v2, σ = [some (.ref a), some (.int ((e' + 1 : Nat) : Int)), v2])
              ⟨Nat.zero_le _, rfl, none, rfl⟩ (fun i σ H' _ ⟨_, z, _⟩ => by rw [z]; exact .inl (.inl ha)) ?_ ?_⟩
            · rintro i x σ H' hx ⟨hi, rfl, v2, rfl⟩
              by_cases hlt : i < i0
              · refine ⟨_, rfl, _, rfl, _, 1, rfl, rfl, x, e', true, earg _, by omega, kt i x hlt hx, true, rfl, iteF ?_⟩
                exact ⟨hlt, rfl, _, rfl⟩
              · obtain rfl : i = i0 := by omega
                rw [hx0] at hx
                cases hx
                refine ⟨_, rfl, _, rfl, _, 1, rfl, rfl, _, e', false, earg _, by omega, k0, false, rfl, iteT ?_⟩
                exact q
            · rintro σ H' ⟨hi, _⟩
              exact absurd hi0 (by omega)
def spPlain (K : PySem.W.Frag) : Sp := fun vs H Q _ => ∃ (v : V) (b : Bool), vs = [v] ∧ PN K H 4 v b ∧ Q (.bl b) H
theorem ok_plain {f : Addr} {fd : FuncData} {k : Nat} {t : Tok} (F : FnP K "is_plain" "is_plain" s_is_plain f fd) (m_DEEPEST : mg "DEEPEST" = some (.int 4 t)) (C_w : Cal P w K mg base CX0 "is_plain_within" k ["thing", "deepest"] (spW K 5)) :
    FnOk P w K mg base CX0 (k + 1) f fd ["thing"] (spPlain K) := by
  obtain ⟨f_is_plain_within, fd_is_plain_within, G_is_plain_within, b_is_plain_within, m_is_plain_within, k_is_plain_within⟩ := C_w
  refine F.ok sc_is_plain (fun vs H Q E h => ?_) (fun cdv A outer s H vs Q E hr h => ?_)
  · obtain ⟨v, b, rfl, _⟩ := h
    rfl
  · obtain ⟨v, b, rfl, pn, q⟩ := h
    refine ⟨_, pss_one (ps_ret (pe_call G_is_plain_within (hr.mono (by omega)) (by rfl) m_is_plain_within k_is_plain_within b_is_plain_within .nil pass0 (pa_cons (pv 0) (pa_cons (pe_glob (v := .int 4) (by rfl) m_DEEPEST ⟨_, rfl⟩) pa_nil)))), ?_⟩
    exact ⟨_, rfl, v, 4, b, rfl, by decide, pn, q⟩
def spFlag (K : PySem.W.Frag) : Sp := fun vs H Q _ => ∃ (v : V) (t : Value) (bb : Bool), vs = [v] ∧ TyX K H v t ∧ PySem.W.kitOne K t (.type "bool") = some bb ∧ Q (.bl bb) H
theorem ok_flag {f : Addr} {fd : FuncData} {k : Nat} (F : FnP K "is_flag" "is_flag" s_is_flag f fd) (m_isinstance : mg "isinstance" = none) (m_bool : mg "bool" = none) : FnOk P w K mg base CX0 (k + 1) f fd ["thing"] (spFlag K) := by
  refine F.ok sc_is_flag (fun vs H Q E h => ?_) (fun cdv A outer s H vs Q E hr h => ?_)
  · obtain ⟨v, t, bb, rfl, _⟩ := h
    rfl
  · obtain ⟨v, t, bb, rfl, ty, kb, q⟩ := h
    refine ⟨_, pss_one (ps_ret (pe_callB call_isi (by rfl) m_isinstance (by decide +kernel) (pa_cons (pv 0) (pa_cons (pe_bltn (v := .ty "bool") (by rfl) m_bool (by decide +kernel) rfl) pa_nil)))), ?_⟩
    exact ⟨_, rfl, v, _, t, _, bb, rfl, .ty _, ty, kb, q⟩
end
end K06
set_option Elab.async false
set_option linter.all false
set_option maxRecDepth 100000
set_option maxHeartbeats 2000000
namespace K06
open PySem PySem.Spec PyProof.Rows L2 CM DN GR
section
variable {P : Program} {w : World} {K : PySem.W.Frag} {mg : Str → Option Value} {base : Heap}
/-! ### places -/
def spChk : Sp := fun vs H Q _ => ∃ (p : Addr) (k : NK), vs = [.ref p] ∧ Plc H p k ∧ Q (.ref p) H
theorem ok_chk {f : Addr} {fd : FuncData} {k : Nat} (F : FnP K "checked_place" "checked_place" s_checked_place f fd) (m_isinstance : mg "isinstance" = none) (m_tuple : mg "tuple" = none) (m_len : mg "len" = none) (C_plain : Cal P w K mg base CX0 "is_plain" k ["thing"] (spPlain K)) :
    FnOk P w K mg base CX0 (k + 1) f fd ["thing"] spChk := by
  obtain ⟨f_is_plain, fd_is_plain, G_is_plain, b_is_plain, m_is_plain, k_is_plain⟩ := C_plain
  refine F.ok sc_checked_place (fun vs H Q E h => ?_) (fun cdv A outer s H vs Q E hr h => ?_)
  · obtain ⟨p, kk, rfl, _⟩ := h
    rfl
  · obtain ⟨p, kk, rfl, hp, q⟩ := h
    refine ⟨_, PSs.nox (pss_cons (ps_if (PW.pt (pw_or (pt_not (pt_val (pe_callB call_isi (by rfl) m_isinstance (by decide +kernel) (pa_cons (pv 0) (pa_cons (pe_bltn (v := .ty "tuple") (by rfl) m_tuple (by decide +kernel) rfl) pa_nil))))) (pw_or1 (pt_cmpR op_ne (pe_callB call_len_seq (by rfl) m_len PySem.boot_len (pa_cons (pv 0) pa_nil)) pe_int (nomark _))))) (pss_one (ps_never)) (pss_nil))
    (pss_cons (ps_for PassesOwn.never rfl (pi_tup (pv 0)) (pg_name (i := 1) sc_checked_place.nd rfl (.inl rfl))
      (pss_one (ps_if (pt_not (pt_val (pe_call G_is_plain (hr.mono (by omega)) (by rfl) m_is_plain k_is_plain b_is_plain .nil pass0 (pa_cons (pv 1) pa_nil)))) (pss_one (ps_never)) (pss_nil))))
    (pss_one (ps_ret (pv 0))))), ?_⟩
    obtain ⟨v1, v2, k1, k2, e, h1, h2, _⟩ := hp.ex
    have ty : TyX K H (.ref p) (.type "tuple") := .base (.tup e)
    refine ⟨_, rfl, .ref p, _, _, _, true, rfl, .ty _, ty, kit_bb (by decide +kernel), true, rfl, iteF ?_⟩
    refine ⟨_, rfl, p, _, rfl, .inr (.inl (.inl e)), rfl, _, rfl, iteF ?_⟩
    refine ⟨_, rfl, p, rfl, ⟨_, .inl (.inl e)⟩, for_tup (K := K) (a := p) (xs := [v1, v2]) (fun i σ H' => H' = H ∧ ∃ v1 : Option V, σ = [some (.ref p), v1]) ⟨rfl, none, rfl⟩ (fun i σ H' _ ⟨z, _⟩ => by rw [z]; exact .inl (.inl e)) ?_ ?_⟩
    · rintro i x σ H' hx ⟨rfl, v1', rfl⟩
      have px : PN K H' 4 x true := by
        rcases List.mem_cons.mp (List.mem_of_getElem? hx) with rfl | hx
        · exact h1.pn
        · rw [List.mem_singleton.mp hx]
          exact h2.pn
      exact ⟨_, rfl, x, true, rfl, px, true, rfl, iteF ⟨rfl, _, rfl⟩⟩
    · rintro σ H' ⟨rfl, v1', rfl⟩
      exact ⟨_, rfl, q⟩
/-- a thing that is no place -/
def NoPl (K : PySem.W.Frag) (H : Hp) (v : V) : Prop := (∃ t, TyX K H v t ∧ PySem.W.kitOne K t (.type "tuple") = some false) ∨ ∃ a xs, v = .ref a ∧ H a = some (.tup xs) ∧ (xs.length ≠ 2 ∨ ∃ x y, xs = [x, y] ∧ (PN K H 4 x false ∨ (PN K H 4 x true ∧ PN K H 4 y false)))
def spPlace (K : PySem.W.Frag) : Sp := fun vs H Q _ => ∃ v : V, vs = [v] ∧ ((NoPl K H v ∧ Q (.bl false) H) ∨ ∃ p k, v = .ref p ∧ Plc H p k ∧ Q (.bl true) H)
theorem ok_place {f : Addr} {fd : FuncData} {k : Nat} (F : FnP K "is_place" "is_place" s_is_place f fd) (m_isinstance : mg "isinstance" = none) (m_tuple : mg "tuple" = none) (m_len : mg "len" = none) (C_plain : Cal P w K mg base CX0 "is_plain" k ["thing"] (spPlain K)) :
    FnOk P w K mg base CX0 (k + 1) f fd ["thing"] (spPlace K) := by
  obtain ⟨f_is_plain, fd_is_plain, G_is_plain, b_is_plain, m_is_plain, k_is_plain⟩ := C_plain
  refine F.ok sc_is_place (fun vs H Q E h => ?_) (fun cdv A outer s H vs Q E hr h => ?_)
  · obtain ⟨v, rfl, _⟩ := h
    rfl
  · obtain ⟨v, rfl, q⟩ := h
    refine ⟨_, pss_one (ps_ret (pe_and (pe_callB call_isi (by rfl) m_isinstance (by decide +kernel) (pa_cons (pv 0) (pa_cons (pe_bltn (v := .ty "tuple") (by rfl) m_tuple (by decide +kernel) rfl) pa_nil))) (pe_and (pe_cmpR op_eq (pe_callB call_len_seq (by rfl) m_len PySem.boot_len (pa_cons (pv 0) pa_nil)) pe_int (nomark _)) (pe_and (pe_call G_is_plain (hr.mono (by omega)) (by rfl) m_is_plain k_is_plain b_is_plain .nil pass0 (pa_cons (pe_ix ix_tup (pv 0) pe_int (fun _ _ => rfl)) pa_nil)) (pe_one (pe_call G_is_plain (hr.mono (by omega)) (by rfl) m_is_plain k_is_plain b_is_plain .nil pass0 (pa_cons (pe_ix ix_tup (pv 0) pe_int (fun _ _ => rfl)) pa_nil))))))), ?_⟩
    have isT : ∀ {a : Addr} {xs : List V}, H a = some (.tup xs) → TyX K H (.ref a) (.type "tuple") := fun e => .base (.tup e)
    have at0 : ∀ {x y : V}, atI [x, y] 0 = some x := fun {x y} => rfl
    have at1 : ∀ {x y : V}, atI [x, y] 1 = some y := fun {x y} => rfl
    rcases q with ⟨np, q⟩ | ⟨p, kk, rfl, hp, q⟩
    · rcases np with ⟨t, ty, kt⟩ | ⟨a, xs, rfl, ha, np⟩
      · refine ⟨_, rfl, v, _, t, _, false, rfl, .ty _, ty, kt, false, rfl, iteF ?_⟩
        exact q
      · refine ⟨_, rfl, .ref a, _, _, _, true, rfl, .ty _, isT ha, kit_bb (by decide +kernel), true, rfl, iteT ?_⟩
        refine ⟨_, rfl, a, xs, rfl, .inr (.inl (.inl ha)), rfl, _, rfl, ?_⟩
        rcases np with hl | ⟨x, y, rfl, np⟩
        · have e2 : decide (V.int (xs.length : Int) = V.int 2) = false := decide_eq_false fun z => hl (by have := V.int.inj z; omega)
          rw [e2]
          exact iteF q
        · refine iteT ?_
          rcases np with h1 | ⟨h1, h2⟩
          · exact ⟨_, rfl, a, _, 0, x, rfl, rfl, .inl (.inl ha), at0, x, false, rfl, h1, false, rfl, iteF q⟩
          · exact ⟨_, rfl, a, _, 0, x, rfl, rfl, .inl (.inl ha), at0, x, true, rfl, h1, true, rfl, iteT ⟨_, rfl, a, _, 1, y, rfl, rfl, .inl (.inl ha), at1, y, false, rfl, h2, q⟩⟩
    · obtain ⟨v1, v2, k1, k2, e, h1, h2, _⟩ := hp.ex
      refine ⟨_, rfl, .ref p, _, _, _, true, rfl, .ty _, isT e, kit_bb (by decide +kernel), true, rfl, iteT ?_⟩
      refine ⟨_, rfl, p, _, rfl, .inr (.inl (.inl e)), rfl, _, rfl, iteT ?_⟩
      exact ⟨_, rfl, p, _, 0, v1, rfl, rfl, .inl (.inl e), at0, v1, true, rfl, h1.pn, true, rfl, iteT ⟨_, rfl, p, _, 1, v2, rfl, rfl, .inl (.inl e), at1, v2, true, rfl, h2.pn, q⟩⟩
end
end K06
set_option Elab.async false
set_option linter.all false
set_option maxRecDepth 100000
set_option maxHeartbeats 2000000
namespace K06
open PySem PySem.Spec PyProof.Rows L2 CM DN GR
section
variable {P : Program} {w : World} {K : PySem.W.Frag} {mg : Str → Option Value} {base : Heap}
/-! ### the class -/
structure GCls (K : PySem.W.Frag) (C : Addr) : Prop where
  cl : Cls K C
  nd : NoAttr K C "default"
  ne : NoAttr K C "entries"
/-- Grid(default) -/
def spInit (P : Program) (w : World) (C : Addr) : Sp := fun vs H Q _ => ∃ (p dx : Addr) (fl : Bool) (v : V) (d : PyData), vs = [.ref p, v] ∧ H p = some (.ins C dx []) ∧ Wr H fl v d ∧
  ∀ (H' : Hp) (e : Addr), H e = none → e ≠ p → (∀ b o, b ≠ p → H b = some o → H' b = some o) → Gd P w C H' p v e [] → Q .non H'
abbrev FunG (K : PySem.W.Frag) (f : Addr) (fd : FuncData) : Prop := FunD K "__init__" "Grid.__init__" (defArgs s_Grid___init) (defBody s_Grid___init) (defScope s_Grid___init) [V.bl false] [] f fd
theorem ok_ginit {C CF f : Addr} {fd : FuncData} {k : Nat} (F : FunG K f fd) (m_isinstance : mg "isinstance" = none) (m_Filling : mg "Filling" = some (.ref CF)) (kF : ∀ T ∈ ["bool", "NoneType", "int", "str", "tuple"], PySem.W.kitOne K (.type T) (.ref CF) = some false)
    (gc : GCls K C) (C_flag : Cal P w K mg base CX0 "is_flag" (k + 1) ["thing"] (spFlag K)) (C_plain : Cal P w K mg base CX0 "is_plain" (k + 1) ["thing"] (spPlain K)) :
    FnOk P w K mg base CX0 (k + 2) f fd ["self", "default"] (spInit P w C) := by
  obtain ⟨f_is_flag, fd_is_flag, G_is_flag, b_is_flag, m_is_flag, k_is_flag⟩ := C_flag
  obtain ⟨f_is_plain, fd_is_plain, G_is_plain, b_is_plain, m_is_plain, k_is_plain⟩ := C_plain
  refine F.ok sc_Grid___init (fun vs H Q E h => ?_) (fun cdv A outer s H vs Q E hr h => ?_)
  · obtain ⟨p, dx, fl, v, d, rfl, _⟩ := h
    rfl
  · obtain ⟨p, dx, fl, v, d, rfl, hp, wr, q⟩ := h
    refine ⟨_, PSs.nox (pss_one (ps_if (pt_val (pe_callB call_isi (by rfl) m_isinstance (by decide +kernel) (pa_cons (pv 1) (pa_cons (pe_gref (by rfl) m_Filling) pa_nil)))) (pss_cons (ps_fld (pv 0) (pe_fld (pv 1) rfl) rfl)
      (pss_one (ps_fld (pv 0) (pe_fld (pv 1) rfl) rfl))) (pss_one (ps_if (PW.pt (pw_or (pt_val (pe_call G_is_flag (hr.mono (by omega)) (by rfl) m_is_flag k_is_flag b_is_flag .nil pass0 (pa_cons (pv 1) pa_nil))) (pw_or1 (pt_val (pe_call G_is_plain (hr.mono (by omega)) (by rfl) m_is_plain k_is_plain b_is_plain .nil pass0 (pa_cons (pv 1) pa_nil)))))) (pss_cons (ps_fld (pv 0) (pv 1) rfl)
        (pss_one (ps_fld (pv 0) DN.pe_dnewN rfl))) (pss_one (ps_never)))))), ?_⟩
    have ty := shw_ty (K := K) wr.shw.1
    refine ⟨_, rfl, v, _, _, _, false, rfl, .own CF, ty, kF _ wr.tyIn, false, rfl, iteF ?_⟩
    have wb := wr.bool (K := K)
    cases fl with
    | true =>
      refine ⟨_, rfl, v, _, true, rfl, ty, wb, true, rfl, iteT (iteT ?_)⟩
      refine ⟨_, rfl, _, rfl, p, C, dx, [], rfl, hp, gc.cl, gc.nd, by decide, fun d' hd => ?_⟩
      have np : p ≠ d' := ne_of_none (upd_same : upd H p (.ins C dx (putF "default" v [])) p = _) hd
      have hd0 : H d' = none := by
        rw [upd_ne (Ne.symm np)] at hd
        exact hd
      refine ⟨_, rfl, p, C, dx, [("default", v)], rfl, (by rw [upd_ne np]; exact upd_same), gc.cl, gc.ne, (show (1 : Nat) < 1000 by decide), q _ d' hd0 (Ne.symm np) (fun b o n e => ?_) ⟨⟨dx, upd_same⟩, ?_⟩⟩
      · rw [upd_ne n]
        have e2 : upd H p (.ins C dx (putF "default" v [])) b = some o := by rw [upd_ne n]; exact e
        rw [upd_ne (ne_of_none e2 hd)]
        exact e2
      · exact ⟨by rw [upd_ne (Ne.symm np)]; exact upd_same, fun x hx => by cases hx⟩
    | false =>
      obtain ⟨kk, hpl, hdd⟩ := wr
      refine ⟨_, rfl, v, _, false, rfl, ty, wb, false, rfl, iteF ⟨_, rfl, v, true, rfl, hpl.pn, true, rfl, iteT ?_⟩⟩
      refine ⟨_, rfl, _, rfl, p, C, dx, [], rfl, hp, gc.cl, gc.nd, by decide, fun d' hd => ?_⟩
      have np : p ≠ d' := ne_of_none (upd_same : upd H p (.ins C dx (putF "default" v [])) p = _) hd
      have hd0 : H d' = none := by
        rw [upd_ne (Ne.symm np)] at hd
        exact hd
      refine ⟨_, rfl, p, C, dx, [("default", v)], rfl, (by rw [upd_ne np]; exact upd_same), gc.cl, gc.ne, (show (1 : Nat) < 1000 by decide), q _ d' hd0 (Ne.symm np) (fun b o n e => ?_) ⟨⟨dx, upd_same⟩, ?_⟩⟩
      · rw [upd_ne n]
        have e2 : upd H p (.ins C dx (putF "default" v [])) b = some o := by rw [upd_ne n]; exact e
        rw [upd_ne (ne_of_none e2 hd)]
        exact e2
      · exact ⟨by rw [upd_ne (Ne.symm np)]; exact upd_same, fun x hx => by cases hx⟩
/-- grid[place] -/
def spGet (P : Program) (w : World) (C : Addr) : Sp := fun vs H Q _ => ∃ (g p e : Addr) (k : NK) (v : V) (xs : List Ent), vs = [.ref g, .ref p] ∧ Gd P w C H g v e xs ∧ Plc H p k ∧ Q ((at_ xs k).getD v) H
theorem ok_get {C f : Addr} {fd : FuncData} {k : Nat} (F : FnP K "__getitem__" "Grid.__getitem__" s_Grid___getitem f fd) (gc : GCls K C) (C_chk : Cal P w K mg base CX0 "checked_place" k ["thing"] spChk) : FnOk P w K mg base CX0 (k + 1) f fd ["self", "at"] (spGet P w C) := by
  obtain ⟨f_checked_place, fd_checked_place, G_checked_place, b_checked_place, m_checked_place, k_checked_place⟩ := C_chk
  refine F.ok sc_Grid___getitem (fun vs H Q E h => ?_) (fun cdv A outer s H vs Q E hr h => ?_)
  · obtain ⟨g, p, e, kk, v, xs, rfl, _⟩ := h
    rfl
  · obtain ⟨g, p, e, kk, v, xs, rfl, ⟨⟨dx, hg⟩, D⟩, hp, q⟩ := h
    refine ⟨_, pss_one (ps_ret (DN.pe_bmN PySem.F.plainAttrs_dict PySem.F.slot_dict_get PySem.F.type_dict_get (DN.mt_getN (u40 hr.units)) (pe_fld (pv 0) rfl) (pa_cons (pe_call G_checked_place (hr.mono (by omega)) (by rfl) m_checked_place k_checked_place b_checked_place .nil pass0 (pa_cons (pv 1) pa_nil)) (pa_cons (pe_fld (pv 0) rfl) pa_nil)))), ?_⟩
    have hk := hp.key
    exact ⟨_, rfl, g, C, dx, _, _, rfl, hg, gc.cl, gc.ne, rfl, ⟨e, xs, rfl, D⟩, _, rfl, p, kk, rfl, hp, _, rfl, g, C, dx, _, _, rfl, hg, gc.cl, gc.nd, rfl, e, p, xs, kk, v, rfl, rfl, D, hk.1, hk.2, q⟩
/-- self.has_value(v), it is one -/
def spHas (C : Addr) : Sp := fun vs H Q _ => ∃ (g dx e : Addr) (fl : Bool) (dv v : V) (dd d : PyData), vs = [.ref g, v] ∧ H g = some (.ins C dx [("default", dv), ("entries", .ref e)]) ∧ Wr H fl dv dd ∧ Wr H fl v d ∧ Q (.bl true) H
theorem ok_has {C f : Addr} {fd : FuncData} {k : Nat} (F : FnP K "has_value" "Grid.has_value" s_Grid_has_value f fd) (gc : GCls K C) (C_flag : Cal P w K mg base CX0 "is_flag" k ["thing"] (spFlag K)) (C_plain : Cal P w K mg base CX0 "is_plain" k ["thing"] (spPlain K)) :
    FnOk P w K mg base CX0 (k + 1) f fd ["self", "thing"] (spHas C) := by
  obtain ⟨f_is_flag, fd_is_flag, G_is_flag, b_is_flag, m_is_flag, k_is_flag⟩ := C_flag
  obtain ⟨f_is_plain, fd_is_plain, G_is_plain, b_is_plain, m_is_plain, k_is_plain⟩ := C_plain
  refine F.ok sc_Grid_has_value (fun vs H Q E h => ?_) (fun cdv A outer s H vs Q E hr h => ?_)
  · obtain ⟨g, dx, e, fl, dv, v, dd, d, rfl, _⟩ := h
    rfl
  · obtain ⟨g, dx, e, fl, dv, v, dd, d, rfl, hg, wd, wv, q⟩ := h
    refine ⟨_, PSs.nox (pss_cons (ps_if (pt_val (pe_call G_is_flag (hr.mono (by omega)) (by rfl) m_is_flag k_is_flag b_is_flag .nil pass0 (pa_cons (pe_fld (pv 0) rfl) pa_nil))) (pss_one (ps_ret (pe_call G_is_flag (hr.mono (by omega)) (by rfl) m_is_flag k_is_flag b_is_flag .nil pass0 (pa_cons (pv 1) pa_nil)))) (pss_nil))
    (pss_one (ps_ret (pe_call G_is_plain (hr.mono (by omega)) (by rfl) m_is_plain k_is_plain b_is_plain .nil pass0 (pa_cons (pv 1) pa_nil))))), ?_⟩
    have t1 := shw_ty (K := K) wd.shw.1
    have t2 := shw_ty (K := K) wv.shw.1
    refine ⟨_, rfl, g, C, dx, _, _, rfl, hg, gc.cl, gc.nd, rfl, dv, _, fl, rfl, t1, wd.bool, fl, rfl, ?_⟩
    cases fl with
    | true => exact iteT ⟨_, rfl, v, _, true, rfl, t2, wv.bool, q⟩
    | false =>
      obtain ⟨kk, hpl, _⟩ := wv
      exact iteF ⟨_, rfl, v, true, rfl, hpl.pn, q⟩
/-- grid[place] = v -/
def spSet (P : Program) (w : World) (C : Addr) : Sp := fun vs H Q _ => ∃ (g p e : Addr) (k : NK) (fl : Bool) (dv v : V) (dd d : PyData) (xs : List Ent), vs = [.ref g, .ref p, v] ∧ Gd P w C H g dv e xs ∧ Plc H p k ∧ Wr H fl dv dd ∧ Wr H fl v d ∧ xs.length < 1000 ∧
  (PyData.eqv d dd = false → Q .non (upd H e (dn P w e (putE xs k p v)))) ∧ (PyData.eqv d dd = true → at_ xs k = none → Q .non H) ∧ (PyData.eqv d dd = true → ∀ u, at_ xs k = some u → Q .non (upd H e (dn P w e (dropE xs k))))
theorem ok_set {C f : Addr} {fd : FuncData} {k : Nat} (F : FnP K "__setitem__" "Grid.__setitem__" s_Grid___setitem f fd) (gc : GCls K C) (C_chk : Cal P w K mg base CX0 "checked_place" k ["thing"] spChk) (C_has : CalM P w K mg base CX0 C "has_value" k ["self", "thing"] (spHas C)) :
    FnOk P w K mg base CX0 (k + 1) f fd ["self", "at", "worth"] (spSet P w C) := by
  obtain ⟨f_checked_place, fd_checked_place, G_checked_place, b_checked_place, m_checked_place, k_checked_place⟩ := C_chk
  obtain ⟨f_has_value, fd_has_value, G_has_value, b_has_value, me_has_value⟩ := C_has
  have cl_C := gc.cl
  refine F.ok sc_Grid___setitem (fun vs H Q E h => ?_) (fun cdv A outer s H vs Q E hr h => ?_)
  · obtain ⟨g, p, e, kk, fl, dv, v, dd, d, xs, rfl, _⟩ := h
    rfl
  · obtain ⟨g, p, e, kk, fl, dv, v, dd, d, xs, rfl, ⟨⟨dx, hg⟩, D⟩, hp, wd, wv, hz, q1, q2, q3⟩ := h
    refine ⟨_, PSs.nox (pss_cons (ps_set (i := 3) sc_Grid___setitem.nd rfl (.inl rfl) (pe_call G_checked_place (hr.mono (by omega)) (by rfl) m_checked_place k_checked_place b_checked_place .nil pass0 (pa_cons (pv 1) pa_nil)))
    (pss_cons (ps_if (pt_not (pt_val (pe_meth (pv 0) cl_C me_has_value G_has_value (hr.mono (by omega)) b_has_value .nil pass0 (pa_cons (pv 2) pa_nil)))) (pss_one (ps_never)) (pss_nil))
    (pss_one (ps_if (pt_cmpR (DN.op_neD hr.units) (pv 2) (pe_fld (pv 0) rfl) (nomark _)) (pss_one (ps_asg (pv 2) (pg_sub (pe_fld (pv 0) rfl) (pv 3) (DN.set_dictN (u40 hr.units))))) (pss_one (ps_if (pt_cmpR (DN.op_inN (u40 hr.units)) (pv 3) (pe_fld (pv 0) rfl) (by rfl)) (pss_one (DN.ps_delN (u40 hr.units) (pe_fld (pv 0) rfl) (pv 3))) (pss_nil))))))), ?_⟩
    have hk := hp.key
    refine ⟨_, rfl, p, kk, rfl, hp, ?_⟩
    refine ⟨_, rfl, g, dx, _, rfl, hg, rfl, _, rfl, g, dx, e, fl, dv, v, dd, d, rfl, hg, wd, wv, true, rfl, iteF ?_⟩
    refine ⟨_, rfl, _, rfl, g, C, dx, _, _, rfl, hg, gc.cl, gc.nd, rfl, d, dd, wv.shw.1, wd.shw.1, Nat.le_trans wv.shw.2 (by decide), _, rfl, ?_⟩
    cases he : PyData.eqv d dd with
    | false => exact iteT ⟨_, rfl, _, rfl, g, C, dx, _, _, rfl, hg, gc.cl, gc.ne, rfl, _, rfl, e, p, xs, kk, rfl, rfl, D, hk.1, hk.2, hz, q1 he⟩
    | true =>
      refine iteF ⟨_, rfl, _, rfl, g, C, dx, _, _, rfl, hg, gc.cl, gc.ne, rfl, p, e, xs, kk, rfl, rfl, D, hk.1, hk.2, _, rfl, ?_⟩
      cases ha : at_ xs kk with
      | none => exact iteF (q2 he ha)
      | some u => exact iteT ⟨_, rfl, g, C, dx, _, _, rfl, hg, gc.cl, gc.ne, rfl, _, rfl, e, p, xs, kk, rfl, rfl, D, hk.1, hk.2, by rw [ha]; rfl, q3 he u ha⟩
/-- grid(one, other) -/
def spCallG (P : Program) (w : World) (C : Addr) : Sp := fun vs H Q _ => ∃ (g e : Addr) (k1 k2 : NK) (x y v : V) (xs : List Ent), vs = [.ref g, x, y] ∧ Gd P w C H g v e xs ∧ Pl H x k1 ∧ Pl H y k2 ∧ ∀ H', Same H H' → Q ((at_ xs (.tup [k1, k2])).getD v) H'
theorem ok_callG {C f g0 : Addr} {fd : FuncData} {k : Nat} (F : FnP K "__call__" "Grid.__call__" s_Grid___call f fd) (O_get : OP.Own K C "__getitem__" g0) (G_get : FnR P w K mg base CX0 k g0 (spGet P w C)) : FnOk P w K mg base CX0 (k + 2) f fd ["self", "one", "other"] (spCallG P w C) := by
  refine F.ok sc_Grid___call (fun vs H Q E h => ?_) (fun cdv A outer s H vs Q E hr h => ?_)
  · obtain ⟨g, e, k1, k2, x, y, v, xs, rfl, _⟩ := h
    rfl
  · obtain ⟨g, e, k1, k2, x, y, v, xs, rfl, hG, h1, h2, q⟩ := h
    refine ⟨_, pss_one (ps_ret (OP.pe_ixO O_get G_get (hr.mono (by omega)) pass0 (pv 0) (pe_tup (pa_cons (pv 1) (pa_cons (pv 2) pa_nil))))), ?_⟩
    refine ⟨_, rfl, _, rfl, _, rfl, by show 2 ≤ sizeLine; decide, fun p np => ?_⟩
    have s1 := same_upd (o := .tup [x, y]) np
    have G1 := hG.same s1
    obtain ⟨⟨dx, hg⟩, D⟩ := G1
    exact ⟨g, dx, _, rfl, hg, g, p, e, _, v, xs, rfl, ⟨⟨dx, hg⟩, D⟩, ⟨x, y, k1, k2, upd_same, h1.same (same_tup s1), h2.same (same_tup s1), rfl⟩, q _ s1⟩
/-- thing in grid -/
def spCon (P : Program) (w : World) (K : PySem.W.Frag) (C : Addr) : Sp := fun vs H Q _ => ∃ (g e : Addr) (x v : V) (xs : List Ent), vs = [.ref g, x] ∧ Gd P w C H g v e xs ∧ ((NoPl K H x ∧ Q (.bl false) H) ∨ ∃ p k, x = .ref p ∧ Plc H p k ∧ Q (.bl (at_ xs k).isSome) H)
theorem ok_con {C f : Addr} {fd : FuncData} {k : Nat} (F : FnP K "__contains__" "Grid.__contains__" s_Grid___contains f fd) (gc : GCls K C) (C_place : Cal P w K mg base CX0 "is_place" k ["thing"] (spPlace K)) : FnOk P w K mg base CX0 (k + 1) f fd ["self", "x"] (spCon P w K C) := by
  obtain ⟨f_is_place, fd_is_place, G_is_place, b_is_place, m_is_place, k_is_place⟩ := C_place
  refine F.ok sc_Grid___contains (fun vs H Q E h => ?_) (fun cdv A outer s H vs Q E hr h => ?_)
  · obtain ⟨g, e, x, v, xs, rfl, _⟩ := h
    rfl
  · obtain ⟨g, e, x, v, xs, rfl, ⟨⟨dx, hg⟩, D⟩, q⟩ := h
    refine ⟨_, pss_one (ps_ret (pe_and (pe_call G_is_place (hr.mono (by omega)) (by rfl) m_is_place k_is_place b_is_place .nil pass0 (pa_cons (pv 1) pa_nil)) (pe_one (pe_cmpR (DN.op_inN (u40 hr.units)) (pv 1) (pe_fld (pv 0) rfl) (by rfl))))), ?_⟩
    rcases q with ⟨np, q⟩ | ⟨p, kk, rfl, hp, q⟩
    · exact ⟨_, rfl, x, rfl, .inl ⟨np, false, rfl, iteF q⟩⟩
    · have hk := hp.key
      exact ⟨_, rfl, .ref p, rfl, .inr ⟨p, kk, rfl, hp, true, rfl, iteT ⟨_, rfl, _, rfl, g, C, dx, _, _, rfl, hg, gc.cl, gc.ne, rfl, p, e, xs, kk, rfl, rfl, D, hk.1, hk.2, q⟩⟩⟩
/-- len(grid), bool(grid), grid.places() -/
def spLen (P : Program) (w : World) (C : Addr) : Sp := fun vs H Q _ => ∃ (g e : Addr) (v : V) (xs : List Ent), vs = [.ref g] ∧ Gd P w C H g v e xs ∧ Q (.int (xs.length : Nat)) H
theorem ok_len {C f : Addr} {fd : FuncData} {k : Nat} (F : FnP K "__len__" "Grid.__len__" s_Grid___len f fd) (gc : GCls K C) (m_len : mg "len" = none) : FnOk P w K mg base CX0 (k + 1) f fd ["self"] (spLen P w C) := by
  refine F.ok sc_Grid___len (fun vs H Q E h => ?_) (fun cdv A outer s H vs Q E hr h => ?_)
  · obtain ⟨g, e, v, xs, rfl, _⟩ := h
    rfl
  · obtain ⟨g, e, v, xs, rfl, ⟨⟨dx, hg⟩, D⟩, q⟩ := h
    refine ⟨_, pss_one (ps_ret (pe_callB DN.cr_lenN (by rfl) m_len PySem.boot_len (pa_cons (pe_fld (pv 0) rfl) pa_nil))), ?_⟩
    exact ⟨_, rfl, g, C, dx, _, _, rfl, hg, gc.cl, gc.ne, rfl, e, xs, rfl, D, q⟩
def spBool (P : Program) (w : World) (C : Addr) : Sp := fun vs H Q _ => ∃ (g e : Addr) (v : V) (xs : List Ent), vs = [.ref g] ∧ Gd P w C H g v e xs ∧ Q (.bl (!xs.isEmpty)) H
theorem ok_bool {C f : Addr} {fd : FuncData} {k : Nat} (F : FnP K "__bool__" "Grid.__bool__" s_Grid___bool f fd) (gc : GCls K C) (m_bool : mg "bool" = none) : FnOk P w K mg base CX0 (k + 1) f fd ["self"] (spBool P w C) := by
  refine F.ok sc_Grid___bool (fun vs H Q E h => ?_) (fun cdv A outer s H vs Q E hr h => ?_)
  · obtain ⟨g, e, v, xs, rfl, _⟩ := h
    rfl
  · obtain ⟨g, e, v, xs, rfl, ⟨⟨dx, hg⟩, D⟩, q⟩ := h
    refine ⟨_, pss_one (ps_ret (pe_callTy DN.cr_boolN (by rfl) m_bool (by decide +kernel) (pa_cons (pe_fld (pv 0) rfl) pa_nil))), ?_⟩
    exact ⟨_, rfl, g, C, dx, _, _, rfl, hg, gc.cl, gc.ne, rfl, e, xs, rfl, D, q⟩
def spPlaces (P : Program) (w : World) (C : Addr) : Sp := fun vs H Q _ => ∃ (g e : Addr) (v : V) (xs : List Ent), vs = [.ref g] ∧ Gd P w C H g v e xs ∧ ∀ p, H p = none → Q (.ref p) (upd H p (.lst (keyRefs xs)))
theorem ok_places {C f : Addr} {fd : FuncData} {k : Nat} (F : FnP K "places" "Grid.places" s_Grid_places f fd) (gc : GCls K C) (m_list : mg "list" = none) : FnOk P w K mg base CX0 (k + 1) f fd ["self"] (spPlaces P w C) := by
  refine F.ok sc_Grid_places (fun vs H Q E h => ?_) (fun cdv A outer s H vs Q E hr h => ?_)
  · obtain ⟨g, e, v, xs, rfl, _⟩ := h
    rfl
  · obtain ⟨g, e, v, xs, rfl, ⟨⟨dx, hg⟩, D⟩, q⟩ := h
    refine ⟨_, pss_one (ps_ret (pe_callTy (DN.cr_listN rfl) (by rfl) m_list (by decide +kernel) (pa_cons (pe_fld (pv 0) rfl) pa_nil))), ?_⟩
    exact ⟨_, rfl, g, C, dx, _, _, rfl, hg, gc.cl, gc.ne, rfl, e, xs, rfl, D, q⟩

end
end K06
set_option Elab.async false
set_option linter.all false
set_option maxRecDepth 100000
set_option maxHeartbeats 2000000
namespace K06
open PySem PySem.Spec PyProof.Rows L2 CM DN GR
section
variable {P : Program} {w : World} {K : PySem.W.Frag} {mg : Str → Option Value} {base : Heap}
/-! ### == of grids -/
structure GEq (K : PySem.W.Frag) (C : Addr) : Prop where
  ik : InsK K C
  kc : PySem.W.kitOne K (.ref C) (.ref C) = some true
  kt : ∀ T ∈ ["bool", "NoneType", "int", "str", "tuple", "list", "dict"], PySem.W.kitOne K (.type T) (.ref C) = some false ∧ PySem.W.notFirst K C (.type T) = true
def spGeq (P : Program) (w : World) (K : PySem.W.Frag) (C : Addr) : Sp := fun vs H Q _ => ∃ (g e : Addr) (dv : V) (xs : List Ent) (fl : Bool) (d : PyData) (y : V), vs = [.ref g, y] ∧ Gd P w C H g dv e xs ∧ Wr H fl dv d ∧
  ((∃ t, OP.TyN P w K H y t ∧ PySem.W.kitOne K t (.ref C) = some false ∧ Q (.bl false) H) ∨
   ∃ (g2 e2 : Addr) (dv2 : V) (ys : List Ent) (fl2 : Bool) (d2 : PyData), y = .ref g2 ∧ Gd P w C H g2 dv2 e2 ys ∧ Wr H fl2 dv2 d2 ∧ (fl = fl2 → PyData.eqv d d2 = true → FlE xs ys) ∧ Q (.bl (decide (fl = fl2) && (PyData.eqv d d2 && eqE xs ys))) H)
theorem ok_geq {C f : Addr} {fd : FuncData} {k : Nat} (F : FnP K "__eq__" "Grid.__eq__" s_Grid___eq f fd) (gc : GCls K C) (ge : GEq K C) (m_isinstance : mg "isinstance" = none) (m_Grid : mg "Grid" = some (.ref C)) (C_flag : Cal P w K mg base CX0 "is_flag" k ["thing"] (spFlag K)) :
    FnOk P w K mg base CX0 (k + 1) f fd ["self", "other"] (spGeq P w K C) := by
  obtain ⟨f_is_flag, fd_is_flag, G_is_flag, b_is_flag, m_is_flag, k_is_flag⟩ := C_flag
  refine F.ok sc_Grid___eq (fun vs H Q E h => ?_) (fun cdv A outer s H vs Q E hr h => ?_)
  · obtain ⟨g, e, dv, xs, fl, d, y, rfl, _⟩ := h
    rfl
  · obtain ⟨g, e, dv, xs, fl, d, y, rfl, ⟨⟨dx, hg⟩, D⟩, wd, q⟩ := h
    refine ⟨_, PSs.nox (pss_cons (ps_if (pt_not (pt_val (pe_callB (OP.call_isiN (P := P) (w := w)) (by rfl) m_isinstance (by decide +kernel) (pa_cons (pv 1) (pa_cons (pe_gref (by rfl) m_Grid) pa_nil))))) (pss_one (ps_ret pe_bl)) (pss_nil))
    (pss_cons (ps_if (pt_cmpR op_ne (pe_call G_is_flag (hr.mono (by omega)) (by rfl) m_is_flag k_is_flag b_is_flag .nil pass0 (pa_cons (pe_fld (pv 0) rfl) pa_nil)) (pe_call G_is_flag (hr.mono (by omega)) (by rfl) m_is_flag k_is_flag b_is_flag .nil pass0 (pa_cons (pe_fld (pv 1) rfl) pa_nil)) (nomark _)) (pss_one (ps_ret pe_bl)) (pss_nil))
    (pss_one (ps_ret (pe_and (pe_cmpR (DN.op_eqD hr.units) (pe_fld (pv 0) rfl) (pe_fld (pv 1) rfl) (nomark _)) (pe_one (pe_cmpR (DN.op_eqN hr.units) (pe_fld (pv 0) rfl) (pe_fld (pv 1) rfl) (nomark _)))))))), ?_⟩
    rcases q with ⟨t, ty, kt, q⟩ | ⟨g2, e2, dv2, ys, fl2, d2, rfl, ⟨⟨dx2, hg2⟩, D2⟩, wd2, hfl, q⟩
    · exact ⟨_, rfl, y, _, t, _, false, rfl, .own C, ty, kt, false, rfl, iteT q⟩
    · refine ⟨_, rfl, .ref g2, _, .ref C, _, true, rfl, .own C, .x (.base (.ins hg2 ge.ik.cl ge.ik.ca ge.ik.gs ge.ik.tk ge.ik.mr)), ge.kc, true, rfl, iteF ?_⟩
      have t1 := shw_ty (K := K) wd.shw.1
      have t2 := shw_ty (K := K) wd2.shw.1
      refine ⟨_, rfl, g, C, dx, _, _, rfl, hg, gc.cl, gc.nd, rfl, dv, _, fl, rfl, t1, wd.bool, ?_⟩
      refine ⟨_, rfl, g2, C, dx2, _, _, rfl, hg2, gc.cl, gc.nd, rfl, dv2, _, fl2, rfl, t2, wd2.bool, rfl, _, rfl, ?_⟩
      by_cases hf : fl = fl2
      · subst hf
        rw [decide_eq_true rfl] at q ⊢
        refine iteF ?_
        refine ⟨_, rfl, g, C, dx, _, _, rfl, hg, gc.cl, gc.nd, rfl, _, rfl, g2, C, dx2, _, _, rfl, hg2, gc.cl, gc.nd, rfl, d, d2, wd.shw.1, wd2.shw.1, Nat.le_trans wd.shw.2 (by decide), ?_⟩
        cases he : PyData.eqv d d2 with
        | false =>
          rw [he] at q
          exact ⟨false, rfl, iteF q⟩
        | true =>
          rw [he] at q
          exact ⟨true, rfl, iteT ⟨_, rfl, g, C, dx, _, _, rfl, hg, gc.cl, gc.ne, rfl, _, rfl, g2, C, dx2, _, _, rfl, hg2, gc.cl, gc.ne, rfl, e, e2, xs, ys, rfl, rfl, D, D2, hfl rfl he, q⟩⟩
      · rw [decide_eq_false hf] at q
        have e2 : decide (V.bl fl = V.bl fl2) = false := decide_eq_false fun z => hf (by cases z; rfl)
        rw [e2]
        exact iteT q
end
end K06
set_option Elab.async false
set_option linter.all false
set_option maxRecDepth 100000
set_option maxHeartbeats 2000000
namespace K06
open PySem PySem.Spec PyProof.Rows L2 CM DN GR
section
variable {P : Program} {w : World} {K : PySem.W.Frag} {mg : Str → Option Value} {base : Heap}
/-! ### what the law draws -/
def spMarks : Sp := fun vs H Q _ => ∃ (a : Addr) (x c : Int), vs = [.ref a] ∧ H a = some (.lst [.int x, .int c]) ∧ ∀ (v : V) (k : NK) (H' : Hp) (x' c' : Int), Kp a H H' → H' a = some (.lst [.int x', .int c']) → Pl H' v k → Q v H'
theorem ok_marks {f : Addr} {fd : FuncData} {k : Nat} (F : FnP K "_law_marks" "_law_marks" s_law_marks f fd) (C_draw : Cal P w K mg base CX0 "_law_draw" k ["_law_well_here", "_law_many"] spDraw) (C_one : Cal P w K mg base CX0 "_law_one" k ["_law_well_here", "_law_some"] (spOne K)) :
    FnOk P w K mg base CX0 (k + 1) f fd ["_law_well_here"] spMarks := by
  obtain ⟨f_law_one, fd_law_one, G_law_one, b_law_one, m_law_one, k_law_one⟩ := C_one
  obtain ⟨f_law_draw, fd_law_draw, G_law_draw, b_law_draw, m_law_draw, k_law_draw⟩ := C_draw
  refine F.ok sc_law_marks (fun vs H Q E h => ?_) (fun cdv A outer s H vs Q E hr h => ?_)
  · obtain ⟨a, x, c, rfl, _⟩ := h
    rfl
  · obtain ⟨a, x, c, rfl, ha, q⟩ := h
    refine ⟨_, PSs.nox (pss_cons (ps_set (i := 1) sc_law_marks.nd rfl (.inl rfl) (pe_lst (pa_cons pe_int (pa_cons pe_int (pa_cons pe_str (pa_cons pe_str (pa_cons pe_non (pa_cons (pe_tup (pa_nil)) (pa_cons (pe_tup (pa_cons pe_int (pa_cons pe_str pa_nil))) (pa_cons (pe_call G_law_draw (hr.mono (by omega)) (by rfl) m_law_draw k_law_draw b_law_draw .nil pass0 (pa_cons (pv 0) (pa_cons (pe_op op_pow pe_int pe_int) pa_nil))) (pa_cons (pe_tup (pa_cons (pe_tup (pa_cons pe_int pa_nil)) (pa_cons pe_str pa_nil))) pa_nil)))))))))))
    (pss_one (ps_ret (pe_call G_law_one (hr.mono (by omega)) (by rfl) m_law_one k_law_one b_law_one .nil pass0 (pa_cons (pv 0) (pa_cons (pv 1) pa_nil)))))), ?_⟩
    refine ⟨by show 0 ≤ sizeLine; decide, fun p0 n0 => ⟨by show 2 ≤ sizeLine; decide, fun p1 n1 => ?_⟩⟩
    have y0 := same_upd (o := .tup []) n0
    have y1 := same_upd (o := .tup [V.int 1, V.str "a"]) n1
    refine ⟨_, rfl, 10, 9, rfl, rfl, ⟨by decide, by decide, by decide⟩, a, x, c, 10 ^ 9, rfl, (y0.trans y1) _ _ ha, by decide, .of (k := 40) (by decide) (by decide), fun r x1 c1 _ _ => ?_⟩
    have k2 := (Kp.same (a := a) (y0.trans y1)).trans (Kp.set (o := .lst [.int x1, .int c1]))
    have t2 := kp_tup ((y0.trans y1) _ _ ha) (Kp.set (o := .lst [.int x1, .int c1]))
    have e0 := t2 _ _ (y1 _ _ (upd_same (H := H) (a := p0) (o := .tup [])))
    have e1 := t2 _ _ (upd_same (a := p1) (o := .tup [V.int 1, V.str "a"]))
    have ha2 := upd_same (H := upd (upd H p0 (.tup [])) p1 (.tup [V.int 1, V.str "a"])) (a := a) (o := .lst [.int x1, .int c1])
    generalize upd (upd (upd H p0 (.tup [])) p1 (.tup [V.int 1, V.str "a"])) a (.lst [.int x1, .int c1]) = G0 at k2 e0 e1 ha2
    refine ⟨by show 1 ≤ sizeLine; decide, fun p2 n2 => ⟨by show 2 ≤ sizeLine; decide, fun p4 n4 => ⟨by show 9 ≤ sizeLine; decide, fun l nl => ?_⟩⟩⟩
    have z2 := same_upd (o := .tup [V.int 2]) n2
    have z4 := same_upd (o := .tup [V.ref p2, V.str "c"]) n4
    have z5 := same_upd (o := .lst [V.int 0, V.int 1, V.str "a", V.str "b", V.non, V.ref p0, V.ref p1, V.int r, V.ref p4]) nl
    have zA := z2.trans (z4.trans z5)
    have e0 := zA _ _ e0
    have e1 := zA _ _ e1
    have e2 := (z4.trans z5) _ _ (upd_same (H := G0) (a := p2) (o := .tup [V.int 2]))
    have e4 := z5 _ _ (upd_same (a := p4) (o := .tup [V.ref p2, V.str "c"]))
    have el := upd_same (H := upd (upd G0 p2 (.tup [V.int 2])) p4 (.tup [V.ref p2, V.str "c"])) (a := l) (o := .lst [V.int 0, V.int 1, V.str "a", V.str "b", V.non, V.ref p0, V.ref p1, V.int r, V.ref p4])
    have la : l ≠ a := fun z => by
      have := (z2.trans z4) _ _ ha2
      rw [← z, nl] at this
      cases this
    generalize upd (upd (upd G0 p2 (.tup [V.int 2])) p4 (.tup [V.ref p2, V.str "c"])) l (.lst [V.int 0, V.int 1, V.str "a", V.str "b", V.non, V.ref p0, V.ref p1, V.int r, V.ref p4]) = G at e0 e1 e2 e4 el zA
    refine ⟨_, rfl, _, rfl, a, l, x1, c1, _, rfl, zA _ _ ha2, .inl (.inl el), fun x' c' => .inl (.inl (by rw [upd_ne la]; exact el)), (show (0 : Nat) < 9 by decide), (show (9 : Nat) ≤ 1000 by decide), fun v x' c' hv => ?_⟩
    have kp : Kp a H (upd G a (.lst [.int x', .int c'])) := (k2.trans (Kp.same zA)).trans Kp.set
    have tp := kp_tup (zA _ _ ha2) (Kp.set (o := .lst [.int x', .int c']))
    have e0 := tp _ _ e0
    have e1 := tp _ _ e1
    have e2 := tp _ _ e2
    have e4 := tp _ _ e4
    simp only [List.mem_cons, List.not_mem_nil, or_false] at hv
    rcases hv with rfl | rfl | rfl | rfl | rfl | rfl | rfl | rfl | rfl
    · exact q _ _ _ x' c' kp upd_same (.int _)
    · exact q _ _ _ x' c' kp upd_same (.int _)
    · exact q _ _ _ x' c' kp upd_same (.str _)
    · exact q _ _ _ x' c' kp upd_same (.str _)
    · exact q _ _ _ x' c' kp upd_same .non
    · exact q _ (.tup []) _ x' c' kp upd_same ⟨.tup e0 .nil, by decide, by decide⟩
    · exact q _ (.tup [.num 1, .text "a"]) _ x' c' kp upd_same ⟨.tup e1 (.cons (.int 1) (.cons (.str _) .nil)), by decide, by decide⟩
    · exact q _ _ _ x' c' kp upd_same (.int _)
    · exact q _ (.tup [.tup [.num 2], .text "c"]) _ x' c' kp upd_same ⟨.tup e4 (.cons (.tup e2 (.cons (.int 2) .nil)) (.cons (.str _) .nil)), by decide, by decide⟩
end
end K06
set_option Elab.async false
set_option linter.all false
set_option maxRecDepth 100000
set_option maxHeartbeats 2000000
namespace K06
open PySem PySem.Spec PyProof.Rows L2 CM DN GR
section
variable {P : Program} {w : World} {K : PySem.W.Frag} {mg : Str → Option Value} {base : Heap}
/-! ### grids of flags -/
def FV (dv : Bool) (xs : List Ent) : Prop := ∀ x ∈ xs, x.2.2 = V.bl (!dv)
theorem FV.put {dv : Bool} {xs : List Ent} (h : FV dv xs) (k : NK) (a : Addr) : FV dv (putE xs k a (.bl (!dv))) := fun x hx => by
  rcases mem_put hx with ⟨y, hy, _, _, e⟩ | rfl
  · rcases e with e | e
    · rw [← e]
      exact h y hy
    · exact e
  · rfl
theorem FV.drop {dv : Bool} {xs : List Ent} (h : FV dv xs) (k : NK) : FV dv (dropE xs k) := fun x hx => h x (mem_drop hx)
theorem FV.at_ {dv : Bool} {xs : List Ent} (h : FV dv xs) {k : NK} {u : V} (e : DN.at_ xs k = some u) : u = .bl (!dv) := by
  obtain ⟨x, hx, rfl⟩ := at_mem e
  exact h x hx
theorem FV.fl {dv : Bool} {xs : List Ent} (h : FV dv xs) : ∀ x ∈ xs, fl4 x.2.2 = true := fun x hx => by
  rw [h x hx]
  rfl
theorem FV.kv {dv : Bool} {xs ys : List Ent} (h : FV dv xs) (e : xs.map GR.kv = ys.map GR.kv) : FV dv ys := fun y hy => by
  have : GR.kv y ∈ ys.map GR.kv := List.mem_map.mpr ⟨y, hy, rfl⟩
  rw [← e] at this
  obtain ⟨x, hx, ex⟩ := List.mem_map.mp this
  have e2 : x.2.2 = y.2.2 := (Prod.mk.inj (show (x.1, x.2.2) = (y.1, y.2.2) from ex)).2
  rw [← e2]
  exact h x hx
theorem FV.flE {dv : Bool} {xs ys : List Ent} (h : FV dv xs) (h2 : FV dv ys) : FlE xs ys := fun x hx v hv => ⟨h.fl x hx, by rw [h2.at_ hv]; rfl⟩
/-- a value of an own grid: what stands, or the default -/
theorem FV.getD {dv : Bool} {xs : List Ent} (h : FV dv xs) (k : NK) : (DN.at_ xs k).getD (.bl dv) = .bl (xor dv (DN.at_ xs k).isSome) := by
  cases e : DN.at_ xs k with
  | none => simp
  | some u =>
    rw [h.at_ e]
    simp
theorem eqv_bb (b d : Bool) : PyData.eqv (.bool b) (.bool d) = (b == d) := by cases b <;> cases d <;> simp [PyData.eqv]
/-- a grid of flags -/
structure Og (P : Program) (w : World) (C : Addr) (H : Hp) (g e : Addr) (dv : Bool) (zs : List Ent) : Prop where
  gd : Gd P w C H g (.bl dv) e zs
  nd : (ks zs).Nodup
  fv : FV dv zs
section
variable {C g e c p : Addr} {H H' : Hp} {dv : Bool} {zs : List Ent} {k : NK}
theorem Og.same (h : Og P w C H g e dv zs) (s : Same H H') : Og P w C H' g e dv zs := ⟨h.gd.same s, h.nd, h.fv⟩
theorem Og.ge (h : Og P w C H g e dv zs) : g ≠ e := fun z => by
  obtain ⟨⟨dx, h1⟩, h2⟩ := h.gd
  rw [z, h2.1] at h1
  exact dn_ins (Option.some.inj h1)
theorem Og.keep {S : List Addr} (h : Og P w C H g e dv zs) (s : Kps S H H') (t : TP H H') (n1 : g ∉ S) (n2 : e ∉ S) : Og P w C H' g e dv zs := by
  obtain ⟨⟨⟨dx, h1⟩, h2⟩, h3, h4⟩ := h
  exact ⟨⟨⟨dx, s _ _ n1 h1⟩, h2.mono (s _ _ n2 h2.1) t⟩, h3, h4⟩
theorem Og.ne_lst {a : Addr} {ys : List V} (h : Og P w C H g e dv zs) (ha : H a = some (.lst ys)) : g ≠ a ∧ e ≠ a := by
  obtain ⟨⟨⟨dx, h1⟩, h2⟩, _⟩ := h
  refine ⟨fun z => ?_, fun z => ?_⟩
  · rw [z, ha] at h1
    cases h1
  · have := h2.1
    rw [z, ha] at this
    exact dn_lst (Option.some.inj this).symm
theorem Og.kp {a : Addr} {ys : List V} (h : Og P w C H g e dv zs) (ha : H a = some (.lst ys)) (s : Kp a H H') : Og P w C H' g e dv zs := by
  obtain ⟨n1, n2⟩ := h.ne_lst ha
  exact h.keep (S := [a]) (Kps.kp s (List.mem_singleton.mpr rfl)) (kp_tup ha s) (fun z => n1 (List.mem_singleton.mp z)) (fun z => n2 (List.mem_singleton.mp z))
theorem Og.put (h : Og P w C H g e dv zs) (hk : KeyV H k (.ref p)) (hd : k.depth ≤ 8) : Og P w C (upd H e (dn P w e (putE zs k p (.bl (!dv))))) g e dv (putE zs k p (.bl (!dv))) := by
  have ge := h.ge
  obtain ⟨⟨⟨dx, h1⟩, h2⟩, h3, h4⟩ := h
  exact ⟨⟨⟨dx, by rw [upd_ne ge]; exact h1⟩, dct_put h2 hk hd⟩, nd_put h3 _ _ _, h4.put _ _⟩
theorem Og.drop (h : Og P w C H g e dv zs) : Og P w C (upd H e (dn P w e (dropE zs k))) g e dv (dropE zs k) := by
  have ge := h.ge
  obtain ⟨⟨⟨dx, h1⟩, h2⟩, h3, h4⟩ := h
  exact ⟨⟨⟨dx, by rw [upd_ne ge]; exact h1⟩, dct_drop h2⟩, nd_drop h3 _, h4.drop _⟩
/-- a flag is set: what the grid says then -/
def stored (dv b : Bool) (k : NK) (p : Addr) (zs : List Ent) : List Ent := if b = dv then (if (DN.at_ zs k).isSome then dropE zs k else zs) else putE zs k p (.bl b)
theorem at_stored {b : Bool} {j : NK} : DN.at_ (stored dv b k p zs) j = if j = k then (if b = dv then none else some (.bl b)) else DN.at_ zs j := by
  unfold stored
  by_cases hb : b = dv
  · rw [if_pos hb, if_pos hb]
    cases e : DN.at_ zs k with
    | none =>
      rw [if_neg (by simp)]
      by_cases ej : j = k
      · rw [if_pos ej, ej, e]
      · rw [if_neg ej]
    | some u => rw [if_pos (by simp), at_drop]
  · rw [if_neg hb, if_neg hb, at_put]
/-- grid[place] = flag, as a spec of the caller -/
theorem set_flag {g p e : Addr} {b : Bool} {Q : VK} {E : XK} (h : Og P w C H g e dv zs) (hp : Plc H p k) (hz : zs.length < 1000)
    (q : ∀ H' : Hp, Kp e H H' → TP H H' → Og P w C H' g e dv (stored dv b k p zs) → Q .non H') : spSet P w C [.ref g, .ref p, .bl b] H Q E := by
  have hk := hp.key
  refine ⟨g, p, e, k, true, .bl dv, .bl b, .bool dv, .bool b, zs, rfl, h.gd, hp, ⟨dv, rfl, rfl⟩, ⟨b, rfl, rfl⟩, hz, fun he => ?_, fun he hn => ?_, fun he u hu => ?_⟩
  · rw [eqv_bb] at he
    have nb : ¬ b = dv := by
      intro z
      rw [z] at he
      simp at he
    have eb : b = !dv := by cases b <;> cases dv <;> simp_all
    refine q _ Kp.set (tp_dct h.gd.2) ?_
    unfold stored
    rw [if_neg nb, eb]
    exact h.put hk.1 hk.2
  · rw [eqv_bb] at he
    have eb : b = dv := by simpa using he
    refine q _ (fun _ _ _ z => z) (fun _ _ z => z) ?_
    unfold stored
    rw [if_pos eb, hn, if_neg (by simp)]
    exact h
  · rw [eqv_bb] at he
    have eb : b = dv := by simpa using he
    refine q _ Kp.set (tp_dct h.gd.2) ?_
    unfold stored
    rw [if_pos eb, hu, if_pos (by simp)]
    exact h.drop
end
end
end K06
set_option Elab.async false
set_option linter.all false
set_option maxRecDepth 100000
set_option maxHeartbeats 2000000
namespace K06
open PySem PySem.Spec PyProof.Rows L2 CM DN GR
section
variable {P : Program} {w : World} {K : PySem.W.Frag} {mg : Str → Option Value} {base : Heap}
theorem cut_mem {xs : List V} {lo hi : Option Int} {v : V} (h : v ∈ cutV xs lo hi) : v ∈ xs := List.mem_of_mem_drop (List.mem_of_mem_take h)
/-- Grid(v) makes a grid -/
theorem init_new {C x dx : Addr} {H : Hp} {fl : Bool} {v : V} {d : PyData} {Q : Hp → Prop} {E : XK} (hx : H x = none) (hdx : H dx = none) (wr : Wr H fl v d) (q : ∀ (H' : Hp) (e : Addr), Same H H' → H e = none → Gd P w C H' x v e [] → Q H') :
    spInit P w C [.ref x, v] (upd (upd H dx (.own x)) x (.ins C dx [])) (fun u H2 => u = .non ∧ Q H2) E := by
  have sm : Same H (upd (upd H dx (.own x)) x (.ins C dx [])) := fun b o eb => by
    rw [upd_ne (ne_of_none eb hx), upd_ne (ne_of_none eb hdx)]
    exact eb
  refine ⟨x, dx, fl, v, d, rfl, upd_same, wr.same (same_tup sm), fun H' e He ne keep gd => ⟨rfl, q H' e (fun b o eb => keep b o (ne_of_none eb hx) (sm b o eb)) ?_ gd⟩⟩
  cases hh : H e with
  | none => rfl
  | some o =>
    have := sm e o hh
    rw [He] at this
    cases this
theorem plc_new {H : Hp} {p : Addr} {x y : V} {k1 k2 : NK} (n : H p = none) (h1 : Pl H x k1) (h2 : Pl H y k2) : Same H (upd H p (.tup [x, y])) ∧ Plc (upd H p (.tup [x, y])) p (.tup [k1, k2]) :=
  ⟨same_upd n, ⟨x, y, k1, k2, upd_same, h1.same (same_tup (same_upd n)), h2.same (same_tup (same_upd n)), rfl⟩⟩
/-- a grid of flags and the law's dict of it -/
structure Flg (P : Program) (w : World) (C : Addr) (H : Hp) (n : Nat) (g e c : Addr) (dv : Bool) (xs ys : List Ent) : Prop where
  og : Og P w C H g e dv xs
  dc : Dct P w H c ys
  ec : e ≠ c
  kv : xs.map kv = ys.map kv
  le : xs.length ≤ n
  pl : ∀ y ∈ ys, Plc H y.2.1 y.1
section
variable {C g e c p a : Addr} {H H' : Hp} {dv : Bool} {xs ys : List Ent} {k : NK} {n m : Nat}
theorem stored_kv {b : Bool} {p' : Addr} (h : xs.map kv = ys.map kv) : (stored dv b k p xs).map kv = (stored dv b k p' ys).map kv := by
  unfold stored
  rw [at_congr h k]
  split
  · split
    · exact drop_kv h k
    · exact h
  · exact put_kv h _ _ _ _
theorem stored_len {b : Bool} : (stored dv b k p xs).length ≤ xs.length + 1 := by
  unfold stored
  split
  · split
    · exact Nat.le_trans (len_drop _ _) (Nat.le_succ _)
    · exact Nat.le_succ _
  · exact len_put _ _ _ _
theorem stored_mem {b : Bool} {x : Ent} (h : x ∈ stored dv b k p xs) : (∃ y ∈ xs, y.1 = x.1 ∧ y.2.1 = x.2.1) ∨ (x.1 = k ∧ x.2.1 = p) := by
  unfold stored at h
  split at h
  · split at h
    · exact .inl ⟨x, mem_drop h, rfl, rfl⟩
    · exact .inl ⟨x, h, rfl, rfl⟩
  · rcases mem_put h with ⟨y, hy, e1, e2, _⟩ | rfl
    · exact .inl ⟨y, hy, e1, e2⟩
    · exact .inr ⟨rfl, rfl⟩
theorem Flg.same (h : Flg P w C H n g e c dv xs ys) (s : Same H H') : Flg P w C H' n g e c dv xs ys := ⟨h.og.same s, h.dc.same s, h.ec, h.kv, h.le, fun y hy => (h.pl y hy).same (same_tup s)⟩
theorem Flg.c_lst {zs : List V} (h : Flg P w C H n g e c dv xs ys) (ha : H a = some (.lst zs)) : c ≠ a := fun z => by
  have := h.dc.1
  rw [z, ha] at this
  exact dn_lst (Option.some.inj this).symm
theorem Flg.kp {zs : List V} (h : Flg P w C H n g e c dv xs ys) (ha : H a = some (.lst zs)) (s : Kp a H H') : Flg P w C H' n g e c dv xs ys :=
  ⟨h.og.kp ha s, h.dc.mono (s _ _ (h.c_lst ha) h.dc.1) (kp_tup ha s), h.ec, h.kv, h.le, fun y hy => (h.pl y hy).same (kp_tup ha s)⟩
theorem Flg.le_ (h : Flg P w C H n g e c dv xs ys) (l : n ≤ m) : Flg P w C H m g e c dv xs ys := ⟨h.og, h.dc, h.ec, h.kv, Nat.le_trans h.le l, h.pl⟩
theorem Flg.g_c (h : Flg P w C H n g e c dv xs ys) : g ≠ c := fun z => by
  obtain ⟨⟨dx, h1⟩, h2⟩ := h.og.gd
  rw [z, h.dc.1] at h1
  exact dn_ins (Option.some.inj h1)
/-- the grid was set, then its dict -/
theorem Flg.step {b : Bool} (h : Flg P w C H n g e c dv xs ys) (hp : Plc H p k) (k1 : Kp e H H') (t1 : TP H H') (og : Og P w C H' g e dv (stored dv b k p xs)) {H2 : Hp} (hc : H2 c = some (dn P w c (stored dv b k p ys))) (k2 : Kp c H' H2) :
    Flg P w C H2 (n + 1) g e c dv (stored dv b k p xs) (stored dv b k p ys) := by
  have d1 : Dct P w H' c ys := h.dc.mono (k1 _ _ (Ne.symm h.ec) h.dc.1) t1
  have t2 : TP H' H2 := fun a zs ea => k2 _ _ (fun z => by
    rw [z, d1.1] at ea
    exact dn_ne (Option.some.inj ea)) ea
  have hk := hp.key
  refine ⟨og.keep (S := [c]) (Kps.kp k2 (List.mem_singleton.mpr rfl)) t2 (fun z => h.g_c (List.mem_singleton.mp z)) (fun z => h.ec (List.mem_singleton.mp z)), ⟨hc, fun x hx => ?_⟩, h.ec, stored_kv h.kv, Nat.le_trans stored_len (Nat.succ_le_succ h.le), fun x hx => ?_⟩
  · rcases stored_mem hx with ⟨y, hy, e1, e2⟩ | ⟨e1, e2⟩
    · obtain ⟨q1, q2⟩ := d1.2 y hy
      rw [← e1, ← e2]
      exact ⟨q1.same t2, q2⟩
    · rw [e1, e2]
      exact ⟨(hk.1.same t1).same t2, hk.2⟩
  · rcases stored_mem hx with ⟨y, hy, e1, e2⟩ | ⟨e1, e2⟩
    · rw [← e1, ← e2]
      exact ((h.pl y hy).same t1).same t2
    · rw [e1, e2]
      exact (hp.same t1).same t2
theorem kp_put {o : HO} (k : Kp a H H') (h : H p = none) : Kp a H (upd H' p o) := fun b u n eb => by
  rw [upd_ne (ne_of_none eb h)]
  exact k b u n eb
theorem kp_kp {H2 : Hp} (k : Kp a H H') (h : H p = none) (k2 : Kp p H' H2) : Kp a H H2 := fun b u n eb => k2 _ _ (ne_of_none eb h) (k b u n eb)
theorem kp_lst {zs : List V} (k : Kp p H H') (n : p ≠ a) (h : H a = some (.lst zs)) : H' a = some (.lst zs) := k _ _ (Ne.symm n) h
end
end
end K06
set_option Elab.async false
set_option linter.all false
set_option maxRecDepth 100000
set_option maxHeartbeats 2000000
namespace K06
open PySem PySem.Spec PyProof.Rows L2 CM DN GR
section
variable {P : Program} {w : World} {K : PySem.W.Frag} {mg : Str → Option Value} {base : Heap}
def spLGrid (P : Program) (w : World) (C : Addr) : Sp := fun vs H Q _ => ∃ (a : Addr) (x u : Int) (m : Nat), vs = [.ref a, .int m] ∧ H a = some (.lst [.int x, .int u]) ∧ m ≤ 13 ∧
  ∀ (t g e c : Addr) (dv : Bool) (xs ys : List Ent) (H' : Hp) (x' u' : Int), Kp a H H' → H' a = some (.lst [.int x', .int u']) → H' t = some (.tup [.ref g, .ref c, .bl dv]) → Flg P w C H' 13 g e c dv xs ys → Q (.ref t) H'
theorem ok_lgrid {C f fG g0 : Addr} {fd fdG : FuncData} {k : Nat} (F : FnP K "_law_grid" "_law_grid" s_law_grid f fd) (m_range : mg "range" = none) (m_G : mg "Grid" = some (.ref C)) (M_G : Mk K C fG)
    (G_G : FnOk P w K mg base CX0 k fG fdG ["self", "default"] (spInit P w C)) (b_G : Binds K fdG ["self", "default"] []) (nq_C : PySem.W.noSeq K C = true) (O_set : OP.Own K C "__setitem__" g0) (G_set : FnR P w K mg base CX0 k g0 (spSet P w C))
    (C_draw : Cal P w K mg base CX0 "_law_draw" k ["_law_well_here", "_law_many"] spDraw) (C_marks : Cal P w K mg base CX0 "_law_marks" k ["_law_well_here"] spMarks) :
    FnOk P w K mg base CX0 (k + 2) f fd ["_law_well_here", "_law_many"] (spLGrid P w C) := by
  obtain ⟨f_law_draw, fd_law_draw, G_law_draw, b_law_draw, m_law_draw, k_law_draw⟩ := C_draw
  obtain ⟨f_law_marks, fd_law_marks, G_law_marks, b_law_marks, m_law_marks, k_law_marks⟩ := C_marks
  refine F.ok sc_law_grid (fun vs H Q E h => ?_) (fun cdv A outer s H vs Q E hr h => ?_)
  · obtain ⟨a, x, u, m, rfl, _⟩ := h
    rfl
  · obtain ⟨a, x, u, m, rfl, ha, hm, q⟩ := h
    refine ⟨_, PSs.nox (pss_cons (ps_set (i := 2) sc_law_grid.nd rfl (.inl rfl) (pe_cmpR op_eq (pe_call G_law_draw (hr.mono (by omega)) (by rfl) m_law_draw k_law_draw b_law_draw .nil pass0 (pa_cons (pv 0) (pa_cons pe_int pa_nil))) pe_int (nomark _)))
    (pss_cons (ps_par (i := 3) (j := 4) rfl sc_law_grid.nd rfl rfl (by decide) rfl rfl (pa_cons (pe_make M_G G_G (hr.mono (by omega)) (by rfl) m_G b_G .nil pass0 (pa_cons (pv 2) pa_nil)) (pa_cons (pe_dnewP (P := P) (w := w)) pa_nil)) (by rfl))
    (pss_cons (ps_for PassesOwn.never rfl (pi_range1 (by rfl) m_range (pa_cons (pv 1) pa_nil)) (pg_name (i := 5) sc_law_grid.nd rfl (.inl rfl))
      (pss_cons (ps_set (i := 6) sc_law_grid.nd rfl (.inl rfl) (pe_tup (pa_cons (pe_call G_law_marks (hr.mono (by omega)) (by rfl) m_law_marks k_law_marks b_law_marks .nil pass0 (pa_cons (pv 0) pa_nil)) (pa_cons (pe_call G_law_marks (hr.mono (by omega)) (by rfl) m_law_marks k_law_marks b_law_marks .nil pass0 (pa_cons (pv 0) pa_nil)) pa_nil))))
      (pss_cons (ps_set (i := 7) sc_law_grid.nd rfl (.inl rfl) (pe_cmpR op_gt (pe_call G_law_draw (hr.mono (by omega)) (by rfl) m_law_draw k_law_draw b_law_draw .nil pass0 (pa_cons (pv 0) (pa_cons pe_int pa_nil))) pe_int (nomark _)))
      (pss_cons (ps_asg (pv 7) (pg_sub (pv 3) (pv 6) (OP.set_own O_set nq_C G_set (hr.mono (by omega)) pass0)))
      (pss_one (ps_if (pt_cmpR op_eq (pv 7) (pv 2) (nomark _)) (pss_one (ps_expr (DN.pe_bmN PySem.F.plainAttrs_dict PySem.F.slot_dict_pop PySem.F.type_dict_pop (DN.mt_popN (u40 hr.units)) (pv 4) (pa_cons (pv 6) (pa_cons pe_non pa_nil))))) (pss_one (ps_asg (pv 7) (pg_sub (pv 4) (pv 6) (DN.set_dictN (u40 hr.units)))))))))))
    (pss_one (ps_ret (pe_tup (pa_cons (pv 3) (pa_cons (pv 4) (pa_cons (pv 2) pa_nil))))))))), ?_⟩
    refine ⟨_, rfl, a, x, u, 2, rfl, ha, by decide, .of (k := 3) (by decide) (by decide), fun r x1 u1 _ _ => ⟨rfl, ?_⟩⟩
    generalize decide (V.int r = V.int 0) = dv
    have k1 : Kp a H (upd H a (.lst [.int x1, .int u1])) := Kp.set
    have ha1 := upd_same (H := H) (a := a) (o := .lst [.int x1, .int u1])
    generalize upd H a (.lst [.int x1, .int u1]) = H1 at k1 ha1
    refine ⟨_, rfl, fun g dx ng ndx _ => init_new (fl := true) (d := .bool dv) ng ndx ⟨dv, rfl, rfl⟩ fun H2 e s2 ne gd => fun c nc => ⟨_, _, rfl, ?_⟩⟩
    have s3 := same_upd (o := dn P w c []) nc
    have fe : H e = none := by
      cases q1 : H e with
      | none => rfl
      | some o =>
        by_cases z : e = a
        · rw [z, ha1] at ne
          cases ne
        · rw [k1 _ _ z q1] at ne
          cases ne
    have fc : H c = none := by
      cases q1 : H c with
      | none => rfl
      | some o =>
        by_cases z : c = a
        · rw [z, s2 _ _ ha1] at nc
          cases nc
        · rw [s2 _ _ (k1 _ _ z q1)] at nc
          cases nc
    have ec : e ≠ c := ne_of_none gd.2.1 nc
    have F0 : Flg P w C (upd H2 c (dn P w c [])) 0 g e c dv [] [] := ⟨⟨gd.same s3, List.nodup_nil, fun x hx => by cases hx⟩, ⟨upd_same, fun x hx => by cases hx⟩, ec, rfl, Nat.le_refl _, fun x hx => by cases hx⟩
    have ha3 := s3 _ _ (s2 _ _ ha1)
    have k3 : Kp a H (upd H2 c (dn P w c [])) := k1.trans (Kp.same (s2.trans s3))
    generalize upd H2 c (dn P w c []) = H3 at F0 ha3 k3
    refine ⟨_, rfl, _, rfl, by omega, by omega, for_range (n := m) (fun j σ H' => ∃ (xs ys : List Ent) (x u : Int) (v5 v6 v7 : Option V), σ = [some (.ref a), some (.int m), some (.bl dv), some (.ref g), some (.ref c), v5, v6, v7] ∧ H' a = some (.lst [.int x, .int u]) ∧ Kp a H H' ∧ Flg P w C H' j g e c dv xs ys) ⟨_, _, _, _, _, _, _, rfl, ha3, k3, F0⟩ ?_ ?_⟩
    · rintro j σ H4 hj ⟨xs, ys, x4, u4, v5, v6, v7, rfl, ha4, k4, F4⟩
      refine ⟨_, rfl, a, x4, u4, rfl, ha4, fun v1 k1 H5 x5 u5 kp5 ha5 p1 => ?_⟩
      refine ⟨_, rfl, a, x5, u5, rfl, ha5, fun v2 k2 H6 x6 u6 kp6 ha6 p2 => ⟨by show 2 ≤ sizeLine; decide, fun p np => ?_⟩⟩
      have F6 := (F4.kp ha4 kp5).kp ha5 kp6
      have k6 := (k4.trans kp5).trans kp6
      obtain ⟨s7, hp⟩ := plc_new np (p1.same (kp_tup ha5 kp6)) p2
      have F7 := F6.same s7
      have k7 := k6.trans (Kp.same s7)
      have ha7 := s7 _ _ ha6
      generalize upd H6 p (.tup [v1, v2]) = H7 at s7 hp F7 k7 ha7
      refine ⟨_, rfl, a, x6, u6, 3, rfl, ha7, by decide, .of (k := 3) (by decide) (by decide), fun r x8 u8 _ _ => ⟨_, _, rfl, rfl, ?_⟩⟩
      dsimp only
      generalize decide ((0 : Int) < r) = b
      have kp8 : Kp a H7 (upd H7 a (.lst [.int x8, .int u8])) := Kp.set
      have F8 := F7.kp ha7 kp8
      have k8 := k7.trans kp8
      have hp := hp.same (kp_tup ha7 kp8)
      have ha8 := upd_same (H := H7) (a := a) (o := .lst [.int x8, .int u8])
      generalize upd H7 a (.lst [.int x8, .int u8]) = H8 at F8 k8 hp ha8
      obtain ⟨dx8, hg8⟩ := F8.og.gd.1
      have hx8 := F8.le
      have hy8 : ys.length ≤ j := by
        rw [← len_kv F8.kv]
        exact hx8
      refine ⟨_, rfl, _, rfl, _, rfl, g, dx8, _, rfl, hg8, set_flag F8.og hp (by omega) fun H9 k9 t9 og9 => ?_⟩
      have ea : e ≠ a := (F8.og.ne_lst ha8).2
      have ca : c ≠ a := F8.c_lst ha8
      have ha9 := kp_lst k9 ea ha8
      have dc9 : Dct P w H9 c ys := F8.dc.mono (k9 _ _ (Ne.symm F8.ec) F8.dc.1) t9
      have hk9 := (hp.same t9).key
      have k9' := kp_kp k8 fe k9
      refine ⟨_, rfl, _, rfl, rfl, _, rfl, ite2 (fun eb => ?_) (fun eb => ?_)⟩
      · have eb2 : b = dv := V.bl.inj (of_decide_eq_true eb)
        refine ⟨_, rfl, ⟨c, ys, rfl, dc9⟩, _, rfl, c, p, ys, _, _, rfl, rfl, dc9, hk9.1, hk9.2, fun hn => ?_, fun z hz => ?_⟩
        · have est : stored dv b (.tup [k1, k2]) p ys = ys := by
            unfold stored
            rw [if_pos eb2, hn, if_neg (by simp)]
          exact ⟨_, _, _, _, _, _, _, rfl, ha9, k9', F8.step hp k9 t9 og9 (by rw [est]; exact dc9.1) (fun _ _ _ z => z)⟩
        · have est : stored dv b (.tup [k1, k2]) p ys = dropE ys (.tup [k1, k2]) := by
            unfold stored
            rw [if_pos eb2, hz, if_pos (by simp)]
          exact ⟨_, _, _, _, _, _, _, rfl, by rw [upd_ne (Ne.symm ca)]; exact ha9, kp_put k9' fc, F8.step hp k9 t9 og9 (by rw [est]; exact upd_same) Kp.set⟩
      · have eb2 : ¬ b = dv := fun z => eb (decide_eq_true (by rw [z]))
        have est : stored dv b (.tup [k1, k2]) p ys = putE ys (.tup [k1, k2]) p (.bl b) := by
          unfold stored
          rw [if_neg eb2]
        refine ⟨_, rfl, _, rfl, _, rfl, c, p, ys, _, rfl, rfl, dc9, hk9.1, hk9.2, by omega, ?_⟩
        exact ⟨_, _, _, _, _, _, _, rfl, by rw [upd_ne (Ne.symm ca)]; exact ha9, kp_put k9' fc, F8.step hp k9 t9 og9 (by rw [est]; exact upd_same) Kp.set⟩
    · rintro σ H4 ⟨xs, ys, x4, u4, v5, v6, v7, rfl, ha4, k4, F4⟩
      refine ⟨_, rfl, _, rfl, _, rfl, by show 3 ≤ sizeLine; decide, fun t nt => ?_⟩
      have s5 := same_upd (o := .tup [V.ref g, V.ref c, V.bl dv]) nt
      exact q t g e c dv xs ys _ x4 u4 (k4.trans (Kp.same s5)) (s5 _ _ ha4) upd_same ((F4.same s5).le_ hm)
end
end K06
set_option Elab.async false
set_option linter.all false
set_option maxRecDepth 100000
set_option maxHeartbeats 2000000
namespace K06
open PySem PySem.Spec PyProof.Rows L2 CM DN GR
section
variable {P : Program} {w : World} {K : PySem.W.Frag} {mg : Str → Option Value} {base : Heap}
def spAgain (P : Program) (w : World) (C : Addr) : Sp := fun vs H Q _ => ∃ (c l : Addr) (dv : Bool) (ys : List Ent) (L : List V), vs = [.ref c, .bl dv, .ref l] ∧ Dct P w H c ys ∧ (ks ys).Nodup ∧ FV dv ys ∧ (∀ y ∈ ys, Plc H y.2.1 y.1) ∧ H l = some (.lst L) ∧
  (∀ v ∈ L, ∃ y ∈ ys, v = V.ref y.2.1) ∧ (∀ y ∈ ys, V.ref y.2.1 ∈ L) ∧ L.length ≤ 13 ∧ ys.length ≤ 13 ∧
  ∀ (g e : Addr) (zs : List Ent) (H' : Hp), Same H H' → H e = none → Og P w C H' g e dv zs → (∀ k, at_ zs k = at_ ys k) → Q (.ref g) H'
theorem ok_again {C f fG g0 : Addr} {fd fdG : FuncData} {k : Nat} (F : FnP K "_law_again" "_law_again" s_law_again f fd) (m_G : mg "Grid" = some (.ref C)) (M_G : Mk K C fG)
    (G_G : FnOk P w K mg base CX0 k fG fdG ["self", "default"] (spInit P w C)) (b_G : Binds K fdG ["self", "default"] []) (nq_C : PySem.W.noSeq K C = true) (O_set : OP.Own K C "__setitem__" g0) (G_set : FnR P w K mg base CX0 k g0 (spSet P w C)) :
    FnOk P w K mg base CX0 (k + 2) f fd ["_law_cells", "_law_default", "_law_places"] (spAgain P w C) := by
  refine F.ok sc_law_again (fun vs H Q E h => ?_) (fun cdv A outer s H vs Q E hr h => ?_)
  · obtain ⟨c, l, dv, ys, L, rfl, _⟩ := h
    rfl
  · obtain ⟨c, l, dv, ys, L, rfl, dc, nd, fv, pl, hl, hL1, hL2, lL, ly, q⟩ := h
    refine ⟨_, PSs.nox (pss_cons (ps_set (i := 3) sc_law_again.nd rfl (.inl rfl) (pe_make M_G G_G (hr.mono (by omega)) (by rfl) m_G b_G .nil pass0 (pa_cons (pv 1) pa_nil)))
    (pss_cons (ps_for PassesOwn.never rfl (pi_list (pe_op op_cat (pv 2) (pe_revL (pv 2)))) (pg_name (i := 4) sc_law_again.nd rfl (.inl rfl))
      (pss_cons (ps_asg (pe_not (pe_ix (DN.ix_dctN (u40 hr.units)) (pv 0) (pv 4) (fun _ _ => rfl))) (pg_sub (pv 3) (pv 4) (OP.set_own O_set nq_C G_set (hr.mono (by omega)) pass0)))
      (pss_one (ps_asg (pe_ix (DN.ix_dctN (u40 hr.units)) (pv 0) (pv 4) (fun _ _ => rfl)) (pg_sub (pv 3) (pv 4) (OP.set_own O_set nq_C G_set (hr.mono (by omega)) pass0))))))
    (pss_one (ps_ret (pv 3))))), ?_⟩
    refine ⟨_, rfl, fun g dx ng ndx _ => init_new (fl := true) (d := .bool dv) ng ndx ⟨dv, rfl, rfl⟩ fun H2 e s2 fe gd => ?_⟩
    have hl2 := s2 _ _ hl
    refine ⟨_, rfl, _, rfl, l, L, rfl, .inl (.inl hl2), fun l2 n2 => ?_⟩
    have s3 := same_upd (o := .lst L.reverse) n2
    refine ⟨l, l2, L, L.reverse, rfl, rfl, s3 _ _ hl2, upd_same, Nat.le_of_lt (small1000 (by rw [List.length_reverse]; omega)), fun l3 n3 => ?_⟩
    have s4 := same_upd (o := .lst (L ++ L.reverse)) n3
    have h3 := upd_same (H := upd H2 l2 (.lst L.reverse)) (a := l3) (o := .lst (L ++ L.reverse))
    have s5 := s2.trans (s3.trans s4)
    have gd := gd.same (s3.trans s4)
    generalize upd (upd H2 l2 (.lst L.reverse)) l3 (.lst (L ++ L.reverse)) = H5 at h3 s5 gd
    have ce : c ≠ e := ne_of_none dc.1 fe
    have e3 : e ≠ l3 := fun z => by
      have := gd.2.1
      rw [z, h3] at this
      exact dn_lst (Option.some.inj this).symm
    have hLL : ∀ v ∈ L ++ L.reverse, ∃ y ∈ ys, v = V.ref y.2.1 := fun v hv => by
      rcases List.mem_append.mp hv with hv | hv
      · exact hL1 v hv
      · exact hL1 v (List.mem_reverse.mp hv)
    refine ⟨l3, rfl, ⟨_, .inl (.inl h3)⟩, for_list (K := K) (a := l3) (xs := L ++ L.reverse) (fun j σ H' => ∃ (zs : List Ent) (v4 : Option V), σ = [some (.ref c), some (.bl dv), some (.ref l), some (.ref g), v4] ∧ Kp e H5 H' ∧ TP H5 H' ∧ Og P w C H' g e dv zs ∧ (∀ k, at_ zs k = none ∨ at_ zs k = at_ ys k) ∧
        ∀ i, i < j → ∀ y ∈ ys, (L ++ L.reverse)[i]? = some (V.ref y.2.1) → at_ zs y.1 = at_ ys y.1) ⟨[], none, rfl, fun _ _ _ z => z, fun _ _ z => z, ⟨gd, List.nodup_nil, fun x hx => by cases hx⟩, fun k => .inl rfl, fun i hi => absurd hi (Nat.not_lt_zero _)⟩
      (fun j σ H' _ ⟨_, _, _, kp, _⟩ => .inl (.inl (kp _ _ (Ne.symm e3) h3))) ?_ ?_⟩
    · rintro j x σ H6 hx ⟨zs, v4, rfl, k6, t6, og, hz, hp⟩
      obtain ⟨y, hy, rfl⟩ := hLL _ (List.mem_of_getElem? hx)
      have hat : at_ ys y.1 = some (.bl (!dv)) := by rw [at_mem_nd nd hy, fv y hy]
      have d6 : Dct P w H6 c ys := (dc.same s5).mono (k6 _ _ ce (s5 _ _ dc.1)) t6
      have p6 : Plc H6 y.2.1 y.1 := ((pl y hy).same (same_tup s5)).same t6
      have hk := p6.key
      have lz : zs.length ≤ 13 := Nat.le_trans (len_le og.nd fun k e => (hz k).elim id fun z => by rw [z, e]) ly
      obtain ⟨dx6, hg6⟩ := og.gd.1
      refine ⟨_, rfl, _, rfl, c, y.2.1, ys, y.1, _, rfl, rfl, d6, hk.1, hk.2, hat, _, rfl, _, rfl, _, rfl, g, dx6, _, rfl, hg6, set_flag og p6 (by omega) fun H7 k7 t7 og7 => ?_⟩
      have d7 : Dct P w H7 c ys := d6.mono (k7 _ _ ce d6.1) t7
      have p7 : Plc H7 y.2.1 y.1 := p6.same t7
      have hk7 := p7.key
      have l7 := stored_len (dv := dv) (k := y.1) (p := y.2.1) (xs := zs) (b := !(!dv))
      obtain ⟨dx7, hg7⟩ := og7.gd.1
      refine ⟨_, rfl, _, rfl, c, y.2.1, ys, y.1, _, rfl, rfl, d7, hk7.1, hk7.2, hat, _, rfl, _, rfl, g, dx7, _, rfl, hg7, set_flag og7 p7 (by omega) fun H8 k8 t8 og8 => ?_⟩
      have hall : ∀ k, at_ (stored dv (!dv) y.1 y.2.1 (stored dv (!(!dv)) y.1 y.2.1 zs)) k = if k = y.1 then some (.bl (!dv)) else at_ zs k := fun k => by
        rw [at_stored]
        by_cases e1 : k = y.1
        · rw [if_pos e1, if_pos e1, if_neg (by cases dv <;> decide)]
        · rw [if_neg e1, if_neg e1, at_stored, if_neg e1]
      refine ⟨_, _, rfl, (k6.trans k7).trans k8, (t6.trans t7).trans t8, og8, fun k => ?_, fun i hi y' hy' hi' => ?_⟩
      · rw [hall]
        by_cases e1 : k = y.1
        · rw [if_pos e1, e1, hat]
          exact .inr rfl
        · rw [if_neg e1]
          exact hz k
      · rw [hall]
        by_cases e1 : y'.1 = y.1
        · rw [if_pos e1, e1, hat]
        · rw [if_neg e1]
          refine hp i ?_ y' hy' hi'
          have hne : i ≠ j := fun z => by
            rw [z, hx] at hi'
            have ea : y.2.1 = y'.2.1 := V.ref.inj (Option.some.inj hi')
            have q1 := ((pl y hy).key).1
            have q2 := ((pl y' hy').key).1
            rw [ea] at q1
            exact e1 (q2.inj q1)
          omega
    · rintro σ H6 ⟨zs, v4, rfl, k6, t6, og, hz, hp⟩
      refine ⟨_, rfl, q g e zs H6 (fun b o eb => k6 _ _ (ne_of_none eb fe) (s5 _ _ eb)) fe og fun k => ?_⟩
      cases e1 : at_ ys k with
      | none =>
        rcases hz k with z | z
        · exact z
        · rw [z, e1]
      | some v =>
        obtain ⟨y, hy, rfl⟩ := List.mem_map.mp (at_isSome.mp (by rw [e1]; rfl) : k ∈ ks ys)
        obtain ⟨i, hi⟩ := List.getElem?_of_mem (List.mem_append_left L.reverse (hL2 y hy))
        rw [hp i (List.getElem?_eq_some_iff.mp hi).1 y hy hi, e1]
end
end K06
set_option Elab.async false
set_option linter.all false
set_option maxRecDepth 100000
set_option maxHeartbeats 2000000
namespace K06
open PySem PySem.Spec PyProof.Rows L2 CM DN GR
section
variable {P : Program} {w : World} {K : PySem.W.Frag} {mg : Str → Option Value} {base : Heap}
section
variable {C g e g2 e2 : Addr} {H : Hp}
theorem cmp_gd {dv dv2 : V} {xs ys : List Ent} {fl fl2 : Bool} {d d2 : PyData} {Q : VK} {E : XK} (ge : GEq K C) (h1 : Gd P w C H g dv e xs) (w1 : Wr H fl dv d) (h2 : Gd P w C H g2 dv2 e2 ys) (w2 : Wr H fl2 dv2 d2) (f : fl = fl2 → PyData.eqv d d2 = true → FlE xs ys)
    (q : Q (.bl (decide (fl = fl2) && (PyData.eqv d d2 && eqE xs ys))) H) : OP.rEqP P w K C (spGeq P w K C) E (.ref g) (.ref g2) H Q := by
  obtain ⟨dx, hg⟩ := h1.1
  obtain ⟨dx2, hg2⟩ := h2.1
  exact ⟨g, dx, _, .ref C, rfl, hg, .x (.base (.ins hg2 ge.ik.cl ge.ik.ca ge.ik.gs ge.ik.tk ge.ik.mr)), by simp [PySem.W.notFirst], g, e, dv, xs, fl, d, .ref g2, rfl, h1, w1, .inr ⟨g2, e2, dv2, ys, fl2, d2, rfl, h2, w2, f, _, rfl, q⟩⟩
theorem cmpn_gd {dv dv2 : V} {xs ys : List Ent} {fl fl2 : Bool} {d d2 : PyData} {Q : VK} {E : XK} (ge : GEq K C) (h1 : Gd P w C H g dv e xs) (w1 : Wr H fl dv d) (h2 : Gd P w C H g2 dv2 e2 ys) (w2 : Wr H fl2 dv2 d2) (f : fl = fl2 → PyData.eqv d d2 = true → FlE xs ys)
    (q : Q (.bl (!(decide (fl = fl2) && (PyData.eqv d d2 && eqE xs ys)))) H) : OP.rNeP P w K C (spGeq P w K C) E (.ref g) (.ref g2) H Q := by
  obtain ⟨dx, hg⟩ := h1.1
  obtain ⟨dx2, hg2⟩ := h2.1
  exact ⟨g, dx, _, .ref C, rfl, hg, .x (.base (.ins hg2 ge.ik.cl ge.ik.ca ge.ik.gs ge.ik.tk ge.ik.mr)), by simp [PySem.W.notFirst], g, e, dv, xs, fl, d, .ref g2, rfl, h1, w1, .inr ⟨g2, e2, dv2, ys, fl2, d2, rfl, h2, w2, f, _, rfl, q⟩⟩
theorem cmp_b {dv dv2 : V} {xs ys : List Ent} {fl fl2 : Bool} {d d2 : PyData} {Q : VK} {E : XK} {b : Bool} (ge : GEq K C) (h1 : Gd P w C H g dv e xs) (w1 : Wr H fl dv d) (h2 : Gd P w C H g2 dv2 e2 ys) (w2 : Wr H fl2 dv2 d2) (f : fl = fl2 → PyData.eqv d d2 = true → FlE xs ys)
    (hb : (decide (fl = fl2) && (PyData.eqv d d2 && eqE xs ys)) = b) (q : Q (.bl b) H) : OP.rEqP P w K C (spGeq P w K C) E (.ref g) (.ref g2) H Q := cmp_gd ge h1 w1 h2 w2 f (by rw [hb]; exact q)
theorem cmpn_b {dv dv2 : V} {xs ys : List Ent} {fl fl2 : Bool} {d d2 : PyData} {Q : VK} {E : XK} {b : Bool} (ge : GEq K C) (h1 : Gd P w C H g dv e xs) (w1 : Wr H fl dv d) (h2 : Gd P w C H g2 dv2 e2 ys) (w2 : Wr H fl2 dv2 d2) (f : fl = fl2 → PyData.eqv d d2 = true → FlE xs ys)
    (hb : (decide (fl = fl2) && (PyData.eqv d d2 && eqE xs ys)) = b) (q : Q (.bl (!b)) H) : OP.rNeP P w K C (spGeq P w K C) E (.ref g) (.ref g2) H Q := cmpn_gd ge h1 w1 h2 w2 f (by rw [hb]; exact q)
theorem Gd.keep {dv : V} {xs : List Ent} {H' : Hp} {a : Addr} (h : Gd P w C H g dv e xs) (k : Kp a H H') (t : TP H H') (n1 : g ≠ a) (n2 : e ≠ a) : Gd P w C H' g dv e xs := by
  obtain ⟨⟨dx, h1⟩, h2⟩ := h
  exact ⟨⟨dx, k _ _ n1 h1⟩, h2.mono (k _ _ n2 h2.1) t⟩
theorem Gd.put {dv v : V} {xs : List Ent} {k : NK} {p : Addr} (h : Gd P w C H g dv e xs) (n : g ≠ e) (hk : KeyV H k (.ref p)) (hd : k.depth ≤ 8) : Gd P w C (upd H e (dn P w e (putE xs k p v))) g dv e (putE xs k p v) := by
  obtain ⟨⟨dx, h1⟩, h2⟩ := h
  exact ⟨⟨dx, by rw [upd_ne n]; exact h1⟩, dct_put h2 hk hd⟩
theorem Gd.ge {dv : V} {xs : List Ent} (h : Gd P w C H g dv e xs) : g ≠ e := fun z => by
  obtain ⟨⟨dx, h1⟩, h2⟩ := h
  rw [z, h2.1] at h1
  exact dn_ins (Option.some.inj h1)
theorem Og.wr {dv : Bool} {xs : List Ent} (_ : Og P w C H g e dv xs) : Wr H true (.bl dv) (.bool dv) := ⟨dv, rfl, rfl⟩
theorem Og.flE {dv dv2 : Bool} {xs ys : List Ent} (h1 : Og P w C H g e dv xs) (h2 : Og P w C H g2 e2 dv2 ys) (z : PyData.eqv (.bool dv) (.bool dv2) = true) : FlE xs ys := by
  rw [eqv_bb] at z
  have e3 : dv = dv2 := by simpa using z
  subst e3
  exact h1.fv.flE h2.fv
theorem cmp_og {dv dv2 : Bool} {xs ys : List Ent} {Q : VK} {E : XK} {b : Bool} (ge : GEq K C) (h1 : Og P w C H g e dv xs) (h2 : Og P w C H g2 e2 dv2 ys) (hb : (dv == dv2 && eqE xs ys) = b) (q : Q (.bl b) H) : OP.rEqP P w K C (spGeq P w K C) E (.ref g) (.ref g2) H Q :=
  cmp_gd ge h1.gd h1.wr h2.gd h2.wr (fun _ z => h1.flE h2 z) (by rw [decide_eq_true rfl, eqv_bb, Bool.true_and, hb]; exact q)
theorem cmpn_og {dv dv2 : Bool} {xs ys : List Ent} {Q : VK} {E : XK} {b : Bool} (ge : GEq K C) (h1 : Og P w C H g e dv xs) (h2 : Og P w C H g2 e2 dv2 ys) (hb : (dv == dv2 && eqE xs ys) = b) (q : Q (.bl (!b)) H) : OP.rNeP P w K C (spGeq P w K C) E (.ref g) (.ref g2) H Q :=
  cmpn_gd ge h1.gd h1.wr h2.gd h2.wr (fun _ z => h1.flE h2 z) (by rw [decide_eq_true rfl, eqv_bb, Bool.true_and, hb]; exact q)
end
theorem flip_at {dv : Bool} {zs : List Ent} {k : NK} {p : Addr} (fv : FV dv zs) : (∀ j, at_ (stored dv (!(xor dv (at_ zs k).isSome)) k p zs) j = if j = k then (if (at_ zs k).isSome then none else some (.bl (!dv))) else at_ zs j) ∧ (stored dv (!(xor dv (at_ zs k).isSome)) k p zs).length ≠ zs.length := by
  cases e : at_ zs k with
  | none =>
    have eb : (!(xor dv (Option.isSome (none : Option V)))) = !dv := by cases dv <;> rfl
    have nb : ¬ (!dv) = dv := by cases dv <;> decide
    rw [eb]
    refine ⟨fun j => ?_, ?_⟩
    · rw [at_stored, if_neg nb]
      rfl
    · unfold stored
      rw [if_neg nb, len_put_new e]
      omega
  | some u =>
    have eb : (!(xor dv (Option.isSome (some u)))) = dv := by cases dv <;> rfl
    rw [eb]
    refine ⟨fun j => ?_, ?_⟩
    · rw [at_stored, if_pos rfl]
      rfl
    · unfold stored
      rw [if_pos rfl, e, if_pos (by simp)]
      exact Nat.ne_of_lt (len_drop_lt e)
theorem flip_back {dv : Bool} {zs z1 : List Ent} {k : NK} {p : Addr} (fv : FV dv zs) (f1 : FV dv z1) (h : ∀ j, at_ z1 j = if j = k then (if (at_ zs k).isSome then none else some (.bl (!dv))) else at_ zs j) (j : NK) :
    at_ (stored dv (!(xor dv (at_ z1 k).isSome)) k p z1) j = at_ zs j := by
  rw [(flip_at f1).1, h k, if_pos rfl]
  by_cases e : j = k
  · rw [if_pos e, e]
    cases q : at_ zs k with
    | none => simp
    | some u => simp [fv.at_ q]
  · rw [if_neg e, h j, if_neg e]
def spRight : Sp := fun vs H Q _ => ∃ (a : Addr) (x u : Int), vs = [.ref a] ∧ H a = some (.lst [.int x, .int u]) ∧ ∀ H', Kp a H H' → Q (.bl true) H'
theorem ok_right {C f fG g0 g1 g3 : Addr} {fd fdG : FuncData} {k : Nat} (F : FnP K "_law_right" "_law_right" s_law_right f fd) (m_list : mg "list" = none) (m_G : mg "Grid" = some (.ref C)) (M_G : Mk K C fG) (ge : GEq K C)
    (G_G : FnOk P w K mg base CX0 k fG fdG ["self", "default"] (spInit P w C)) (b_G : Binds K fdG ["self", "default"] []) (nq_C : PySem.W.noSeq K C = true) (O_set : OP.Own K C "__setitem__" g0) (G_set : FnR P w K mg base CX0 k g0 (spSet P w C))
    (O_get : OP.Own K C "__getitem__" g1) (G_get : FnR P w K mg base CX0 k g1 (spGet P w C)) (O_eq : OP.Own K C "__eq__" g3) (G_eq : FnR P w K mg base CX0 k g3 (spGeq P w K C)) (N_C : OP.OwnNe K C)
    (C_draw : Cal P w K mg base CX0 "_law_draw" k ["_law_well_here", "_law_many"] spDraw) (C_marks : Cal P w K mg base CX0 "_law_marks" k ["_law_well_here"] spMarks)
    (C_grid : Cal P w K mg base CX0 "_law_grid" k ["_law_well_here", "_law_many"] (spLGrid P w C)) (C_again : Cal P w K mg base CX0 "_law_again" k ["_law_cells", "_law_default", "_law_places"] (spAgain P w C)) :
    FnOk P w K mg base CX0 (k + 2) f fd ["_law_well_here"] spRight := by
  obtain ⟨f_law_draw, fd_law_draw, G_law_draw, b_law_draw, m_law_draw, k_law_draw⟩ := C_draw
  obtain ⟨f_law_marks, fd_law_marks, G_law_marks, b_law_marks, m_law_marks, k_law_marks⟩ := C_marks
  obtain ⟨f_law_grid, fd_law_grid, G_law_grid, b_law_grid, m_law_grid, k_law_grid⟩ := C_grid
  obtain ⟨f_law_again, fd_law_again, G_law_again, b_law_again, m_law_again, k_law_again⟩ := C_again
  refine F.ok sc_law_right (fun vs H Q E h => ?_) (fun cdv A outer s H vs Q E hr h => ?_)
  · obtain ⟨a, x, u, rfl, _⟩ := h
    rfl
  · obtain ⟨a, x, u, rfl, ha, q⟩ := h
    refine ⟨_, PSs.nox (pss_cons (ps_asg (pe_call G_law_grid (hr.mono (by omega)) (by rfl) m_law_grid k_law_grid b_law_grid .nil pass0 (pa_cons (pv 0) (pa_cons (pe_call G_law_draw (hr.mono (by omega)) (by rfl) m_law_draw k_law_draw b_law_draw .nil pass0 (pa_cons (pv 0) (pa_cons pe_int pa_nil))) pa_nil))) (pg_tup rfl (pgs_cons (pg_name (i := 1) sc_law_right.nd rfl (.inr rfl)) (pgs_cons (pg_name (i := 2) sc_law_right.nd rfl (.inl rfl)) (pgs_cons (pg_name (i := 3) sc_law_right.nd rfl (.inl rfl)) (pgs_nil))))))
    (pss_cons (ps_set (i := 4) sc_law_right.nd rfl (.inl rfl) (pe_call G_law_again (hr.mono (by omega)) (by rfl) m_law_again k_law_again b_law_again .nil pass0 (pa_cons (pv 2) (pa_cons (pv 3) (pa_cons (pe_revL (pe_callTy (DN.cr_listN rfl) (by rfl) m_list (by decide +kernel) (pa_cons (pv 2) pa_nil))) pa_nil)))))
    (pss_cons (ps_if (PW.pt (pw_or (pt_not (pt_cmpR (OP.op_eqO (P := P) (w := w) O_eq G_eq (hr.mono (by omega)) pass0) (pv 1) (pv 4) (nomark _))) (pw_or (pt_cmpR (OP.op_neO (P := P) (w := w) O_eq N_C G_eq (hr.mono (by omega)) pass0) (pv 1) (pv 4) (nomark _)) (pw_or1 (pt_not (pt_cmpR (OP.op_eqO (P := P) (w := w) O_eq G_eq (hr.mono (by omega)) pass0) (pv 4) (pv 1) (nomark _))))))) (pss_one (ps_ret pe_bl)) (pss_nil))
    (pss_cons (ps_set (i := 5) sc_law_right.nd rfl (.inl rfl) (pe_tup (pa_cons (pe_call G_law_marks (hr.mono (by omega)) (by rfl) m_law_marks k_law_marks b_law_marks .nil pass0 (pa_cons (pv 0) pa_nil)) (pa_cons (pe_call G_law_marks (hr.mono (by omega)) (by rfl) m_law_marks k_law_marks b_law_marks .nil pass0 (pa_cons (pv 0) pa_nil)) pa_nil))))
    (pss_cons (ps_asg (pe_not (OP.pe_ixO O_get G_get (hr.mono (by omega)) pass0 (pv 4) (pv 5))) (pg_sub (pv 4) (pv 5) (OP.set_own O_set nq_C G_set (hr.mono (by omega)) pass0)))
    (pss_cons (ps_if (PW.pt (pw_or (pt_cmpR (OP.op_eqO (P := P) (w := w) O_eq G_eq (hr.mono (by omega)) pass0) (pv 1) (pv 4) (nomark _)) (pw_or (pt_cmpR (OP.op_eqO (P := P) (w := w) O_eq G_eq (hr.mono (by omega)) pass0) (pv 4) (pv 1) (nomark _)) (pw_or1 (pt_cmpR (OP.op_eqO (P := P) (w := w) O_eq G_eq (hr.mono (by omega)) pass0) (pv 1) (pe_make M_G G_G (hr.mono (by omega)) (by rfl) m_G b_G .nil pass0 (pa_cons (pe_not (pv 3)) pa_nil)) (nomark _)))))) (pss_one (ps_ret pe_bl)) (pss_nil))
    (pss_cons (ps_asg (pe_not (OP.pe_ixO O_get G_get (hr.mono (by omega)) pass0 (pv 4) (pv 5))) (pg_sub (pv 4) (pv 5) (OP.set_own O_set nq_C G_set (hr.mono (by omega)) pass0)))
    (pss_cons (ps_if (pt_not (pt_cmpR (OP.op_eqO (P := P) (w := w) O_eq G_eq (hr.mono (by omega)) pass0) (pv 1) (pv 4) (nomark _))) (pss_one (ps_ret pe_bl)) (pss_nil))
    (pss_one (ps_ret (pe_cmpR (WD.op_eqNilL hr.units) (pe_lc (own := [("_law_thing", 6)]) rfl sc_law_right.nd (pi_list (pe_lst (pa_cons pe_non (pa_cons pe_int (pa_cons pe_bl (pa_cons pe_bl (pa_cons pe_dnewK (pa_cons (pv 2) (pa_cons (pe_lst (pa_nil)) (pa_cons pe_str (pa_cons (pe_tup (pa_cons (pv 1) pa_nil)) pa_nil))))))))))) (blkOk_by (N := n_law_right) (sc := defScope s_law_right) (by decide +kernel)) (fun _ _ _ _ _ => pg_name (i := 6) sc_law_right.nd rfl (.inl rfl)) (fun _ _ _ _ _ => pts_one (pt_cmpR (OP.op_eqOK (P := P) (w := w) (K := K) O_eq G_eq (hr.mono (by omega)) pass0) (pv 1) (pv 6) (nomark _))) (fun _ _ _ _ _ => (pv 6))) (pe_lst (pa_nil)) (nomark _)))))))))))), ?_⟩
    refine ⟨_, rfl, _, rfl, a, x, u, 13, rfl, ha, by decide, .of (k := 4) (by decide) (by decide), fun r x1 u1 r0 r1 => ?_⟩
    obtain ⟨m, rfl⟩ := Int.eq_ofNat_of_zero_le r0
    have k1 : Kp a H (upd H a (.lst [.int x1, .int u1])) := Kp.set
    refine ⟨a, x1, u1, m, rfl, upd_same, by omega, fun t g e c dv xs ys H2 x2 u2 k2 ha2 ht F2 => ?_⟩
    have k2 := k1.trans k2
    refine ⟨t, [V.ref g, V.ref c, V.bl dv], rfl, .inl (.inl ht), rfl, _, _, rfl, _, _, rfl, _, _, rfl, rfl, ?_⟩
    have hyl : ys.length ≤ 13 := by
      rw [← len_kv F2.kv]
      exact F2.le
    have nd2 : (ks ys).Nodup := by
      rw [← ks_kv F2.kv]
      exact F2.og.nd
    -- the same set again
    refine ⟨_, rfl, _, rfl, _, rfl, c, ys, rfl, F2.dc, fun p3 n3 => ?_⟩
    have s3 := same_upd (o := .lst (keyRefs ys)) n3
    refine ⟨p3, keyRefs ys, rfl, .inl (.inl upd_same), fun l4 n4 => ?_⟩
    have s4 := same_upd (o := .lst (keyRefs ys).reverse) n4
    have F4 := F2.same (s3.trans s4)
    have h4 := upd_same (H := upd H2 p3 (.lst (keyRefs ys))) (a := l4) (o := .lst (keyRefs ys).reverse)
    have ha4 := (s3.trans s4) _ _ ha2
    have k4 := k2.trans (Kp.same (s3.trans s4))
    generalize upd (upd H2 p3 (.lst (keyRefs ys))) l4 (.lst (keyRefs ys).reverse) = H4 at F4 h4 ha4 k4
    have kl : (keyRefs ys).length = ys.length := List.length_map ..
    refine ⟨c, l4, dv, ys, _, rfl, F4.dc, nd2, F4.og.fv.kv F4.kv, F4.pl, h4, fun v hv => ?_, fun y hy => ?_, by rw [List.length_reverse, kl]; exact hyl, hyl, fun g2 e2 zs H5 s5 fe2 og2 hz => ?_⟩
    · obtain ⟨y, hy, rfl⟩ := List.mem_map.mp (List.mem_reverse.mp hv)
      exact ⟨y, hy, rfl⟩
    · exact List.mem_reverse.mpr (List.mem_map.mpr ⟨y, hy, rfl⟩)
    have F5 := F4.same s5
    have ha5 := s5 _ _ ha4
    have k5 := k4.trans (Kp.same s5)
    have ee : e ≠ e2 := ne_of_none F4.og.gd.2.1 fe2
    have fe : H e2 = none := by
      cases q1 : H e2 with
      | none => rfl
      | some o =>
        by_cases z : e2 = a
        · rw [z, ha4] at fe2
          cases fe2
        · rw [k4 _ _ z q1] at fe2
          cases fe2
    have ge2 : g ≠ e2 := by
      obtain ⟨dx, hg⟩ := F4.og.gd.1
      exact ne_of_none hg fe2
    have ce2 : c ≠ e2 := ne_of_none F4.dc.1 fe2
    have hxz : ∀ k, at_ xs k = at_ zs k := fun k => by rw [at_congr F5.kv, hz]
    have lxz := len_eq F5.og.nd og2.nd hxz
    have e12 : eqE xs zs = true := eqE_true F5.og.nd og2.nd hxz F5.og.fv.fl
    have e21 : eqE zs xs = true := eqE_true og2.nd F5.og.nd (fun k => (hxz k).symm) og2.fv.fl
    refine ⟨_, rfl, _, rfl, cmp_og ge F5.og og2 (b := true) (by rw [e12]; cases dv <;> rfl) ⟨true, rfl, iteF ?_⟩⟩
    refine ⟨_, rfl, _, rfl, cmpn_og ge F5.og og2 (b := true) (by rw [e12]; cases dv <;> rfl) ⟨false, rfl, iteF ?_⟩⟩
    refine ⟨_, rfl, _, rfl, cmp_og ge og2 F5.og (b := true) (by rw [e21]; cases dv <;> rfl) ⟨true, rfl, iteF ?_⟩⟩
    -- one place is changed
    refine ⟨_, rfl, a, x2, u2, rfl, ha5, fun v1 k1 H6 x6 u6 kp6 ha6 p1 => ?_⟩
    refine ⟨_, rfl, a, x6, u6, rfl, ha6, fun v2 kk2 H7 x7 u7 kp7 ha7 p2 => ⟨by show 2 ≤ sizeLine; decide, fun p np => ?_⟩⟩
    have F7 := (F5.kp ha5 kp6).kp ha6 kp7
    have og7 := (og2.kp ha5 kp6).kp ha6 kp7
    have k7 := (k5.trans kp6).trans kp7
    obtain ⟨s8, hp⟩ := plc_new np (p1.same (kp_tup ha6 kp7)) p2
    have F8 := F7.same s8
    have og8 := og7.same s8
    have k8 := k7.trans (Kp.same s8)
    have ha8 := s8 _ _ ha7
    generalize NestedKey.tup [k1, kk2] = k at hp
    generalize upd H7 p (.tup [v1, v2]) = H8 at hp F8 og8 k8 ha8
    clear s8 k7 F7 og7 kp7 ha7 kp6 ha6 k5 F5 ha5 k4 F4 h4 ha4 k2 F2 k1 p1 p2
    have lz : zs.length ≤ 13 := by
      rw [← lxz]
      exact F8.le
    obtain ⟨dx8, hg8⟩ := og8.gd.1
    refine ⟨_, rfl, _, rfl, g2, dx8, _, rfl, hg8, g2, p, e2, k, .bl dv, zs, rfl, og8.gd, hp, _, og8.fv.getD k, ?_⟩
    refine ⟨_, rfl, _, rfl, g2, dx8, _, rfl, hg8, set_flag og8 hp (by omega) fun H9 k9 t9 og9 => ?_⟩
    have a2 : e2 ≠ a := (og8.ne_lst ha8).2
    have ha9 := kp_lst k9 a2 ha8
    have kH9 := kp_kp k8 fe k9
    have og1 : Og P w C H9 g e dv xs := F8.og.keep (S := [e2]) (Kps.kp k9 (List.mem_singleton.mpr rfl)) t9 (fun z => ge2 (List.mem_singleton.mp z)) (fun z => ee (List.mem_singleton.mp z))
    have dc9 : Dct P w H9 c ys := F8.dc.mono (k9 _ _ ce2 F8.dc.1) t9
    have hp9 := hp.same t9
    obtain ⟨f1, f2⟩ := flip_at (k := k) (p := p) og8.fv
    have l9 := stored_len (dv := dv) (k := k) (p := p) (xs := zs) (b := !(xor dv (at_ zs k).isSome))
    have fvz := og8.fv
    clear F8 og8 hg8 ha8 hp t9 k9 k8
    generalize stored dv (!(xor dv (at_ zs k).isSome)) k p zs = z1 at og9 f1 f2 l9
    have n1 : xs.length ≠ z1.length := fun z => f2 (by rw [← z, lxz])
    refine ⟨_, rfl, _, rfl, cmp_og ge og1 og9 (b := false) (by rw [eqE_len n1, Bool.and_false]) ⟨false, rfl, iteF ?_⟩⟩
    refine ⟨_, rfl, _, rfl, cmp_og ge og9 og1 (b := false) (by rw [eqE_len (Ne.symm n1), Bool.and_false]) ⟨false, rfl, iteF ?_⟩⟩
    refine ⟨_, rfl, _, rfl, dv, rfl, fun g5 dx5 ng5 ndx5 _ => init_new (fl := true) (d := .bool (!dv)) ng5 ndx5 ⟨!dv, rfl, rfl⟩ fun H10 e5 s10 fe5 gd5 => ?_⟩
    refine cmp_og ge (og1.same s10) ⟨gd5, List.nodup_nil, fun x hx => by cases hx⟩ (b := false) (by cases dv <;> rfl) ⟨false, rfl, iteF ?_⟩
    have og1 := og1.same s10
    have og9 := og9.same s10
    have dc9 := dc9.same s10
    have hp9 := hp9.same (same_tup s10)
    have kH := kH9.trans (Kp.same s10)
    have ha9 := s10 _ _ ha9
    clear kH9 gd5 fe5 s10 ng5 ndx5
    obtain ⟨dx9, hg9⟩ := og9.gd.1
    -- and changed back
    refine ⟨_, rfl, _, rfl, g2, dx9, _, rfl, hg9, g2, p, e2, k, .bl dv, z1, rfl, og9.gd, hp9, _, og9.fv.getD k, ?_⟩
    refine ⟨_, rfl, _, rfl, g2, dx9, _, rfl, hg9, set_flag og9 hp9 (by omega) fun H11 k11 t11 og11 => ?_⟩
    have ha11 := kp_lst k11 a2 ha9
    have kH := kp_kp kH fe k11
    have og1 : Og P w C H11 g e dv xs := og1.keep (S := [e2]) (Kps.kp k11 (List.mem_singleton.mpr rfl)) t11 (fun z => ge2 (List.mem_singleton.mp z)) (fun z => ee (List.mem_singleton.mp z))
    have dc11 : Dct P w H11 c ys := dc9.mono (k11 _ _ ce2 dc9.1) t11
    have hb := flip_back (p := p) fvz og9.fv f1
    clear og9 hg9 hp9 k11 t11 dc9 ha9
    refine ⟨_, rfl, _, rfl, cmp_og ge og1 og11 (b := true) (by rw [eqE_true og1.nd og11.nd (fun j => by rw [hb, hxz]) og1.fv.fl]; cases dv <;> rfl) ⟨true, rfl, iteF ?_⟩⟩
    -- no other object
    refine fun d1 m1 => ⟨_, rfl, by show 0 ≤ sizeLine; decide, fun l2 m2 => ⟨_, rfl, by show 1 ≤ sizeLine; decide, fun t3 m3 => ⟨by show 9 ≤ sizeLine; decide, fun l nl => ?_⟩⟩⟩
    have y1 := same_upd (o := .dK []) m1
    have y2 := same_upd (o := .lst []) m2
    have y3 := same_upd (o := .tup [V.ref g]) m3
    have y4 := same_upd (o := .lst [V.non, V.int 0, V.bl false, V.bl true, V.ref d1, V.ref c, V.ref l2, V.str "grid", V.ref t3]) nl
    have h1 := (y2.trans (y3.trans y4)) _ _ (upd_same (H := H11) (a := d1) (o := .dK []))
    have h2 := (y3.trans y4) _ _ (upd_same (H := upd H11 d1 (.dK [])) (a := l2) (o := .lst []))
    have h3 := y4 _ _ (upd_same (H := upd (upd H11 d1 (.dK [])) l2 (.lst [])) (a := t3) (o := .tup [V.ref g]))
    have h4 := upd_same (H := upd (upd (upd H11 d1 (.dK [])) l2 (.lst [])) t3 (.tup [V.ref g])) (a := l) (o := .lst [V.non, V.int 0, V.bl false, V.bl true, V.ref d1, V.ref c, V.ref l2, V.str "grid", V.ref t3])
    have sB := y1.trans (y2.trans (y3.trans y4))
    generalize upd (upd (upd (upd H11 d1 (.dK [])) l2 (.lst [])) t3 (.tup [V.ref g])) l (.lst [V.non, V.int 0, V.bl false, V.bl true, V.ref d1, V.ref c, V.ref l2, V.str "grid", V.ref t3]) = HB at h1 h2 h3 h4 sB
    clear y1 y2 y3 y4
    refine ⟨l, rfl, ⟨_, .inl (.inl h4)⟩, fun D nD => ?_⟩
    refine lc_list (K := K) (a := l) (xs := [V.non, V.int 0, V.bl false, V.bl true, V.ref d1, V.ref c, V.ref l2, V.str "grid", V.ref t3]) (fun i H' => Same HB H' ∧ H' D = some (.lst [])) ⟨same_upd nD, upd_same⟩ (fun i H' _ ⟨sm, _⟩ => .inl (.inl (sm _ _ h4))) ?_ ?_
    · rintro i x H' hi ⟨sm, hD⟩
      have og := og1.same (sB.trans sm)
      obtain ⟨dx', hg'⟩ := og.gd.1
      have np : ∃ T ∈ ["bool", "NoneType", "int", "str", "tuple", "list", "dict"], OP.TyN P w K H' x (.type T) := by
        have := List.mem_of_getElem? hi
        simp only [List.mem_cons, List.not_mem_nil, or_false] at this
        rcases this with rfl | rfl | rfl | rfl | rfl | rfl | rfl | rfl | rfl
        · exact ⟨"NoneType", by decide, .x (.base .non)⟩
        · exact ⟨"int", by decide, .x (.base (.int _))⟩
        · exact ⟨"bool", by decide, .x (.base (.bl _))⟩
        · exact ⟨"bool", by decide, .x (.base (.bl _))⟩
        · exact ⟨"dict", by decide, .x (.base (.dK (sm _ _ h1)))⟩
        · exact ⟨"dict", by decide, .dct (dc11.same (sB.trans sm))⟩
        · exact ⟨"list", by decide, .x (.base (.lst (sm _ _ h2)))⟩
        · exact ⟨"str", by decide, .x (.base (.str _))⟩
        · exact ⟨"tuple", by decide, .x (.base (.tup (sm _ _ h3)))⟩
      obtain ⟨T, hT, ty⟩ := np
      exact ⟨rfl, _, rfl, _, rfl, g, dx', _, _, rfl, hg', ty, (ge.kt T hT).2, g, e, .bl dv, xs, true, .bool dv, x, rfl, og.gd, og.wr, .inl ⟨_, ty, (ge.kt T hT).1, _, rfl, _, rfl, iteF ⟨sm, hD⟩⟩⟩
    · rintro H' ⟨sm, hD⟩
      refine ⟨by show 0 ≤ sizeLine; decide, fun z nz => ⟨D, z, [], rfl, rfl, .inl (.inl (same_upd nz _ _ hD)), .inl (.inl upd_same), ?_⟩⟩
      exact q _ (kH.trans (Kp.same ((sB.trans sm).trans (same_upd nz))))
end
end K06
set_option Elab.async false
set_option linter.all false
set_option maxRecDepth 100000
set_option maxHeartbeats 2000000
namespace K06
open PySem PySem.Spec PyProof.Rows L2 CM DN GR
section
variable {P : Program} {w : World} {K : PySem.W.Frag} {mg : Str → Option Value} {base : Heap}
def spLaw (K : PySem.W.Frag) : Sp := fun vs H Q _ => ∃ (a : Addr) (ns : List Int), vs = [.ref a] ∧ SqL K H a (ns.map V.int) ∧ ns.length ≤ 63 ∧ ∀ H', Q (.bl true) H'
theorem ok_law {C f fG g0 g3 : Addr} {fd fdG : FuncData} {k : Nat} {ds0 : List Value} (F : FnP K "law" "law" s_law f fd) (m_G : mg "Grid" = some (.ref C)) (M_G : Mk K C fG) (ge : GEq K C)
    (G_G : FnOk P w K mg base CX0 k fG fdG ["self", "default"] (spInit P w C)) (b_G : Binds K fdG ["self", "default"] []) (b_G0 : Binds K fdG ["self", "default"] ds0) (r_G0 : Vals [V.bl false] ds0)
    (nq_C : PySem.W.noSeq K C = true) (O_set : OP.Own K C "__setitem__" g0) (G_set : FnR P w K mg base CX0 k g0 (spSet P w C)) (O_eq : OP.Own K C "__eq__" g3) (G_eq : FnR P w K mg base CX0 k g3 (spGeq P w K C)) (N_C : OP.OwnNe K C)
    (C_well : Cal P w K mg base CX0 "_law_well" k ["_law_cell"] spWell) (C_right : Cal P w K mg base CX0 "_law_right" k ["_law_well_here"] spRight) :
    FnOk P w K mg base CX0 (k + 2) f fd ["_law_script"] (spLaw K) := by
  obtain ⟨f_law_well, fd_law_well, G_law_well, b_law_well, m_law_well, k_law_well⟩ := C_well
  obtain ⟨f_law_right, fd_law_right, G_law_right, b_law_right, m_law_right, k_law_right⟩ := C_right
  refine F.ok sc_law (fun vs H Q E h => ?_) (fun cdv A outer s H vs Q E hr h => ?_)
  · obtain ⟨a, ns, rfl, _⟩ := h
    rfl
  · obtain ⟨a, ns, rfl, hS, hlen, q⟩ := h
    refine ⟨_, PSs.nox (pss_cons (ps_for PassesOwn.never rfl (pi_list (pe_op op_cat (pe_slice sl_list (pv 0) po_none (po_some pe_int)) (pe_lst (pa_cons pe_int pa_nil)))) (pg_name (i := 1) sc_law.nd rfl (.inl rfl))
      (pss_one (ps_if (pt_not (pt_val (pe_call G_law_right (hr.mono (by omega)) (by rfl) m_law_right k_law_right b_law_right .nil pass0 (pa_cons (pe_call G_law_well (hr.mono (by omega)) (by rfl) m_law_well k_law_well b_law_well .nil pass0 (pa_cons (pv 1) pa_nil)) pa_nil)))) (pss_one (ps_ret pe_bl)) (pss_nil))))
    (pss_cons (ps_par3 (i := 2) (j := 3) (l := 4) rfl sc_law.nd rfl rfl rfl (by decide) (by decide) (by decide) rfl rfl rfl (pa_cons (pe_make M_G G_G (hr.mono (by omega)) (by rfl) m_G b_G .nil pass0 (pa_cons pe_non pa_nil)) (pa_cons (pe_make M_G G_G (hr.mono (by omega)) (by rfl) m_G b_G .nil pass0 (pa_cons pe_non pa_nil)) (pa_cons (pe_make M_G G_G (hr.mono (by omega)) (by rfl) m_G b_G .nil pass0 (pa_cons pe_int pa_nil)) pa_nil))) (by rfl))
    (pss_cons (ps_asg pe_str (pg_sub (pv 2) (pe_tup (pa_cons pe_str (pa_cons pe_str pa_nil))) (OP.set_own O_set nq_C G_set (hr.mono (by omega)) pass0)))
    (pss_cons (ps_if (PW.pt (pw_or (pt_cmpR (OP.op_eqO (P := P) (w := w) O_eq G_eq (hr.mono (by omega)) pass0) (pv 2) (pv 3) (nomark _)) (pw_or (pt_cmpR (OP.op_eqO (P := P) (w := w) O_eq G_eq (hr.mono (by omega)) pass0) (pv 4) (pe_make M_G G_G (hr.mono (by omega)) (by rfl) m_G b_G .nil pass0 (pa_cons pe_bl pa_nil)) (nomark _)) (pw_or (pt_cmpR (OP.op_neO (P := P) (w := w) O_eq N_C G_eq (hr.mono (by omega)) pass0) (pv 4) (pe_make M_G G_G (hr.mono (by omega)) (by rfl) m_G b_G .nil pass0 (pa_cons pe_int pa_nil)) (nomark _)) (pw_or (pt_cmpR (OP.op_eqO (P := P) (w := w) O_eq G_eq (hr.mono (by omega)) pass0) (pe_make M_G G_G (hr.mono (by omega)) (by rfl) m_G b_G .nil pass0 (pa_cons pe_int pa_nil)) (pe_make M_G G_G (hr.mono (by omega)) (by rfl) m_G b_G .nil pass0 (pa_cons pe_bl pa_nil)) (nomark _)) (pw_or1 (pt_cmpR (OP.op_eqO (P := P) (w := w) O_eq G_eq (hr.mono (by omega)) pass0) (pv 2) (pv 4) (nomark _)))))))) (pss_one (ps_ret pe_bl)) (pss_nil))
    (pss_cons (ps_asg pe_str (pg_sub (pv 3) (pe_tup (pa_cons pe_str (pa_cons pe_str pa_nil))) (OP.set_own O_set nq_C G_set (hr.mono (by omega)) pass0)))
    (pss_one (ps_ret (pe_and (pe_cmpR (OP.op_eqO (P := P) (w := w) O_eq G_eq (hr.mono (by omega)) pass0) (pv 2) (pv 3) (nomark _)) (pe_one (pe_cmpR (OP.op_eqO (P := P) (w := w) O_eq G_eq (hr.mono (by omega)) pass0) (pe_make0 M_G G_G (hr.mono (by omega)) (by rfl) m_G b_G0 r_G0 pass0) (pe_make M_G G_G (hr.mono (by omega)) (by rfl) m_G b_G .nil pass0 (pa_cons pe_bl pa_nil)) (nomark _))))))))))), ?_⟩
    refine ⟨_, rfl, 6, rfl, a, _, rfl, hS, fun c nc => ⟨by show 1 ≤ sizeLine; decide, fun d nd => ?_⟩⟩
    have hc : (upd (upd H c (.lst (cutV (ns.map V.int) none (some 6)))) d (.lst [V.int 0])) c = some (.lst (cutV (ns.map V.int) none (some 6))) := by
      rw [upd_ne (ne_of_none upd_same nd), upd_same]
    have hl : (cutV (ns.map V.int) none (some 6)).length ≤ 63 := Nat.le_trans (cutV_length ..) (by rw [List.length_map]; exact hlen)
    refine ⟨c, d, _, _, rfl, rfl, hc, upd_same, Nat.le_of_lt (small1000 (by rw [List.length_singleton]; omega)), fun e ne => ?_⟩
    generalize hX : cutV (ns.map V.int) none (some 6) ++ [V.int 0] = X
    have hXi : ∀ v ∈ X, ∃ z : Int, v = .int z := fun v hv => by
      rw [← hX] at hv
      rcases List.mem_append.mp hv with h1 | h1
      · obtain ⟨z, _, rfl⟩ := List.mem_map.mp (cut_mem h1)
        exact ⟨z, rfl⟩
      · exact ⟨0, List.mem_singleton.mp h1⟩
    generalize upd (upd H c (.lst (cutV (ns.map V.int) none (some 6)))) d (.lst [V.int 0]) = H1 at ne
    refine ⟨e, rfl, ⟨X, .inl (.inl upd_same)⟩, for_list (K := K) (a := e) (xs := X) (fun i σ H' => ∃ v1 : Option V, σ = [some (.ref a), v1, none, none, none] ∧ H' e = some (.lst X))
      ⟨none, rfl, upd_same⟩ (fun i σ H' _ ⟨_, _, he⟩ => .inl (.inl he)) ?_ ?_⟩
    · rintro i y σ H2 hi ⟨v1, rfl, he⟩
      obtain ⟨z, rfl⟩ := hXi y (List.mem_of_getElem? hi)
      refine ⟨_, rfl, z, rfl, fun p np => ?_⟩
      have hpe : e ≠ p := ne_of_none he np
      refine ⟨p, z, 0, rfl, upd_same, fun H' k' => ⟨true, rfl, iteF ?_⟩⟩
      exact ⟨_, rfl, k' _ _ hpe (same_upd np _ _ he)⟩
    · rintro σ H2 ⟨v1, rfl, he⟩
      have wN : ∀ H', Wr H' false .non (dat .none) := fun H' => ⟨.none, .non, rfl⟩
      have w0 : ∀ (H' : Hp) (i : Int), Wr H' false (.int i) (dat (.num i)) := fun H' i => ⟨.num i, .int i, rfl⟩
      have wB : ∀ (H' : Hp) (b : Bool), Wr H' true (.bl b) (.bool b) := fun H' b => ⟨b, rfl, rfl⟩
      refine fun ga dxa na ndxa _ => init_new na ndxa (wN _) fun H3 ea s3 fea gda => ?_
      refine fun gb dxb nb ndxb _ => init_new nb ndxb (wN _) fun H4 eb s4 feb gdb => ?_
      refine fun gc dxc nc ndxc _ => init_new nc ndxc (w0 _ 0) fun H5 ec s5 fec gdc => ⟨_, _, _, rfl, ?_⟩
      have eab : ea ≠ eb := ne_of_none gda.2.1 feb
      have gab : ga ≠ eb := by
        obtain ⟨dx, hg⟩ := gda.1
        exact ne_of_none hg feb
      have eac : ea ≠ ec := ne_of_none (s4 _ _ gda.2.1) fec
      have ebc : eb ≠ ec := ne_of_none gdb.2.1 fec
      have gac : ga ≠ ec := by
        obtain ⟨dx, hg⟩ := gda.1
        exact ne_of_none (s4 _ _ hg) fec
      have gbc : gb ≠ ec := by
        obtain ⟨dx, hg⟩ := gdb.1
        exact ne_of_none hg fec
      have gba : gb ≠ ea := fun z => by
        obtain ⟨dx, hg⟩ := gdb.1
        have := s4 _ _ gda.2.1
        rw [← z, hg] at this
        exact dn_ins (Option.some.inj this).symm
      have gca : gc ≠ ea := fun z => by
        obtain ⟨dx, hg⟩ := gdc.1
        have := s5 _ _ (s4 _ _ gda.2.1)
        rw [← z, hg] at this
        exact dn_ins (Option.some.inj this).symm
      have gcb : gc ≠ eb := fun z => by
        obtain ⟨dx, hg⟩ := gdc.1
        have := s5 _ _ gdb.2.1
        rw [← z, hg] at this
        exact dn_ins (Option.some.inj this).symm
      have A5 := gda.same (s4.trans s5)
      have B5 := gdb.same s5
      clear s3 s4 s5 gda gdb fea feb fec na nb nc ndxa ndxb ndxc
      -- one["a", "b"] = "c"
      refine ⟨_, rfl, by show 2 ≤ sizeLine; decide, fun p np => ?_⟩
      obtain ⟨s6, hp⟩ := plc_new np (.str "a") (.str "b")
      have A6 := A5.same s6
      have B6 := B5.same s6
      have C6 := gdc.same s6
      generalize upd H5 p (.tup [V.str "a", V.str "b"]) = H6 at s6 hp A6 B6 C6
      obtain ⟨dx6, hg6⟩ := A6.1
      have eSN : PyData.eqv (dat (.text "c")) (dat .none) = false := by simp [dat, PyData.eqv]
      have wc : ∀ H', Wr H' false (.str "c") (dat (.text "c")) := fun H' => ⟨.text "c", .str _, rfl⟩
      refine ⟨ga, dx6, _, rfl, hg6, ga, p, ea, _, false, .non, .str "c", dat .none, dat (.text "c"), [], rfl, A6, hp, wN _, wc _, by decide, fun _ => ?_, (fun he => by rw [eSN] at he; cases he), (fun he => by rw [eSN] at he; cases he)⟩
      have hk := hp.key
      have A7 := Gd.put (v := .str "c") A6 (Gd.ge A6) hk.1 hk.2
      have k7 : Kp ea H6 (upd H6 ea (dn P w ea (putE [] (.tup [.text "a", .text "b"]) p (.str "c")))) := Kp.set
      have t7 : TP H6 (upd H6 ea (dn P w ea (putE [] (.tup [.text "a", .text "b"]) p (.str "c")))) := tp_dct A6.2
      have B7 := Gd.keep B6 k7 t7 gba (Ne.symm eab)
      have C7 := Gd.keep C6 k7 t7 gca (Ne.symm eac)
      have e1 : putE [] (.tup [.text "a", .text "b"]) p (.str "c") = [((NestedKey.tup [.text "a", .text "b"], p, V.str "c") : Ent)] := rfl
      rw [e1] at A7
      rw [e1] at B7 C7 ⊢
      generalize upd H6 ea (dn P w ea [(NestedKey.tup [.text "a", .text "b"], p, V.str "c")]) = H7 at A7 B7 C7
      clear k7 t7 hk A6 B6 C6 hg6 s6 hp A5 B5 gdc
      refine ⟨_, rfl, _, rfl, cmp_b ge A7 (wN _) B7 (wN _) (fun _ _ x _ v hv => by cases hv) (b := false) (by rw [eqE_len (by simp), Bool.and_false, Bool.and_false]) ⟨false, rfl, iteF ?_⟩⟩
      refine ⟨_, rfl, fun g5 dx5 n5 m5 _ => init_new n5 m5 (wB _ false) fun H8 e8 s8 f8 gd8 => cmp_b ge (C7.same s8) (w0 _ 0) gd8 (wB _ false) (fun z => by cases z) (b := false) rfl ⟨false, rfl, iteF ?_⟩⟩
      have A8 := A7.same s8
      have B8 := B7.same s8
      have C8 := C7.same s8
      clear s8 f8 gd8 A7 B7 C7
      refine ⟨_, rfl, fun g5 dx5 n5 m5 _ => init_new n5 m5 (w0 _ 0) fun H9 e9 s9 f9 gd9 => cmpn_b ge (C8.same s9) (w0 _ 0) gd9 (w0 _ 0) (fun _ _ x hx => by cases hx) (b := true) (by simp [dat, PyData.eqv, eqE]) ⟨false, rfl, iteF ?_⟩⟩
      have A9 := A8.same s9
      have B9 := B8.same s9
      have C9 := C8.same s9
      clear s9 f9 gd9 A8 B8 C8
      refine fun g5 dx5 n5 m5 _ => init_new n5 m5 (w0 _ 1) fun H10 e10 s10 f10 gd10 => fun g6 dx6 n6 m6 _ => init_new n6 m6 (wB _ true) fun H11 e11 s11 f11 gd11 => cmp_b ge (gd10.same s11) (w0 _ 1) gd11 (wB _ true) (fun z => by cases z) (b := false) rfl ⟨false, rfl, iteF ?_⟩
      have A11 := A9.same (s10.trans s11)
      have B11 := B9.same (s10.trans s11)
      have C11 := C9.same (s10.trans s11)
      clear s10 s11 f10 f11 gd10 gd11 A9 B9 C9
      refine ⟨_, rfl, _, rfl, cmp_b ge A11 (wN _) C11 (w0 _ 0) (fun _ z => by simp [dat, PyData.eqv] at z) (b := false) (by simp [dat, PyData.eqv]) ⟨false, rfl, iteF ?_⟩⟩
      -- other["a", "b"] = "c"
      refine ⟨_, rfl, by show 2 ≤ sizeLine; decide, fun p2 np2 => ?_⟩
      obtain ⟨s12, hp⟩ := plc_new np2 (.str "a") (.str "b")
      have A12 := A11.same s12
      have B12 := B11.same s12
      generalize upd H11 p2 (.tup [V.str "a", V.str "b"]) = H12 at s12 hp A12 B12
      obtain ⟨dx12, hg12⟩ := B12.1
      refine ⟨gb, dx12, _, rfl, hg12, gb, p2, eb, _, false, .non, .str "c", dat .none, dat (.text "c"), [], rfl, B12, hp, wN _, wc _, by decide, fun _ => ?_, (fun he => by rw [eSN] at he; cases he), (fun he => by rw [eSN] at he; cases he)⟩
      have hk := hp.key
      have B13 := Gd.put (v := .str "c") B12 (Gd.ge B12) hk.1 hk.2
      have A13 := Gd.keep (H' := upd H12 eb (dn P w eb (putE [] (.tup [.text "a", .text "b"]) p2 (.str "c")))) A12 Kp.set (tp_dct B12.2) gab eab
      have e2 : putE [] (.tup [.text "a", .text "b"]) p2 (.str "c") = [((NestedKey.tup [.text "a", .text "b"], p2, V.str "c") : Ent)] := rfl
      rw [e2] at B13 A13 ⊢
      generalize upd H12 eb (dn P w eb [(NestedKey.tup [.text "a", .text "b"], p2, V.str "c")]) = H13 at A13 B13
      have eqT : eqE [((NestedKey.tup [.text "a", .text "b"], p, V.str "c") : Ent)] [((NestedKey.tup [.text "a", .text "b"], p2, V.str "c") : Ent)] = true := by
        refine eqE_true (by simp [ks]) (by simp [ks]) (fun j => ?_) (fun x hx => ?_)
        · rw [at_cons, at_cons, at_nil]
        · rw [List.mem_singleton.mp hx]
          rfl
      refine ⟨_, rfl, _, rfl, cmp_b ge A13 (wN _) B13 (wN _) (fun _ _ x hx v hv => ?_) (b := true) (by rw [eqT]; simp [dat, PyData.eqv]) ⟨true, rfl, iteT ?_⟩⟩
      · rw [List.mem_singleton.mp hx]
        refine ⟨rfl, ?_⟩
        obtain ⟨y, hy, rfl⟩ := at_mem hv
        rw [List.mem_singleton.mp hy]
        rfl
      refine fun g5 dx5 n5 m5 _ => init_new n5 m5 (wB _ false) fun H14 e14 s14 f14 gd14 => fun g6 dx6 n6 m6 _ => init_new n6 m6 (wB _ false) fun H15 e15 s15 f15 gd15 => cmp_b ge (gd14.same s15) (wB _ false) gd15 (wB _ false) (fun _ _ x hx => by cases hx) (b := true) (by simp [PyData.eqv, eqE]) (q _)
end
end K06
set_option Elab.async false
set_option linter.all false
set_option maxRecDepth 100000
set_option maxHeartbeats 2000000
namespace K06
open PySem PySem.Spec PyProof.Rows L2 CM DN GR
section
variable {P : Program} {w : World} {K : PySem.W.Frag} {mg : Str → Option Value} {base : Heap}
/-! ### the head -/
def insKB (K : PySem.W.Frag) (C : Addr) : Bool := He.eqO (PySem.W.findIn K (.ref C) "__class__") (some (some (.builtin "object.__class__"))) && (He.eqO (PySem.W.specialIn K (.builtin "object.__class__") "__get__") (some (some (.builtin "getset_descriptor.__get__"))) && (decide (PySem.W.takesIn K (.builtin "object.__class__") = some true) && (decide (PySem.W.mroIn K C (.type "object") = some true) && (decide (PySem.W.kitOne K (.ref C) (.type "int") = some false) && (decide (PySem.W.kitOne K (.ref C) (.type "str") = some false) && decide (PySem.W.kitOne K (.ref C) (.type "tuple") = some false))))))
theorem insKB_ok {K : PySem.W.Frag} {C : Addr} (cl : Cls K C) (h : insKB K C = true) : InsK K C := by
  obtain ⟨h1, h⟩ := He.ba h
  obtain ⟨h2, h⟩ := He.ba h
  obtain ⟨h3, h⟩ := He.ba h
  obtain ⟨h4, h⟩ := He.ba h
  obtain ⟨h5, h⟩ := He.ba h
  obtain ⟨h6, h7⟩ := He.ba h
  exact ⟨cl, He.eqO_ok h1, He.eqO_ok h2, of_decide_eq_true h3, of_decide_eq_true h4, of_decide_eq_true h5, of_decide_eq_true h6, of_decide_eq_true h7⟩
def geqB (K : PySem.W.Frag) (C : Addr) : Bool := insKB K C && (decide (PySem.W.kitOne K (.ref C) (.ref C) = some true) && (["bool", "NoneType", "int", "str", "tuple", "list", "dict"].all fun T => decide (PySem.W.kitOne K (.type T) (.ref C) = some false) && PySem.W.notFirst K C (.type T)))
theorem geqB_ok {K : PySem.W.Frag} {C : Addr} (cl : Cls K C) (h : geqB K C = true) : GEq K C := by
  obtain ⟨h1, h⟩ := He.ba h
  obtain ⟨h2, h3⟩ := He.ba h
  refine ⟨insKB_ok cl h1, of_decide_eq_true h2, fun T hT => ?_⟩
  obtain ⟨q1, q2⟩ := He.ba (List.all_eq_true.mp h3 T hT)
  exact ⟨of_decide_eq_true q1, q2⟩
def neB (K : PySem.W.Frag) (C : Addr) : Bool := He.eqO (PySem.W.findIn K (.ref C) "__ne__") (some (some (.builtin "object.__ne__"))) && decide (PySem.W.mroIn K C (.type "object") = some true)
theorem neB_ok {K : PySem.W.Frag} {C : Addr} (h : neB K C = true) : OP.OwnNe K C := by
  obtain ⟨h1, h2⟩ := He.ba h
  exact ⟨He.eqO_ok h1, of_decide_eq_true h2⟩
def d_is_int : He.DefD := ⟨("is_int", none), "is_int", "is_int", defArgs s_is_int, defBody s_is_int, defScope s_is_int, [], []⟩
def d_is_flag : He.DefD := ⟨("is_flag", none), "is_flag", "is_flag", defArgs s_is_flag, defBody s_is_flag, defScope s_is_flag, [], []⟩
def d_is_plain : He.DefD := ⟨("is_plain", none), "is_plain", "is_plain", defArgs s_is_plain, defBody s_is_plain, defScope s_is_plain, [], []⟩
def d_is_plain_within : He.DefD := ⟨("is_plain_within", none), "is_plain_within", "is_plain_within", defArgs s_is_plain_within, defBody s_is_plain_within, defScope s_is_plain_within, [], []⟩
def d_Grid___init : He.DefD := ⟨("Grid", some "__init__"), "__init__", "Grid.__init__", defArgs s_Grid___init, defBody s_Grid___init, defScope s_Grid___init, [.bl false], []⟩
def d_Grid___getitem : He.DefD := ⟨("Grid", some "__getitem__"), "__getitem__", "Grid.__getitem__", defArgs s_Grid___getitem, defBody s_Grid___getitem, defScope s_Grid___getitem, [], []⟩
def d_Grid___setitem : He.DefD := ⟨("Grid", some "__setitem__"), "__setitem__", "Grid.__setitem__", defArgs s_Grid___setitem, defBody s_Grid___setitem, defScope s_Grid___setitem, [], []⟩
def d_Grid___eq : He.DefD := ⟨("Grid", some "__eq__"), "__eq__", "Grid.__eq__", defArgs s_Grid___eq, defBody s_Grid___eq, defScope s_Grid___eq, [], []⟩
def d_Grid_has_value : He.DefD := ⟨("Grid", some "has_value"), "has_value", "Grid.has_value", defArgs s_Grid_has_value, defBody s_Grid_has_value, defScope s_Grid_has_value, [], []⟩
def d_checked_place : He.DefD := ⟨("checked_place", none), "checked_place", "checked_place", defArgs s_checked_place, defBody s_checked_place, defScope s_checked_place, [], []⟩
def d_law_well : He.DefD := ⟨("_law_well", none), "_law_well", "_law_well", defArgs s_law_well, defBody s_law_well, defScope s_law_well, [], []⟩
def d_law_draw : He.DefD := ⟨("_law_draw", none), "_law_draw", "_law_draw", defArgs s_law_draw, defBody s_law_draw, defScope s_law_draw, [], []⟩
def d_law_one : He.DefD := ⟨("_law_one", none), "_law_one", "_law_one", defArgs s_law_one, defBody s_law_one, defScope s_law_one, [], []⟩
def d_law_marks : He.DefD := ⟨("_law_marks", none), "_law_marks", "_law_marks", defArgs s_law_marks, defBody s_law_marks, defScope s_law_marks, [], []⟩
def d_law_grid : He.DefD := ⟨("_law_grid", none), "_law_grid", "_law_grid", defArgs s_law_grid, defBody s_law_grid, defScope s_law_grid, [], []⟩
def d_law_again : He.DefD := ⟨("_law_again", none), "_law_again", "_law_again", defArgs s_law_again, defBody s_law_again, defScope s_law_again, [], []⟩
def d_law_right : He.DefD := ⟨("_law_right", none), "_law_right", "_law_right", defArgs s_law_right, defBody s_law_right, defScope s_law_right, [], []⟩
def d_law : He.DefD := ⟨("law", none), "law", "law", defArgs s_law, defBody s_law, defScope s_law, [], []⟩
def fn : List He.DefD := [d_is_int, d_is_flag, d_is_plain, d_is_plain_within, d_Grid___init, d_Grid___getitem, d_Grid___setitem, d_Grid___eq, d_Grid_has_value, d_checked_place, d_law_well, d_law_draw, d_law_one, d_law_marks, d_law_grid, d_law_again, d_law_right, d_law]
def fa : List He.Fa := [.glo "is_int", .glo "is_flag", .glo "is_plain", .glo "is_plain_within", .glo "checked_place", .glo "_law_well", .glo "_law_draw", .glo "_law_one", .glo "_law_marks", .glo "_law_grid", .glo "_law_again", .glo "_law_right", .glo "law", .glo "Grid", .cls "Grid", .meth "Grid" "__init__", .meth "Grid" "__getitem__", .meth "Grid" "__setitem__", .meth "Grid" "__eq__", .meth "Grid" "has_value", .glo "Filling", .cls "Filling", .free "int", .free "len", .free "range", .free "list", .free "tuple", .free "str", .free "bool", .free "isinstance", .int "DEEPEST" 4, .mkr "Grid", .noat "Grid" "default", .noat "Grid" "entries"]
def loose : List PySem.Str := ["_wall", "GroveError", "BadValue", "DEEPEST", "is_int", "is_flag", "by_repr", "is_plain", "is_plain_within", "Filling", "Grid", "is_place", "checked_place", "standing_in", "_law_well", "_law_draw", "_law_one", "_law_marks", "_law_grid", "_law_again", "_law_right"]
def ex (K : PySem.W.Frag) : Bool := ownB K (He.ga K "Grid") "__getitem__" && (ownB K (He.ga K "Grid") "__setitem__" && (ownB K (He.ga K "Grid") "__eq__" && (neB K (He.ga K "Grid") && (PySem.W.noSeq K (He.ga K "Grid") && (geqB K (He.ga K "Grid") && notB K (He.ga K "Filling"))))))
abbrev R : PySem.W.OpenRow := PySem.W.OpenLaw.row PySem.Challenge.rw_kindgrove_k06_equal_grids
abbrev hk : PySem.W.Hook := He.hookX 6 fa fn [] [] ex
def ob (s : PySem.W.SharedT) : He.AlX := He.obsX 6 fa fn [] [] ex (HandSHeadRun.getT s)
theorem ob_eq (s : PySem.W.SharedT) : ob s = hk.obs s.abs := He.obsX_eq (HandSHeadRun.getT_eq s)
theorem run (w : World) : HandSHeadRun.RunEq R (PySem.W.view R.prog [25]) hk ob 6000 loose w := by
  intro os
  kernel_rfl
theorem glo {h : Heap} (X : K.In h) (G : h.Ns mainGlobals mg) (c : He.SaysD fa fn K) {x : Str} (hx : He.Fa.glo x ∈ fa) : mg x = some (.ref (He.ga K x)) := He.glo_ok X G (c.facts hx)
theorem fre {h : Heap} (X : K.In h) (G : h.Ns mainGlobals mg) (c : He.SaysD fa fn K) {x : Str} (hx : He.Fa.free x ∈ fa) : mg x = none := He.free_ok X G (c.facts hx)
theorem cal {h : Heap} (X : K.In h) (G : h.Ns mainGlobals mg) (c : He.SaysD fa fn K) {x qn : Str} {st : Stmt} {fd : FuncData} {k : Nat} {ps : List Str} {sp : Sp} (F : FnP K x qn st (He.ga K x) fd)
    (hx : He.Fa.glo x ∈ fa) (ok : FnOk P w K mg base CX0 k (He.ga K x) fd ps sp)
    (hb : ∀ (kV doc pm : Value) (an : Option Addr) (cdv ct : Value) (us : List Value), us.length = ps.length → bindArgs (PySem.W.fnOf x qn (defArgs st) (defBody st) (defScope st) .none kV doc pm an cdv ct) ⟨us, []⟩ = pure (ps.zip us)) : Cal P w K mg base CX0 x k ps sp :=
  ⟨He.ga K x, fd, ok, F.bindsN hb, glo X G c hx, F.kp⟩
theorem calm (c : He.SaysD fa fn K) {C m qn : Str} {st : Stmt} {fd : FuncData} {k : Nat} {ps : List Str} {sp : Sp} (F : FnP K m qn st (He.ma K (He.ga K C) m) fd)
    (hx : He.Fa.meth C m ∈ fa) (ok : FnOk P w K mg base CX0 k (He.ma K (He.ga K C) m) fd ps sp)
    (hb : ∀ (kV doc pm : Value) (an : Option Addr) (cdv ct : Value) (us : List Value), us.length = ps.length → bindArgs (PySem.W.fnOf m qn (defArgs st) (defBody st) (defScope st) .none kV doc pm an cdv ct) ⟨us, []⟩ = pure (ps.zip us)) : CalM P w K mg base CX0 (He.ga K C) m k ps sp :=
  ⟨He.ma K (He.ga K C) m, fd, ok, F.bindsN hb, He.meth_ok (c.facts hx)⟩
theorem facts {h : Heap} {f : Addr} (X : K.In h) (G : h.Ns mainGlobals mg) (hfa : mg ("law" : Str) = some (.ref f)) (c : He.SaysD fa fn K) (m : ex K = true) :
    ∃ fd : FuncData, (∀ (s : Shared) (v : Value), BindsTo s fd ⟨[v], []⟩ [("_law_script", v)]) ∧ ∀ base : Heap, K.In base → base.Ns mainGlobals mg → FnOk P w K mg base CX0 15 f fd ["_law_script"] (spLaw K) := by
  obtain ⟨m1, m⟩ := He.ba m
  obtain ⟨m2, m⟩ := He.ba m
  obtain ⟨m3, m⟩ := He.ba m
  obtain ⟨m4, m⟩ := He.ba m
  obtain ⟨m5, m⟩ := He.ba m
  obtain ⟨m6, m7⟩ := He.ba m
  obtain ⟨fd_law, F_law⟩ : ∃ fd, FnP K "law" "law" s_law (He.ga K "law") fd := c.def_ 17 (d := d_law) rfl
  obtain ⟨fd_law_well, F_law_well⟩ : ∃ fd, FnP K "_law_well" "_law_well" s_law_well (He.ga K "_law_well") fd := c.def_ 10 (d := d_law_well) rfl
  obtain ⟨fd_law_draw, F_law_draw⟩ : ∃ fd, FnP K "_law_draw" "_law_draw" s_law_draw (He.ga K "_law_draw") fd := c.def_ 11 (d := d_law_draw) rfl
  obtain ⟨fd_law_one, F_law_one⟩ : ∃ fd, FnP K "_law_one" "_law_one" s_law_one (He.ga K "_law_one") fd := c.def_ 12 (d := d_law_one) rfl
  obtain ⟨fd_law_marks, F_law_marks⟩ : ∃ fd, FnP K "_law_marks" "_law_marks" s_law_marks (He.ga K "_law_marks") fd := c.def_ 13 (d := d_law_marks) rfl
  obtain ⟨fd_law_grid, F_law_grid⟩ : ∃ fd, FnP K "_law_grid" "_law_grid" s_law_grid (He.ga K "_law_grid") fd := c.def_ 14 (d := d_law_grid) rfl
  obtain ⟨fd_law_again, F_law_again⟩ : ∃ fd, FnP K "_law_again" "_law_again" s_law_again (He.ga K "_law_again") fd := c.def_ 15 (d := d_law_again) rfl
  obtain ⟨fd_law_right, F_law_right⟩ : ∃ fd, FnP K "_law_right" "_law_right" s_law_right (He.ga K "_law_right") fd := c.def_ 16 (d := d_law_right) rfl
  obtain ⟨fd_is_int, F_is_int⟩ : ∃ fd, FnP K "is_int" "is_int" s_is_int (He.ga K "is_int") fd := c.def_ 0 (d := d_is_int) rfl
  obtain ⟨fd_is_flag, F_is_flag⟩ : ∃ fd, FnP K "is_flag" "is_flag" s_is_flag (He.ga K "is_flag") fd := c.def_ 1 (d := d_is_flag) rfl
  obtain ⟨fd_is_plain, F_is_plain⟩ : ∃ fd, FnP K "is_plain" "is_plain" s_is_plain (He.ga K "is_plain") fd := c.def_ 2 (d := d_is_plain) rfl
  obtain ⟨fd_is_plain_within, F_is_plain_within⟩ : ∃ fd, FnP K "is_plain_within" "is_plain_within" s_is_plain_within (He.ga K "is_plain_within") fd := c.def_ 3 (d := d_is_plain_within) rfl
  obtain ⟨fd_checked_place, F_checked_place⟩ : ∃ fd, FnP K "checked_place" "checked_place" s_checked_place (He.ga K "checked_place") fd := c.def_ 9 (d := d_checked_place) rfl
  obtain ⟨fd_Grid___init, F_Grid___init⟩ : ∃ fd, FunD K "__init__" "Grid.__init__" (defArgs s_Grid___init) (defBody s_Grid___init) (defScope s_Grid___init) [(He.Dv.v K (.bl false : He.Dv))] [] (He.ma K (He.ga K "Grid") "__init__") fd := c.def_ 4 (d := d_Grid___init) rfl
  obtain ⟨fd_Grid___getitem, F_Grid___getitem⟩ : ∃ fd, FnP K "__getitem__" "Grid.__getitem__" s_Grid___getitem (He.ma K (He.ga K "Grid") "__getitem__") fd := c.def_ 5 (d := d_Grid___getitem) rfl
  obtain ⟨fd_Grid___setitem, F_Grid___setitem⟩ : ∃ fd, FnP K "__setitem__" "Grid.__setitem__" s_Grid___setitem (He.ma K (He.ga K "Grid") "__setitem__") fd := c.def_ 6 (d := d_Grid___setitem) rfl
  obtain ⟨fd_Grid___eq, F_Grid___eq⟩ : ∃ fd, FnP K "__eq__" "Grid.__eq__" s_Grid___eq (He.ma K (He.ga K "Grid") "__eq__") fd := c.def_ 7 (d := d_Grid___eq) rfl
  obtain ⟨fd_Grid_has_value, F_Grid_has_value⟩ : ∃ fd, FnP K "has_value" "Grid.has_value" s_Grid_has_value (He.ma K (He.ga K "Grid") "has_value") fd := c.def_ 8 (d := d_Grid_has_value) rfl
  have e := hfa.symm.trans (glo X G c (x := "law") (List.mem_of_getElem? (i := 12) rfl))
  cases e
  have b := FunD.bindsA (ps := ["_law_script"]) F_law fun _ _ _ _ _ _ us hl => match us, hl with | [_], _ => rfl
  refine ⟨fd_law, fun s v => b s [v] rfl, fun base _ _ => ?_⟩
  have m_int := fre X G c (List.mem_of_getElem? (i := 22) rfl)
  have m_len := fre X G c (List.mem_of_getElem? (i := 23) rfl)
  have m_range := fre X G c (List.mem_of_getElem? (i := 24) rfl)
  have m_list := fre X G c (List.mem_of_getElem? (i := 25) rfl)
  have m_tuple := fre X G c (List.mem_of_getElem? (i := 26) rfl)
  have m_str := fre X G c (List.mem_of_getElem? (i := 27) rfl)
  have m_bool := fre X G c (List.mem_of_getElem? (i := 28) rfl)
  have m_isinstance := fre X G c (List.mem_of_getElem? (i := 29) rfl)
  have cl := He.cls_ok (c.facts (List.mem_of_getElem? (i := 14) rfl))
  have gc : GCls K (He.ga K "Grid") := ⟨cl, He.noat_ok (c.facts (List.mem_of_getElem? (i := 32) rfl)), He.noat_ok (c.facts (List.mem_of_getElem? (i := 33) rfl))⟩
  have m_G := glo X G c (x := "Grid") (List.mem_of_getElem? (i := 13) rfl)
  have m_F := glo X G c (x := "Filling") (List.mem_of_getElem? (i := 20) rfl)
  have O_get := ownB_ok m1
  have O_set := ownB_ok m2
  have O_eq := ownB_ok m3
  have N_C := neB_ok m4
  have nq : PySem.W.noSeq K (He.ga K "Grid") = true := m5
  have ge := geqB_ok cl m6
  have kF := notB_ok m7
  obtain ⟨td, hD⟩ := He.int_ok X G (c.facts (List.mem_of_getElem? (i := 30) rfl))
  have CDr : ∀ k, Cal P w K mg base CX0 "_law_draw" (k + 1) ["_law_well_here", "_law_many"] spDraw := fun k => (cal X G c F_law_draw (List.mem_of_getElem? (i := 6) rfl) ((ok_draw (k := 0) F_law_draw m_int).mono (by omega)) fun _ _ _ _ _ _ us hl => match us, hl with | [_, _], _ => rfl)
  have COn : Cal P w K mg base CX0 "_law_one" 2 ["_law_well_here", "_law_some"] (spOne K) := (cal X G c F_law_one (List.mem_of_getElem? (i := 7) rfl) (ok_one F_law_one (CDr 0) m_len) fun _ _ _ _ _ _ us hl => match us, hl with | [_, _], _ => rfl)
  have CMa : ∀ k, Cal P w K mg base CX0 "_law_marks" (k + 3) ["_law_well_here"] spMarks := fun k => (cal X G c F_law_marks (List.mem_of_getElem? (i := 8) rfl) ((ok_marks F_law_marks (CDr 1) COn).mono (by omega)) fun _ _ _ _ _ _ us hl => match us, hl with | [_], _ => rfl)
  have CIn : Cal P w K mg base CX0 "is_int" 1 ["thing"] (spInt K) := (cal X G c F_is_int (List.mem_of_getElem? (i := 0) rfl) (ok_int F_is_int m_isinstance m_int m_bool) fun _ _ _ _ _ _ us hl => match us, hl with | [_], _ => rfl)
  have CFl : Cal P w K mg base CX0 "is_flag" 7 ["thing"] (spFlag K) := (cal X G c F_is_flag (List.mem_of_getElem? (i := 1) rfl) ((ok_flag (k := 0) F_is_flag m_isinstance m_bool).mono (by omega)) fun _ _ _ _ _ _ us hl => match us, hl with | [_], _ => rfl)
  have CPw : Cal P w K mg base CX0 "is_plain_within" 6 ["thing", "deepest"] (spW K 5) := (cal X G c F_is_plain_within (List.mem_of_getElem? (i := 3) rfl) (ok_within F_is_plain_within m_isinstance m_str m_tuple m_len CIn (F_is_plain_within.bindsN (ps := ["thing", "deepest"]) fun _ _ _ _ _ _ us hl => match us, hl with | [_, _], _ => rfl) (glo X G c (List.mem_of_getElem? (i := 3) rfl)) F_is_plain_within.kp 5) fun _ _ _ _ _ _ us hl => match us, hl with | [_, _], _ => rfl)
  have CPl : Cal P w K mg base CX0 "is_plain" 7 ["thing"] (spPlain K) := (cal X G c F_is_plain (List.mem_of_getElem? (i := 2) rfl) (ok_plain F_is_plain hD CPw) fun _ _ _ _ _ _ us hl => match us, hl with | [_], _ => rfl)
  have CCh : Cal P w K mg base CX0 "checked_place" 8 ["thing"] spChk := (cal X G c F_checked_place (List.mem_of_getElem? (i := 4) rfl) (ok_chk F_checked_place m_isinstance m_tuple m_len CPl) fun _ _ _ _ _ _ us hl => match us, hl with | [_], _ => rfl)
  have GI := ok_ginit (P := P) (w := w) (base := base) (k := 6) F_Grid___init m_isinstance m_F kF gc CFl CPl
  have GG := ok_get (P := P) (w := w) (base := base) F_Grid___getitem gc CCh
  have RG := raw0 GG (F_Grid___getitem.bindsN (ps := ["self", "at"]) fun _ _ _ _ _ _ us hl => match us, hl with | [_, _], _ => rfl)
  have DH : CalM P w K mg base CX0 (He.ga K "Grid") "has_value" 8 ["self", "thing"] (spHas (He.ga K "Grid")) := (calm c F_Grid_has_value (List.mem_of_getElem? (i := 19) rfl) (ok_has F_Grid_has_value gc CFl CPl) fun _ _ _ _ _ _ us hl => match us, hl with | [_, _], _ => rfl)
  have GS := ok_set (P := P) (w := w) (base := base) F_Grid___setitem gc CCh DH
  have RS := raw0 GS (F_Grid___setitem.bindsN (ps := ["self", "at", "worth"]) fun _ _ _ _ _ _ us hl => match us, hl with | [_, _, _], _ => rfl)
  have GQ := ok_geq (P := P) (w := w) (base := base) F_Grid___eq gc ge m_isinstance m_G CFl
  have RQ := raw0 GQ (F_Grid___eq.bindsN (ps := ["self", "other"]) fun _ _ _ _ _ _ us hl => match us, hl with | [_, _], _ => rfl)
  obtain ⟨ds8, r8, b8⟩ := FunD.binds1 (ps := ["self", "default"]) F_Grid___init 1 0 (by simp) (by simp) (by
    intro T kV doc pm an cdv ct us its h1 h2
    match us, its, h1, h2 with
    | [_], [_], _, _ => exact ⟨_, rfl, rfl⟩)
  obtain ⟨ds0, r0, b0⟩ := FunD.binds1 (ps := ["self", "default"]) F_Grid___init 2 1 (by simp) (by simp) (by
    intro T kV doc pm an cdv ct us its h1 h2
    match us, its, h1, h2 with
    | [_, _], [_], _, _ => exact ⟨_, rfl, rfl⟩)
  cases r0
  have M_G := He.mkr_ok (c.facts (List.mem_of_getElem? (i := 31) rfl))
  have CGr : Cal P w K mg base CX0 "_law_grid" 11 ["_law_well_here", "_law_many"] (spLGrid P w (He.ga K "Grid")) := (cal X G c F_law_grid (List.mem_of_getElem? (i := 9) rfl) (ok_lgrid (k := 9) F_law_grid m_range m_G M_G (GI.mono (by omega)) b0 nq O_set RS (CDr 8) (CMa 6)) fun _ _ _ _ _ _ us hl => match us, hl with | [_, _], _ => rfl)
  have CAg : Cal P w K mg base CX0 "_law_again" 11 ["_law_cells", "_law_default", "_law_places"] (spAgain P w (He.ga K "Grid")) := (cal X G c F_law_again (List.mem_of_getElem? (i := 10) rfl) (ok_again (k := 9) F_law_again m_G M_G (GI.mono (by omega)) b0 nq O_set RS) fun _ _ _ _ _ _ us hl => match us, hl with | [_, _, _], _ => rfl)
  have CRi : Cal P w K mg base CX0 "_law_right" 13 ["_law_well_here"] spRight := (cal X G c F_law_right (List.mem_of_getElem? (i := 11) rfl) (ok_right (k := 11) F_law_right m_list m_G M_G ge (GI.mono (by omega)) b0 nq O_set (RS.mono (by omega)) O_get (RG.mono (by omega)) O_eq (RQ.mono (by omega)) N_C (CDr 10) (CMa 8) CGr CAg) fun _ _ _ _ _ _ us hl => match us, hl with | [_], _ => rfl)
  exact ok_law (k := 13) F_law m_G M_G ge (GI.mono (by omega)) b0 b8 r8 nq O_set (RS.mono (by omega)) O_eq (RQ.mono (by omega)) N_C (cal X G c F_law_well (List.mem_of_getElem? (i := 5) rfl) ((ok_well (k := 0) F_law_well m_int).mono (by omega)) fun _ _ _ _ _ _ us hl => match us, hl with | [_], _ => rfl) CRi
end
end K06
open PySem PySem.W PySem.Calls PyProof.Rows
set_option maxRecDepth 100000 in
set_option maxHeartbeats 0 in
theorem PySem.Challenge.cw_kindgrove_k06_equal_grids_holds : PySem.Challenge.rw_kindgrove_k06_equal_grids.Holds := by
  w_on; o_law
  refine HandSHeadRun.head_any (r := OpenLaw.row PySem.Challenge.rw_kindgrove_k06_equal_grids) (q := view (OpenLaw.row PySem.Challenge.rw_kindgrove_k06_equal_grids).prog [25]) (H := K06.hk) (ob := K06.ob) (M := 6000) (loose := K06.loose) (d := HandSHeadRun.topDef (OpenLaw.row PySem.Challenge.rw_kindgrove_k06_equal_grids).prog 25) (kwd := []) K06.ob_eq
    (by kernel_rfl) (fun s => by kernel_rfl) K06.run (by kernel_rfl) (by kernel_rfl) (by kernel_rfl) (by rfl) (by first | assumption | decide +kernel) (by decide +kernel) ⟨rfl, rfl, rfl, rfl, rfl, by decide +kernel⟩ ?hw ?hc
  case hw => w_witness2
  case hc =>
    refine L2.walk_ofE (l := PySem.Challenge.rw_kindgrove_k06_equal_grids) (n := 63) (k := 15) (x := "_law_script") (CX := L2.CX0) rfl (by decide) (by kernel_rfl) ⟨rfl, by decide, by decide⟩ ?F (fun _ _ _ _ z => z)
    intro w mg fa h Y G hmg0
    obtain ⟨K, KX, c⟩ := Y
    have hmg : mg ("law" : PySem.Str) = some (.ref fa) := by
      have e : (HandSHeadRun.topDef (OpenLaw.row PySem.Challenge.rw_kindgrove_k06_equal_grids).prog 25).name = ("law" : PySem.Str) := by kernel_rfl
      rw [← e]
      exact hmg0
    obtain ⟨fd, hb, hF⟩ := K06.facts (P := (PySem.Challenge.rw_kindgrove_k06_equal_grids).prog) (w := w) KX G hmg c.t.d c.more
    exact ⟨K, fd, K06.spLaw K, KX, hb, fun H a ns hl _ hS => ⟨a, ns, rfl, hS, hl, fun _ => rfl⟩, hF⟩
