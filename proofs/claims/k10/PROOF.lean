import PyProof.Rows.All
import Wide.All
import OpenK.AllK
import Wide.FinOn
import HandS.ForMost
import HandS.HeadHook4
import HandS.Zip
import HandS.Defaults
import HandS.Wide
import HandS.IsInst
import HandS.NoneIn
import HandS.Style
import HandS.DeepEq
import HandS.Evl
import PyProof.NeKinds
import HandS.TupMul
import PyProof.StrBlock2
import KE.SortKeyHeap
import KE.SortData
import HandS.Lambda
import HandS.EndTab
import HandS.HeadWalk
import HandS.SortKw
import HandS.DictComp
import HandS.Conv
import PyProof.MaxThree
import HandS.Text
import KE.LtData
import PyProof.ReprRoads
import PyProof.ReprReads
import KE.DatumIndex
import HandS.ExcField
import HandS.ExcInit
import HandS.Property
import HandS.MakeKw
import HandS.ExcOwn
import HandS.MakeKwOnly
import HandS.Nested
import HandS.ClsMeth
import HandS.Star
import KE.KSuper
import HandS.WideBits
import KE.KRevSl
import KE.KDictKeyed
import KE.KeyNested
import PyProof.DictMoreH
import HandS.TupLen
import HandS.Small
import KE.KDictCopyH
import KE.KEqDict
import KE.DataEq
import PyProof.DictFindH
import HandS.SlotsOwn
import KE.KOpsOwn
import HandS.Comp
import HandS.Iter
import HandS.Deep
import KE.KDictPairs
import KE.KDictWalk
import HandS.Walk
import HandS.HeadNt
import KE.DataFind
import HandS.Exc
import HandS.More
import PyProof.InstEq
import HandS.TryMany
import HandS.TupAny
import HandS.Head0
import HandS.Head1
import HandS.Head2
import HandS.HeadEnd
import PySem.Challenge.RW_kindgrove_k10_kinds_by_themselves
set_option Elab.async false
set_option linter.all false
set_option maxRecDepth 100000
set_option maxHeartbeats 4000000
namespace CM
open PySem PySem.Spec PyProof.Rows L2
/-- a def of the text, by the module's name of it -/
structure Cal (P : Program) (w : World) (K : PySem.W.Frag) (mg : Str → Option Value) (base : Heap) (CX : CXT) (x : Str) (k : Nat) (ps : List Str) (sp : Sp) : Prop where
  ex : ∃ (f : Addr) (fd : FuncData), FnOk P w K mg base CX k f fd ps sp ∧ Binds K fd ps [] ∧ mg x = some (.ref f) ∧ PySem.W.keepIn K (.ref f) = true
/-- a method of the class at C -/
structure CalM (P : Program) (w : World) (K : PySem.W.Frag) (mg : Str → Option Value) (base : Heap) (CX : CXT) (C : Addr) (x : Str) (k : Nat) (ps : List Str) (sp : Sp) : Prop where
  ex : ∃ (f : Addr) (fd : FuncData), FnOk P w K mg base CX k f fd ps sp ∧ Binds K fd ps [] ∧ Meth K C x f
/-- a value that is equal to itself at once -/
def okV (v : V) : Prop := flatB v = true ∨ ∃ a, v = .ref a
theorem okV_ref (a : Addr) : okV (.ref a) := .inr ⟨a, rfl⟩
theorem okV_int (i : Int) : okV (.int i) := .inl rfl
theorem eqAt_ok {A : Around} {s : Shared} {v : V} {u u' : Value} (h : okV v) (r : RelV v u) (r' : RelV v u') : SeqAt.EqAt A s u u' true := by
  rcases h with f | ⟨a, rfl⟩
  · exact eqAt_same r r' f
  · cases (show u = Value.ref a from r)
    cases (show u' = Value.ref a from r')
    exact SeqAt.EqAt.same _
theorem vals_eqAt {A : Around} {s : Shared} : ∀ {xs : List V} {us ws : List Value}, (∀ v ∈ xs, okV v) → Vals xs us → Vals xs ws → ∀ j (h1 : j < us.length) (h2 : j < ws.length), SeqAt.EqAt A s us[j] ws[j] true
  | [], _, _, _, r1, _, j, h1, _ => by
    cases r1
    exact absurd h1 (Nat.not_lt_zero j)
  | v :: xs, _, _, ok, .cons a1 b1, .cons a2 b2, 0, _, _ => eqAt_ok (ok v (List.mem_cons_self ..)) a1 a2
  | v :: xs, _, _, ok, .cons a1 b1, .cons a2 b2, j + 1, h1, h2 => vals_eqAt (fun z hz => ok z (List.mem_cons_of_mem _ hz)) b1 b2 j (Nat.lt_of_succ_lt_succ h1) (Nat.lt_of_succ_lt_succ h2)
/-! ### what stays -/
theorem same_upd {H : Hp} {p : Addr} {o : HO} (h : H p = none) : Same H (upd H p o) := fun b x e => by
  rw [upd_ne (ne_of_none e h)]
  exact e
theorem same_put {A H : Hp} {p : Addr} {o : HO} (s : Same A H) (h : A p = none) : Same A (upd H p o) := fun b u e => by
  rw [upd_ne (ne_of_none e h)]
  exact s b u e
/-- all but the thing at a stays -/
def Kp (a : Addr) (H H' : Hp) : Prop := ∀ b o, b ≠ a → H b = some o → H' b = some o
theorem Kp.trans {a : Addr} {H H1 H2 : Hp} (x : Kp a H H1) (y : Kp a H1 H2) : Kp a H H2 := fun b o n e => y b o n (x b o n e)
theorem Kp.same {a : Addr} {H H1 : Hp} (s : Same H H1) : Kp a H H1 := fun b o _ e => s b o e
theorem Kp.set {a : Addr} {H : Hp} {o : HO} : Kp a H (upd H a o) := fun b u n e => by
  rw [upd_ne n]
  exact e
theorem Kp.ne {a p : Addr} {H : Hp} {o : HO} (h : H a = some o) (hp : H p = none) : p ≠ a := fun z => by
  rw [z, h] at hp
  cases hp
theorem max_if (i j : Int) : (if j > i then j else i) = max i j := by
  rw [Int.max_def]
  split <;> split <;> omega
theorem min_if (i j : Int) : (if j < i then j else i) = min i j := by
  rw [Int.min_def]
  split <;> split <;> omega
def Tup2 (H : Hp) (p : Addr) (lo hi : Int) : Prop := H p = some (.tup [.int lo, .int hi])
section
variable {X : Cx}
theorem pe_gref {x : Str} {C : Addr} {pos : Pos} (hg : Gl X x) (hm : X.mg x = some (.ref C)) (hdb : (x == ("__debug__" : Str)) = false := by decide) : PE X (.Name x pos) (tC (.ref C)) := pe_glob (v := .ref C) hg hm rfl hdb
/-- a != b of two lists of the very same items -/
def rNeS (K : PySem.W.Frag) : R2 := fun x y H Q => ∃ (a b : Addr) (xs : List V), x = .ref a ∧ y = .ref b ∧ SqL K H a xs ∧ SqL K H b xs ∧ (∀ v ∈ xs, okV v) ∧ Q (.bl false) H
theorem op_neS (hu : X.A.units + 64 < cLine) : OpR X (compareOp .NotEq) (rNeS X.K) := by
  intro pns s σ H x y v u Q I rx ry h
  obtain ⟨a, b, xs, rfl, rfl, ha, hb, ok, q⟩ := h
  cases (show v = Value.ref a from rx)
  cases (show u = Value.ref b from ry)
  obtain ⟨us, r1, p1, _⟩ := I.list ha
  obtain ⟨ws, r2, p2, _⟩ := I.list hb
  have hz : us.toArray.size = ws.toArray.size := by
    rw [List.size_toArray, List.size_toArray, ← r1.length, ← r2.length]
  refine SeqAt.RcNeAt.lists (e := fun _ => true) p1.isList p2.isList hz (by omega) (fun j h1 h2 => ?_) X.prog X.w X.xe _ ?_
  · have z := vals_eqAt (A := X.A.in1) (s := s) ok r1 r2 j (by simpa using h1) (by simpa using h2)
    simpa using z
  · rw [show ((List.range us.toArray.size).all fun _ => true) = true from List.all_eq_true.mpr fun _ _ => rfl]
    exact ⟨.bl false, H, I, rfl, q⟩
/-- a == (), a a tuple -/
def rEqNil (K : PySem.W.Frag) : R2 := fun x y H Q => ∃ (a b : Addr) (xs : List V), x = .ref a ∧ y = .ref b ∧ SqT K H a xs ∧ SqT K H b [] ∧ Q (.bl xs.isEmpty) H
theorem op_eqNil (hu : X.A.units + 64 < cLine) : OpR X (compareOp .Eq) (rEqNil X.K) := by
  intro pns s σ H x y v u Q I rx ry h
  obtain ⟨a, b, xs, rfl, rfl, ha, hb, q⟩ := h
  cases (show v = Value.ref a from rx)
  cases (show u = Value.ref b from ry)
  obtain ⟨us, r1, p1, _⟩ := I.tuple ha
  obtain ⟨ws, r2, p2, _⟩ := I.tuple hb
  cases r2
  refine SeqAt.eq_tupleAt (e := fun _ => true) p1 p2 (by omega) (fun j h1 h2 => absurd h2 (by simp)) ?_
  have e : ((List.range (min us.toArray.size (#[] : Array Value).size)).all (fun _ => true) && us.toArray.size == (#[] : Array Value).size) = xs.isEmpty := by
    rw [List.size_toArray, ← r1.length]
    cases xs <;> simp
  exact ⟨.bl _, H, I, rfl, by rw [e]; exact q⟩
def rStrMul : R2 := fun x y H Q => ∃ (z : Str) (n : Int), x = .str z ∧ y = .int n ∧ MulOk z n ∧ Q (.str (Txt.mul z n)) H
theorem op_strmul : OpR X (binaryOp .Mult) rStrMul := by
  intro pns s σ H x y v u Q I rx ry h
  obtain ⟨z, n, rfl, rfl, ok, q⟩ := h
  obtain ⟨t1, rfl⟩ := rx
  obtain ⟨t2, rfl⟩ := ry
  exact SB.mul ok fun t' k => ⟨.str _, H, I.tok k, ⟨t', rfl⟩, q⟩
/-- a tuple taken many times -/
def rRepM (K : PySem.W.Frag) : R2 := fun x y H Q => ∃ l k xs, x = .ref l ∧ y = .int k ∧ SqT K H l xs ∧ xs ≠ [] ∧ 2 ≤ k ∧ (xs.length : Int) * k ≤ 1000000 ∧ ∀ p, H p = none → Q (.ref p) (upd H p (.tup (List.replicate k.toNat xs).flatten))
theorem op_repM : OpR X (binaryOp .Mult) (rRepM X.K) := by
  intro pns s σ H x y v u Q I rx ry h
  obtain ⟨l, k, xs, rfl, rfl, hT, hne, hlo, hz, q⟩ := h
  cases (show v = Value.ref l from rx)
  obtain ⟨t, rfl⟩ := ry
  obtain ⟨us, r, ⟨⟨cl, di, da, slo⟩, ho, hc, n, hd⟩, hs⟩ := I.tuple hT
  dsimp only at hc hd
  subst hc
  subst hd
  have hle : us.length = xs.length := r.length.symm
  have h0 : us.toArray.isEmpty = false := by
    cases us with
    | nil =>
      cases xs with
      | nil => exact absurd rfl hne
      | cons => cases hle
    | cons _ _ => rfl
  have hsz : us.toArray.size = xs.length := by rw [List.size_toArray, hle]
  have pos : 1 ≤ xs.length := by
    cases xs with
    | nil => exact absurd rfl hne
    | cons => rw [List.length_cons]; omega
  have hk : k ≤ 1000000 := by
    have a1 : (1 : Int) * k ≤ (xs.length : Int) * k := Int.mul_le_mul_of_nonneg_right (by omega) (by omega)
    omega
  have hm : ((us.toArray.size : Nat) : Int) * k ≤ 1000000 := by rw [hsz]; exact hz
  have hflat : (List.replicate k.toNat us).flatten.length ≤ sizeLine := by
    rw [lm_len_rep_flat, hle, sizeLine_eq]
    have a2 : ((k.toNat * xs.length : Nat) : Int) = (xs.length : Int) * k := by
      rw [Int.natCast_mul, Int.toNat_of_nonneg (by omega), Int.mul_comm]
    omega
  have c0 : (decide (k < -(2 ^ 63)) || decide (k ≥ 2 ^ 63)) = false := by
    simp only [Bool.or_eq_false_iff, decide_eq_false_iff_not]
    omega
  have c1 : (us.toArray.isEmpty || k == 1) = false := by
    rw [h0, Bool.false_or, beq_eq_false_iff_ne]
    omega
  have c2 : (decide (k ≤ 0) || us.toArray.isEmpty) = false := by
    rw [h0, Bool.or_false, decide_eq_false_iff_not]
    omega
  have c4 : Builtin.Tuple.tupleTooMany (((us.toArray.size : Nat) : Int) * k) = false := by
    unfold Builtin.Tuple.tupleTooMany
    rw [sizeLine_eq, decide_eq_false_iff_not]
    omega
  have big : (List.foldl (fun x1 x2 => x1 ++ x2) #[] (List.replicate k.toNat us.toArray)).size ≤ sizeLine := by
    rw [size_rep, List.size_toArray]
    exact hflat
  have inner := tuple_mulW l us.toArray n di slo k t c0 c1 c2 (by omega) c4 big
  have outer := int_rmul_tuple k t l us.toArray n di slo
  refine wpAny_binaryOp_repeat_ref (T := "tuple") (U := "int") (by decide) ⟨_, ho, rfl⟩ (fun s1 => typeIs_int s1 k t) noFill_tuple_mul F.fills_int_mul F.slot_int_rmul repeat_tuple F.slot_int_index.lookup ?_
  refine call_meets F.slot_int_rmul (typeIs_int s k t) F.entry_int_rmul (F.args_int_rmul_2 _ _) outer ⟨ho, rfl, ⟨_, ho, rfl⟩, ?_⟩
  refine call_meets F.slot_tuple_mul ⟨_, ho, rfl⟩ F.entry_tuple_mul (F.args_tuple_mul_2 _ _) inner ⟨ho, ?_⟩
  rw [size_rep]
  have hnew : H s.heap.objs.size = none := I.hok.fresh (Nat.le_refl _)
  have hfl2 : (List.replicate k.toNat xs).flatten.length ≤ sizeLine := by
    have z := (r.rep k.toNat).length
    rw [z]
    exact hflat
  exact ⟨.ref s.heap.objs.size, _, I.laid (t' := s.toks) (o := .tup (List.replicate k.toNat xs).flatten) (fun b ob z => Heap.get?_push_of_some _ z) (Nat.le_refl _) ⟨hfl2, _, r.rep k.toNat, IsTup.new _ _⟩, rfl, q _ hnew⟩
/-- a != b of two tuples of the very same items -/
def rNeST (K : PySem.W.Frag) : R2 := fun x y H Q => ∃ (a b : Addr) (xs : List V), x = .ref a ∧ y = .ref b ∧ SqT K H a xs ∧ SqT K H b xs ∧ (∀ v ∈ xs, okV v) ∧ Q (.bl false) H
theorem op_neST (hu : X.A.units + 64 < cLine) : OpR X (compareOp .NotEq) (rNeST X.K) := by
  intro pns s σ H x y v u Q I rx ry h
  obtain ⟨a, b, xs, rfl, rfl, ha, hb, ok, q⟩ := h
  cases (show v = Value.ref a from rx)
  cases (show u = Value.ref b from ry)
  obtain ⟨us, r1, p1, _⟩ := I.tuple ha
  obtain ⟨ws, r2, p2, _⟩ := I.tuple hb
  have hz : us.toArray.size = ws.toArray.size := by
    rw [List.size_toArray, List.size_toArray, ← r1.length, ← r2.length]
  refine SeqAt.RcNeAt.tuples (e := fun _ => true) p1 p2 (by omega) (fun j h1 h2 => ?_) X.prog X.w X.xe _ ?_
  · have z := vals_eqAt (A := X.A.in1) (s := s) ok r1 r2 j (by simpa using h1) (by simpa using h2)
    simpa using z
  · rw [show ((List.range (min us.toArray.size ws.toArray.size)).all fun _ => true) = true from List.all_eq_true.mpr fun _ _ => rfl, hz]
    exact ⟨.bl _, H, I, rfl, by simpa using q⟩
/-- a != b, both of them pairs of ints -/
def rNeI2 (K : PySem.W.Frag) : R2 := fun x y H Q => ∃ (a b : Addr) (i j k l : Int), x = .ref a ∧ y = .ref b ∧ SqT K H a [.int i, .int j] ∧ SqT K H b [.int k, .int l] ∧ Q (.bl (!decide (i = k ∧ j = l))) H
theorem op_neI2 (hu : X.A.units + 64 < cLine) : OpR X (compareOp .NotEq) (rNeI2 X.K) := by
  intro pns s σ H x y v u Q I rx ry h
  obtain ⟨a, b, i, j, k, l, rfl, rfl, ha, hb, q⟩ := h
  cases (show v = Value.ref a from rx)
  cases (show u = Value.ref b from ry)
  obtain ⟨us, r1, p1, _⟩ := I.tuple ha
  obtain ⟨ws, r2, p2, _⟩ := I.tuple hb
  obtain ⟨u1, u2, rfl, ⟨t1, rfl⟩, ⟨t2, rfl⟩⟩ := vals2 r1
  obtain ⟨w1, w2, rfl, ⟨t3, rfl⟩, ⟨t4, rfl⟩⟩ := vals2 r2
  refine SeqAt.RcNeAt.tuples (e := fun n => if n = 0 then i == k else j == l) p1 p2 (by omega) (fun n h1 h2 => ?_) X.prog X.w X.xe _ ?_
  · match n, h1, h2 with
    | 0, _, _ => exact SeqAt.EqAt.int_int i t1 k t3
    | 1, _, _ => exact SeqAt.EqAt.int_int j t2 l t4
    | n + 2, h1, _ => exact absurd h1 (by simp)
  · have e : (!((List.range (min [Value.int i t1, Value.int j t2].toArray.size [Value.int k t3, Value.int l t4].toArray.size)).all (fun n => if n = 0 then i == k else j == l) && [Value.int i t1, Value.int j t2].toArray.size == [Value.int k t3, Value.int l t4].toArray.size)) = !decide (i = k ∧ j = l) := by
      show (!((List.range 2).all (fun n => if n = 0 then i == k else j == l) && true)) = _
      rw [show List.range 2 = [0, 1] from rfl]
      by_cases e1 : i = k <;> by_cases e2 : j = l <;> simp [e1, e2]
    rw [e]
    exact ⟨.bl _, H, I, rfl, q⟩
/-- a == b of two lists of the very same items -/
def rEqS (K : PySem.W.Frag) : R2 := fun x y H Q => ∃ (a b : Addr) (xs : List V), x = .ref a ∧ y = .ref b ∧ SqL K H a xs ∧ SqL K H b xs ∧ (∀ v ∈ xs, okV v) ∧ Q (.bl true) H
theorem op_eqS (hu : X.A.units + 64 < cLine) : OpR X (compareOp .Eq) (rEqS X.K) := by
  intro pns s σ H x y v u Q I rx ry h
  obtain ⟨a, b, xs, rfl, rfl, ha, hb, ok, q⟩ := h
  cases (show v = Value.ref a from rx)
  cases (show u = Value.ref b from ry)
  obtain ⟨us, r1, p1, _⟩ := I.list ha
  obtain ⟨ws, r2, p2, _⟩ := I.list hb
  have hz : us.toArray.size = ws.toArray.size := by
    rw [List.size_toArray, List.size_toArray, ← r1.length, ← r2.length]
  refine SeqAt.eq_listAt (e := fun _ => true) p1.isList p2.isList hz (by omega) (fun j h1 h2 => ?_) ?_
  · have z := vals_eqAt (A := X.A.in1) (s := s) ok r1 r2 j (by simpa using h1) (by simpa using h2)
    simpa using z
  · rw [show ((List.range us.toArray.size).all fun _ => true) = true from List.all_eq_true.mpr fun _ _ => rfl]
    exact ⟨.bl true, H, I, rfl, q⟩
/-- a != [], a a list -/
def rNeNil (K : PySem.W.Frag) : R2 := fun x y H Q => ∃ (a b : Addr) (xs : List V), x = .ref a ∧ y = .ref b ∧ SqL K H a xs ∧ SqL K H b [] ∧ Q (.bl (!xs.isEmpty)) H
theorem op_neNil (hu : X.A.units + 64 < cLine) : OpR X (compareOp .NotEq) (rNeNil X.K) := by
  intro pns s σ H x y v u Q I rx ry h
  obtain ⟨a, b, xs, rfl, rfl, ha, hb, q⟩ := h
  cases (show v = Value.ref a from rx)
  cases (show u = Value.ref b from ry)
  obtain ⟨us, r1, p1, _⟩ := I.list ha
  obtain ⟨ws, r2, p2, _⟩ := I.list hb
  cases r2
  cases r1 with
  | nil => exact SeqAt.RcNeAt.lists (e := fun _ => true) p1.isList p2.isList rfl (by omega) (fun j h1 h2 => absurd h2 (by simp)) X.prog X.w X.xe _ ⟨.bl false, H, I, rfl, q⟩
  | cons a1 b1 => exact SeqAt.RcNeAt.lists_lengths p1.isList p2.isList (by simp) (by omega) X.prog X.w X.xe _ ⟨.bl true, H, I, rfl, q⟩
/-- how many unlike ints a list has -/
def unlike (ns : List Int) : Nat := (firstMet (fun i => ns.getD i 0) ns.length).length
def tUnlike (K : PySem.W.Frag) (ta : TE) : TE := fun σ H Q => ta σ H fun x G => ∃ (l : Addr) (ns : List Int), x = .ref l ∧ SqL K G l (ns.map V.int) ∧ ns.length ≤ 4000 ∧ Q (.int (unlike ns : Nat)) G
theorem pe_unlike {e : Expr} {ta : TE} {p1 p2 p3 p4 : Pos} (hg : Gl X "len") (hm : X.mg "len" = none) (hg2 : Gl X "set") (hm2 : X.mg "set" = none) (ha : PE X e ta) (hc : X.calm = true := by rfl)
    (na : starEach [e] X.env = (false, eval e X.env) :: starEach [] X.env := by rfl) : PE X (.Call (.Name "len" p1) [.Call (.Name "set" p2) [e] [] p3] [] p4) (tUnlike X.K ta) := by
  refine ⟨fun pns s σ H Q I h => Call_ (ld_blt I hg hm PySem.boot_len (callWith_builtin1 (args_cons (Call_ (ld_blt I hg2 hm2 boot_set (callWith_type1 (args_cons (thn (ha.run pns s σ H _ I h) ?_) na) na rfl))) rfl) rfl rfl))⟩
  rintro v t ⟨x, G, J, r, l, ns, rfl, hq, hl, q⟩
  cases r
  obtain ⟨us, rv, pl, _⟩ := J.list hq
  have hz : us.toArray.size = ns.length := by rw [List.size_toArray, ← rv.length, List.length_map]
  refine args_nil (call_set_list (J.ok.hd hc) pl.isList (ns := ns) (by simpa using RZ.intsAre_vals rv) (by rw [hz]; unfold scanBound; omega) fun h' tk hS hk => args_nil ?_)
  rw [hz] at hS
  obtain ⟨o, es, ep, tb, ho, hex, hd, _, _, _, hf, hn⟩ := hS
  have hle := firstMet_length_le (fun i => ns.getD i 0) ns.length
  have J2 : Inv X pns σ G { t with heap := h', toks := tk } := J.kept fun b o e => hk b o (Heap.lt_size e) e
  exact call_len_set ho hex hd hf (by rw [hn]; omega) ⟨.int (unlike ns : Nat), G, J2.tok _, ⟨_, by rw [hn]; rfl⟩, q⟩
/-- a class without an __init__ -/
structure MkO (K : PySem.W.Frag) (C : Addr) : Prop where
  makes : PySem.W.makesIn K C = true
  init : PySem.W.findIn K (.ref C) "__init__" = some (some (.builtin "object.__init__"))
  kp : PySem.W.keepIn K (.ref C) = true
  ob : PySem.W.mroIn K C (.type "object") = some true
def mkoB (K : PySem.W.Frag) (C : Addr) : Bool := PySem.W.makesIn K C && (He.eqO (PySem.W.findIn K (.ref C) "__init__") (some (some (.builtin "object.__init__"))) && (PySem.W.keepIn K (.ref C) && decide (PySem.W.mroIn K C (.type "object") = some true)))
theorem mkoB_ok {K : PySem.W.Frag} {C : Addr} (h : mkoB K C = true) : MkO K C := by
  obtain ⟨h1, h⟩ := He.ba h
  obtain ⟨h2, h⟩ := He.ba h
  obtain ⟨h3, h4⟩ := He.ba h
  exact ⟨h1, He.eqO_ok h2, h3, of_decide_eq_true h4⟩
theorem pe_make00 {C : Addr} {x : Str} {p pos : Pos} (M : MkO X.K C) (hg : Gl X x) (hm : X.mg x = some (.ref C)) (hdb : (x == ("__debug__" : Str)) = false := by decide) :
    PE X (.Call (.Name x p) [] [] pos) (fun σ H Q => ∀ x dx, H x = none → H dx = none → dx ≠ x → Q (.ref x) (upd (upd H dx (.own x)) x (.ins C dx []))) := by
  refine ⟨fun pns s σ H Q I h => wpAny_Call_Name_kw (ld_glob I hg hm ?_ hdb)⟩
  refine PySem.W.callWith_K0 I.kIn M.kp ?_
  show wpAny _ _ (call (.ref C) []) _ _ _
  have hq := h (s.heap.objs.size + 1) s.heap.objs.size (I.hok.fresh (Nat.le_succ _)) (I.hok.fresh (Nat.le_refl _)) (Nat.ne_of_lt (Nat.lt_succ_self _))
  have J := Inv.made (C := C) I
  refine wpAny_call (make_map0 I.kIn M.makes M.init (fun me => PySem.W.Looks.of_pure (PySem.W.oi_bind me)) ?_)
  have ho : ((s.heap.push PySem.W.emptyDict).push (PySem.W.instObj C s.heap.objs.size)).get? (s.heap.objs.size + 1) = some (PySem.W.instObj C s.heap.objs.size) := by
    have z := Heap.get?_push_size (s.heap.push PySem.W.emptyDict) (o := PySem.W.instObj C s.heap.objs.size) rfl
    rw [Heap.size_push] at z
    exact z
  have t1 : PySem.W.Looks (model X.prog X.w) ((s.heap.push PySem.W.emptyDict).push (PySem.W.instObj C s.heap.objs.size)) (typeOf (.ref (s.heap.objs.size + 1))) (.ref C) := (PySem.W.Looks.ld ho).andThen .now
  have t2 : PySem.W.Looks (model X.prog X.w) ((s.heap.push PySem.W.emptyDict).push (PySem.W.instObj C s.heap.objs.size)) (isInstance (.ref (s.heap.objs.size + 1)) (.type "object")) true := t1.andThen (PySem.W.looks_mroIn J.kIn M.ob)
  refine codeAny_call_builtin PySem.W.oi_plain PySem.W.entry_oi (PySem.W.check_slot PySem.W.oi_kind PySem.W.oi_split t2 (PySem.W.oi_args (.ref (s.heap.objs.size + 1))) ?_)
  rw [PySem.W.oi_run]
  exact wpAny_pure ⟨rfl, ⟨V.ref (s.heap.objs.size + 1), _, J, rfl, hq⟩⟩
/-! ### within a comprehension: the written part by its name -/
theorem ix_listK {K : PySem.W.Frag} (h : X.K = K := by rfl) : IxR X (rIxL K) := by
  subst h
  exact ix_list
theorem ix_tupK {K : PySem.W.Frag} (h : X.K = K := by rfl) : IxR X (rIxT K) := by
  subst h
  exact ix_tup
theorem pg_tupK {K : PySem.W.Frag} {n : Nat} {es : List Expr} {k : Nat} {t : TGs} (hc : X.calm = true) (h : PGs X es t) (hK : X.K = K := by rfl)
    (hn : (assignEach es X.env).length = n := by rfl) (hst : (assignEach es X.env).findIdx? (·.1) = none := by rfl) : PG X (.Tuple es k pos) (gTup K n t) := by
  subst hK
  exact pg_tup hc h hn hst
theorem op_ltTK {K : PySem.W.Frag} (hu : X.A.units < cLine) (h : X.K = K := by rfl) : OpR X (compareOp .Lt) (rLtT K) := by
  subst h
  exact op_ltT hu
end
end CM
set_option Elab.async false
set_option linter.all false
set_option maxRecDepth 100000
set_option maxHeartbeats 4000000
namespace SL
open PySem PySem.Spec PyProof.Rows L2 CM LamX
/-! ### a def whose code object is told -/
section
variable {P : Program} {w : World} {K : PySem.W.Frag} {mg : Str → Option Value} {base : Heap} {x qual : Str} {params : Arguments} {body : List Stmt} {scope : Scope} {dvs : List V} {kws : List (Str × V)} {fd : FuncData}
theorem okC {CX : CXT} {N ps : List Str} {k : Nat} {sp : Sp} {p : He.Defn} (F : FunD K x qual params body scope dvs kws (He.fAd K p) fd) (S : FnScope N ps scope) (len : ∀ vs H Q E, sp vs H Q E → vs.length = ps.length)
    (hbody : ∀ (A : Around) (outer : List Env) (s : Shared) (H : Hp) (vs : List V) (Q : VK) (E : XK), Room k (A.deeper (envOfC qual scope s.heap.objs.size (He.fAd K p) (.ref (He.codeOf K p)))) → sp vs H Q E →
      ∃ t, PSs (cxOf CX P w K mg base N qual scope (He.fAd K p) (.ref (He.codeOf K p)) A outer s H E) body t ∧ t { nx := fun _ H' => Q .non H', rt := Q } (start N vs) H) : FnOk P w K mg base CX (k + 1) (He.fAd K p) fd ps sp := by
  obtain ⟨oc, od, dV, kV, doc, pm, an, cdv, ct, osl, rfl, lk, hcd, _, _⟩ := F.ex
  obtain ⟨c, rfl⟩ := He.codeIn_ref hcd
  have e : He.codeOf K p = c := He.codeOf_eq lk rfl
  rw [e] at hbody
  exact fn_of lk hcd S len hbody
end
/-! ### a lambda of one parameter, called: its key alone is asked, the heap grows -/
/-- one parameter of its own, captured names, globals -/
structure Lam1 (sc scope : Scope) (x : Str) : Prop where
  kind : scope.kind = .function
  co : scope.isCoroutine = false
  gen : scope.isGenerator = false
  par : scope.names.lookup x = some .local
  nocell : ∀ y ∈ scope.names, y.2 ≠ .cell
  free : ∀ y ∈ scope.names, y.2 = .free → sc.names.lookup y.1 = some .cell ∨ sc.names.lookup y.1 = some .free
def lam1B (sc scope : Scope) (x : Str) : Bool :=
  decide (scope.kind = .function) && (!scope.isCoroutine && (!scope.isGenerator && (decide (scope.names.lookup x = some .local) && ((scope.names.all fun y => !decide (y.2 = .cell)) && (scope.names.all fun y => !decide (y.2 = .free) || decide (sc.names.lookup y.1 = some .cell) || decide (sc.names.lookup y.1 = some .free))))))
theorem lam1_by {sc scope : Scope} {x : Str} (h : lam1B sc scope x = true) : Lam1 sc scope x := by
  unfold lam1B at h
  simp only [Bool.and_eq_true, Bool.or_eq_true, Bool.not_eq_true', decide_eq_true_eq, decide_eq_false_iff_not, List.all_eq_true] at h
  obtain ⟨h1, h2, h3, h4, h5, h6⟩ := h
  refine ⟨h1, h2, h3, h4, h5, fun y hy e => ?_⟩
  rcases h6 y hy with (z | z) | z
  · exact absurd e z
  · exact .inl z
  · exact .inr z
theorem Lam1.has {X : Cx} {scope : Scope} {x : Str} (L : Lam1 X.env.scope scope x) (ok : X.Ok) : ∀ y ∈ scope.names, y.2 = .free → ∃ c, X.env.cells.lookup y.1 = some c := fun y hy e =>
  (L.free y hy e).elim (fun z => ok.has _ (.inl z)) fun z => ok.has _ (.inr z)
section
variable {prog : Program} {w : World} {A : Around} {s : Shared}
theorem lam_call {sc : Scope} {f c' : Addr} {x : Str} {params : Arguments} {body : Expr} {scope : Scope} {cl : List (Str × Addr)} {pm ctv v : Value} {qual : Str} {k : PyData} (L : Lam1 sc scope x)
    (hroom : A.depth < recursionLimit) (hf : s.heap.get? f = some (PySem.W.kla_obj "<lambda>" qual params body scope cl pm c' ctv)) (hcd : s.heap.CodeRec (.ref c') qual) (lim : s.heap.NoLimit)
    (hbind : bindArgs (PySem.W.kla_fn "<lambda>" qual params body scope cl pm (.ref c') ctv) ⟨[v], []⟩ = pure [(x, v)])
    (h : ∀ (D : Addr) (g : Heap) (tk : Nat), (∀ b o, s.heap.get? b = some o → g.get? b = some o) → g.Ns D (fun y => [(x, v)].reverse.lookup y) →
      wpAny (model prog w) (A.deeper (PySem.W.envX qual scope D f (.ref c') cl)) (eval body (PySem.W.envX qual scope D f (.ref c') cl)) (PySem.W.KeyPure k { s with heap := g, toks := tk }) (fun _ _ => False) { s with heap := g, toks := tk }) :
    wpAny (model prog w) A (call (.ref f) [v]) (PySem.W.KeyPure k s) (fun _ _ => False) s := by
  refine wpAny_call (PySem.W.kla_callFunE hroom hf rfl L.co L.gen rfl hcd ?_)
  rw [hbind]
  refine wpAny_pure (wpAny_newFunctionEnv L.nocell (fun y hy => ?_) (fun g hns hsb => ⟨lim.fresh _ hsb, ?_⟩) L.kind)
  · rw [List.mem_singleton.mp hy]
    exact L.par
  · have up : ∀ b o, s.heap.get? b = some o → g.get? b = some o := fun b o e => hsb.extBut b o (Nat.ne_of_lt (Heap.lt_size e)) (Heap.get?_push_of_some _ e)
    refine PySem.W.kla_codeExpr (wpAny_mono (h _ g _ up hns) (fun u t ⟨g2, tk, e, up2, rd⟩ => ?_) fun _ _ z => z.elim)
    exact ⟨g2, tk, e, fun b o q => up2 b o (up b o q), rd⟩
end
/-! ### sorted(e, key=lambda x: body) -/
/-- what stands at the captured names: cells of the running frame, their values -/
def CapAt (X : Cx) (σ : L2.St) (g : Heap) (cl : List (Str × Addr)) : Prop := ∀ (i : Nat) (y : Str) (v : V), X.N[i]? = some y → σ[i]? = some (some v) → (∃ c, cl.lookup y = some c) → ∃ c u, cl.lookup y = some c ∧ RelV v u ∧ g.IsCell c (some u)
theorem capAt_of {X : Cx} {pins : List (Addr × Obj)} {σ : L2.St} {H : Hp} {s : Shared} {scope : Scope} {x : Str} (I : Inv X pins σ H s) (L : Lam1 X.env.scope scope x) : CapAt X σ s.heap (cloFrom X.env.cells scope.names []) := by
  intro i y v hi hv ⟨c, hc⟩
  have hm : (y, NameKind.free) ∈ scope.names := by
    rcases cloFrom_mem (PySem.mem_of_lookup hc) with hm | ⟨h1, _⟩
    · cases hm
    · exact h1
  have hk := L.free _ hm rfl
  obtain ⟨m, _, hl⟩ := I.loc
  obtain ⟨u, r, q⟩ := hl i y v hi hv (hk.elim (fun z => .inr (.inl z)) fun z => .inr (.inr z))
  rcases q with ⟨z, _⟩ | ⟨_, c2, hc2, cell⟩
  · have z : X.env.scope.names.lookup y = some .local := z
    rcases hk with k | k <;> rw [show X.env.scope.names.lookup y = _ from k] at z <;> cases z
  · refine ⟨c, u, hc, r, ?_⟩
    have hc' : (y, c) ∈ cloFrom X.env.cells scope.names [] := PySem.mem_of_lookup hc
    rcases cloFrom_mem hc' with hm | ⟨_, e⟩
    · cases hm
    · rw [e, hc2]
      exact cell
/-- the key's reckoning: k, for the item v, wherever the heap has grown -/
def KeyRun (X : Cx) (σ : L2.St) (body : Expr) (scope : Scope) (x : Str) (s : Shared) (H : Hp) (v : Value) (k : PyData) : Prop :=
  ∀ (A : Around) (qual : Str) (f c' D : Addr) (cl : List (Str × Addr)) (g : Heap) (tk : Nat), X.A.units ≤ A.units → (∀ b o, s.heap.get? b = some o → g.get? b = some o) → CapAt X σ g cl → (∀ y, scope.names.lookup y = some .free → ∃ c, cl.lookup y = some c) →
    g.Ns D (fun y => [(x, v)].reverse.lookup y) → wpAny (model X.prog X.w) A (eval body (PySem.W.envX qual scope D f (.ref c') cl)) (PySem.W.KeyPure k { s with heap := g, toks := tk }) (fun _ _ => False) { s with heap := g, toks := tk }
/-- the reading -/
def tSortL {β : Type} (X : Cx) (T : List (Addr × Str)) (body : Expr) (scope : Scope) (x : Str) (ta : TE) : TE := fun σ H Q => ta σ H fun u H1 => Tabs T H1 ∧ ∃ (l : Addr) (bs : List β) (vf : β → V) (kf : β → PyData), u = .ref l ∧ SqL X.K H1 l (bs.map vf) ∧
  (∀ b ∈ bs, ∀ d ∈ bs, PySem.W.alike (kf b) (kf d) = true) ∧ PySem.W.Sortable (bs.map kf) ∧ (∀ b ∈ bs, (kf b).depth ≤ 60) ∧
  (∀ (pins : List (Addr × Obj)) (s : Shared) (H2 : Hp) (b : β) (v : Value), Inv X pins σ H2 s → ExtN H1 H2 → b ∈ bs → RelV (vf b) v → KeyRun X σ body scope x s H2 v (kf b)) ∧
  ∀ (D : Addr) (H2 : Hp), ExtN H1 H2 → (∀ o, H1 D = some o → ∃ ps, o = .tbl ps) → Tabs T H2 → H2 D = some (.lst ((bs.mergeSort (PySem.W.dataLe false kf)).map vf)) → Q (.ref D) H2
theorem each_of_vals {β : Type} {vf : β → V} : ∀ {bs : List β} {us : List Value}, Vals (bs.map vf) us → PySem.W.EachIs (fun v b => RelV (vf b) v) us bs
  | [], _, .nil => .nil
  | b :: bs, _, .cons r t => .cons r (each_of_vals t)
theorem vals_of_each {β : Type} {vf : β → V} : ∀ {bs : List β} {us : List Value}, PySem.W.EachIs (fun v b => RelV (vf b) v) us bs → Vals (bs.map vf) us
  | [], _, .nil => .nil
  | b :: bs, _, .cons r t => .cons r (vals_of_each t)
section
variable {X : Cx}
theorem pe_sortL {β : Type} {T : List (Addr × Str)} {c P : Addr} {a : Expr} {ta : TE} {params : Arguments} {body : Expr} {scope : Scope} {x : Str} {k : Nat} {lpos kpos p1 pos : Pos} (hr : Room k X.A) (TB : TabB X.base X.mg c P) (hcode : X.env.code = .ref c)
    (hmT : (P, X.env.qual ++ "<lambda>") ∈ T) (hu : ∀ p ∈ T, p.1 = P → p.2 = X.env.qual ++ "<lambda>") (L : Lam1 X.env.scope scope x) (hdef : defaultsOf params X.env = ([], []))
    (hbind : ∀ (q : Str) (cl : List (Str × Addr)) (pm cv ctv v : Value), bindArgs (PySem.W.kla_fn "<lambda>" q params body scope cl pm cv ctv) ⟨[v], []⟩ = pure [(x, v)])
    (hg : Gl X "sorted") (hm : X.mg "sorted" = none) (ha : PE X a ta)
    (he : backTo pos (starEach [a] X.env) = (false, eval a X.env) :: backTo pos (starEach [] X.env) := by rfl) (hpl : (backTo pos (starEach [a] X.env)).any (·.1) = false := by rfl) :
    PE X (.Call (.Name "sorted" p1) [a] [⟨some "key", .Lambda params body scope lpos, kpos⟩] pos) (tSortL (β := β) X T body scope x ta) := by
  refine ⟨fun pins s σ H Q I h => ?_⟩
  refine wpAny_Call_Name_kw (ld_blt I hg hm (show bootBuiltins "sorted" = some (.builtin "sorted") by decide +kernel) ?_ (by decide) (by decide))
  refine PyProof.Rows.callWith_kw ?_ he hpl (by rfl) (by rfl)
  rw [he]
  refine Calls.spliced_cons (thn (ha.run pins s σ H _ I h) fun u s1 ⟨v0, H1, I1, r1, hT, l, bs, vf, kf, e0, hS, al, so, dp, kr, q⟩ => Calls.spliced_nil ?_)
  subst e0
  obtain rfl : u = Value.ref l := r1
  show wpAny _ _ (evalAll ((do let v ← eval (.Lambda params body scope lpos) X.env; standAt pos; pure v) :: [])) _ _ s1
  refine wpAny_evalAll_cons (wpAny_bind (lam_make2 I1 TB hcode hmT hu hT hdef (L.has I1.ok) fun f c' pm ctv H2 s2 I2 eN T2 hf hfn hfr hco => wpAny_bind (wpAny_standAt (wpAny_pure (wpAny_evalAll_nil ?_)))))
  show wpAny _ _ (call (.builtin "sorted") [.ref l] [(Str.ofString "key", .ref f)]) _ _ s2
  have hS2 : SqL X.K H2 l (bs.map vf) := by
    rcases hS with hS | hS
    · rcases hS with hS | ⟨o, hS⟩
      · exact .inl (.inl (eN _ _ hS fun ps z => by cases z))
      · exact .inl (.inr ⟨o, eN _ _ hS fun ps z => by cases z⟩)
    · exact .inr hS
  obtain ⟨its, rv, hl, hz⟩ := I2.list hS2
  rw [List.length_map] at hz
  have hcr := (show ∃ (oc : Obj) (vs : Array Value) (t : Tok), s2.heap.get? c' = some oc ∧ oc.data = .fields vs ∧ vs[1]? = some (.str (X.env.qual ++ "<lambda>") t) from (I2.hok c' _ hco).1)
  have ea := each_of_vals rv
  refine PySem.W.sorted_key_data (b := false) (bs := bs) (R := fun v b => RelV (vf b) v) kf hl.isList ea ?_ so hz (fun b hb => ?_) (PyProof.Rows.ksk_s1 _ _) (fun _ => PyProof.Rows.ksk_l1 _ _) (fun _ => PyProof.Rows.ksk_t1 _ _)
    (fun v b rb hb g tk up => ?_) fun out cc g tk up hD hD2 hlen eo => ?_
  · intro d hd e he
    obtain ⟨b, hb, rfl⟩ := List.mem_map.mp hd
    obtain ⟨b2, hb2, rfl⟩ := List.mem_map.mp he
    exact al b hb b2 hb2
  · have z1 := hr.units
    have z2 := dp b hb
    omega
  · have I3 : Inv X pins σ H2 { s2 with heap := g, toks := tk } := I2.kept up
    obtain ⟨oc, vs, t, h1, h2, h3⟩ := hcr
    refine lam_call L (by show X.A.depth < _; exact hr.depth) (up _ _ hf) ⟨c', oc, vs, t, rfl, up _ _ h1, h2, h3⟩ I3.nolimit (hbind _ _ _ _ _ _) fun D g2 tk2 up2 hns => ?_
    refine kr pins _ H2 b v I3 eN hb rb _ _ _ _ _ _ g2 tk2 (by show X.A.units ≤ X.A.units + 1 + 1 + 3; omega) up2 ?_ (fun y hy => ?_) hns
    · intro i y w hi hw hc
      obtain ⟨c0, u0, a1, a2, o, a3, a4⟩ := capAt_of I3 L i y w hi hw hc
      exact ⟨c0, u0, a1, a2, o, up2 _ _ a3, a4⟩
    · exact mem_lookup (cloFrom_has (cells := X.env.cells) (acc := []) (PySem.mem_of_lookup hy))
  · have hlen2 : ((bs.mergeSort (PySem.W.dataLe false kf)).map vf).length ≤ sizeLine := by
      rw [List.length_map, List.length_mergeSort]
      exact hz
    have hnew : H2 (s2.heap.objs.size + 1) = none := I2.hok.fresh (Nat.le_succ _)
    have vo := vals_of_each eo
    refine ⟨.ref (s2.heap.objs.size + 1), upd H2 (s2.heap.objs.size + 1) (.lst ((bs.mergeSort (PySem.W.dataLe false kf)).map vf)), I2.laid (t' := tk) up (Nat.le_succ _) ⟨hlen2, out, cc, vo, hD2⟩, rfl, ?_⟩
    refine q _ _ (fun b o e n => ?_) (fun o e1 => ?_) (T2.ext fun b o e => ?_) upd_same
    · rw [upd_ne (ne_of_none (eN _ _ e n) hnew)]
      exact eN _ _ e n
    · cases o with
      | tbl ps => exact ⟨ps, rfl⟩
      | _ =>
        rw [eN _ _ e1 (fun ps z => by cases z)] at hnew
        cases hnew
    · rw [upd_ne (ne_of_none e hnew)]
      exact e
end
end SL
set_option Elab.async false
set_option linter.all false
set_option maxRecDepth 100000
set_option maxHeartbeats 4000000
namespace SL
open PySem PySem.Spec PyProof.Rows L2 CM LamX
/-! ### tables stay -/
theorem Tabs.kp {T : List (Addr × Str)} {a : Addr} {xs : List V} {H H' : Hp} (t : Tabs T H) (ha : H a = some (.lst xs)) (k : Kp a H H') : Tabs T H' := fun p hp => by
  obtain ⟨ps, h1, h2, h3⟩ := t p hp
  have ne : ∀ {b : Addr} {o : HO}, H b = some o → (∀ ys, o ≠ .lst ys) → b ≠ a := fun {b o} e n z => by
    rw [z, ha] at e
    exact n xs (Option.some.inj e).symm
  refine ⟨ps, k _ _ (ne h1 fun ys z => by cases z) h1, h2, fun pos cv hc => ?_⟩
  obtain ⟨c, e1, e2⟩ := h3 pos cv hc
  exact ⟨c, e1, k _ _ (ne e2 fun ys z => by unfold CodeO at z; cases z) e2⟩
theorem Tabs.same {T : List (Addr × Str)} {H H' : Hp} (t : Tabs T H) (s : Same H H') : Tabs T H' := t.ext s
/-- all but the thing at a and the tables stays -/
def KpN (a : Addr) (H H' : Hp) : Prop := ∀ b o, b ≠ a → (∀ ps, o ≠ .tbl ps) → H b = some o → H' b = some o
theorem KpN.of {a : Addr} {H H' : Hp} (k : Kp a H H') : KpN a H H' := fun b o n _ e => k b o n e
theorem KpN.ext {a : Addr} {H H' : Hp} (k : ExtN H H') : KpN a H H' := fun b o _ n e => k b o e n
theorem KpN.trans {a : Addr} {H H1 H2 : Hp} (x : KpN a H H1) (y : KpN a H1 H2) : KpN a H H2 := fun b o n m e => y b o n m (x b o n m e)
theorem ExtN.of_same {H H' : Hp} (s : Same H H') : ExtN H H' := fun b o e _ => s b o e
theorem ExtN.seqL {K : PySem.W.Frag} {H H' : Hp} {a : Addr} {xs : List V} (e : ExtN H H') (h : SqL K H a xs) : SqL K H' a xs := by
  rcases h with (h | ⟨o, h⟩) | h
  · exact .inl (.inl (e _ _ h fun ps z => by cases z))
  · exact .inl (.inr ⟨o, e _ _ h fun ps z => by cases z⟩)
  · exact .inr h
theorem one_tab {P P' : Addr} {q q' : Str} (e : q = q') : ∀ p ∈ [(P', q)], p.1 = P → p.2 = q' := fun p hp _ => by rw [List.mem_singleton.mp hp]; exact e
/-! ### the key (m[x], x) -/
/-- a leaf as data -/
inductive LeafD : V → PyData → Prop where
  | int (i : Int) : LeafD (.int i) (.int i)
  | str (z : Str) : LeafD (.str z) (.str z)
theorem LeafD.reads {w : V} {d : PyData} {u : Value} {h : Heap} (l : LeafD w d) (r : RelV w u) : Reads h u d [] := by
  cases l with
  | int i =>
    obtain ⟨t, rfl⟩ := r
    exact .int i t
  | str z =>
    obtain ⟨t, rfl⟩ := r
    exact .str z t
theorem ns_one {x : Str} {v : Value} : [(x, v)].reverse.lookup x = some v := by simp [List.lookup]
theorem kr_pair {X : Cx} {pins : List (Addr × Obj)} {σ : L2.St} {H : Hp} {s : Shared} {scope : Scope} {m x : Str} {i b : Nat} {l : Addr} {items : List V} {w : V} {d : PyData} {v : Value} {ctx : Nat} {p1 p2 p3 p4 p5 : Pos} (I : Inv X pins σ H s)
    (kind : scope.kind = .function) (hm : scope.names.lookup m = some .free) (hx : scope.names.lookup x = some .local) (hN : X.N[i]? = some m) (hs : σ[i]? = some (some (.ref l))) (hl : SqL X.K H l items) (hb : items[b]? = some w) (ld : LeafD w d) (rv : RelV (.int (b : Int)) v)
    (dm : (m == ("__debug__" : Str)) = false := by decide) (dx : (x == ("__debug__" : Str)) = false := by decide) (cm : (m == ("__classdict__" : Str)) = false := by decide) :
    KeyRun X σ (.Tuple [.Subscript (.Name m p1) (.Name x p2) p3, .Name x p4] ctx p5) scope x s H v (.tuple [d, .int (b : Int)]) := by
  intro A qual f c' D cl g tk hu up cap has hns
  obtain ⟨its, rvs, pl, hz⟩ := I.list hl
  obtain ⟨c0, u0, hc0, r0, cell⟩ := cap i m (.ref l) hN hs (has m hm)
  cases (show u0 = Value.ref l from r0)
  obtain ⟨t, rfl⟩ := rv
  obtain ⟨w', ew, rw'⟩ := rvs.get hb
  have hlen := (List.getElem?_eq_some_iff.mp hb).1
  have hl63 := line63
  refine wpAny_Tuple_spliced ?_
  show wpAny _ _ (spliced ((false, eval (.Subscript (.Name m p1) (.Name x p2) p3) (PySem.W.envX qual scope D f (.ref c') cl)) :: (false, eval (.Name x p4) (PySem.W.envX qual scope D f (.ref c') cl)) :: [])) _ _ _
  refine Calls.spliced_cons (Subscript_ (wpAny_Name (wpAny_loadName_free kind hm hc0 cell ?_ cm) dm))
  refine wpAny_Name (wpAny_loadName_local kind hx hns ns_one ?_) dx
  have pl2 : g.IsList l its.toArray := by
    obtain ⟨o, h1, h2, n, h3⟩ := pl.isList
    exact ⟨o, up _ _ h1, h2, n, h3⟩
  refine item_listR (x := w') pl2 (by omega) (by omega) (by rw [Int.toNat_natCast]; simpa using ew) ?_ (by rfl)
  refine Calls.spliced_cons (wpAny_Name (wpAny_loadName_local kind hx hns ns_one (Calls.spliced_nil ⟨by show 2 ≤ sizeLine; decide, ?_⟩)) dx)
  refine ⟨_, _, rfl, fun b o e => Heap.get?_push_of_some _ e, ?_⟩
  exact Reads.tuple (as := [] ++ ([] ++ [])) (Heap.get?_push_size _ rfl) rfl rfl (.cons (ld.reads rw') (.cons (.int _ t) .nil))
/-! ### {k: v for x in a list} -/
theorem dc_list {K : PySem.W.Frag} {a : Addr} {xs : List V} {g : TG} {tt : TT} {tk tv : TE} {vs : List Nat} {σ : L2.St} {H1 : Hp} {D : Addr} {Qd : Hp → Prop} (Pv : Nat → Hp → Prop) (h0 : Pv 0 (upd H1 D (.dK []))) (hl : ∀ i H, i ≤ xs.length → Pv i H → SqL K H a xs)
    (hs : ∀ i x H, xs[i]? = some x → Pv i H → g x (wipe σ vs) H fun σ2 H2 => wipe σ2 vs = wipe σ vs ∧ tt σ2 H2 fun b H3 =>
      if b = true then tk σ2 H3 fun y H4 => tv σ2 H4 fun z H5 => ∃ kvs k, y = kV k ∧ H5 D = some (.dK kvs) ∧ kvs.length < sizeLine ∧ Pv (i + 1) (upd H5 D (.dK (putK kvs k z))) else Pv (i + 1) H3) (hd : ∀ H, Pv xs.length H → Qd H) :
    ∃ W : Nat → Nat → Hp → Prop, (∃ m, W 0 m (upd H1 D (.dK []))) ∧ ∀ i m H, W i m H →
      ((Itl K a).stop i H ∧ Qd H) ∨ ((Itl K a).go i H ∧ ∃ Nx : Hp → Prop, (∀ H', Nx H' → ∃ m', m' < m ∧ W (i + 1) m' H') ∧ ∀ x H', (Itl K a).yld i H x H' → g x (wipe σ vs) H' fun σ2 H2 => wipe σ2 vs = wipe σ vs ∧ tt σ2 H2 fun b H3 =>
        if b = true then tk σ2 H3 fun y H4 => tv σ2 H4 fun z H5 => ∃ kvs k, y = kV k ∧ H5 D = some (.dK kvs) ∧ kvs.length < sizeLine ∧ Nx (upd H5 D (.dK (putK kvs k z))) else Nx H3) := by
  refine ⟨fun i m H => m + i = xs.length ∧ Pv i H, ⟨xs.length, rfl, h0⟩, fun i m H ⟨e, p⟩ => ?_⟩
  have q := hl i H (by omega) p
  cases m with
  | zero =>
    have e : i = xs.length := by omega
    subst e
    exact .inl ⟨⟨xs, q, Nat.le_refl _⟩, hd H p⟩
  | succ m =>
    have hlt : i < xs.length := by omega
    refine .inr ⟨⟨xs, xs[i], q, List.getElem?_eq_getElem hlt⟩, Pv (i + 1), fun H' p' => ⟨m, Nat.lt_succ_self m, by omega, p'⟩, fun x H' y => ?_⟩
    obtain ⟨rfl, y⟩ := y
    exact hs i x _ (y xs q) p
/-! ### the first half of a sorted row -/
theorem count_take {α : Type} [BEq α] {lt : α → α → Bool} (irr : ∀ a, lt a a = false) (asy : ∀ a b, lt a b = true → lt b a = false) : ∀ {xs : List α} {h : Nat} {x : α}, xs.Pairwise (fun a b => lt a b = true) → x ∈ xs → (x ∈ xs.take h ↔ (xs.filter fun y => lt y x).length < h)
  | [], _, _, _, hx => by cases hx
  | a :: as, 0, x, _, _ => by
    simp
  | a :: as, h + 1, x, hp, hx => by
    obtain ⟨h1, h2⟩ := List.pairwise_cons.mp hp
    rw [List.take_succ_cons, List.mem_cons, List.filter_cons]
    by_cases e : x = a
    · subst e
      have f : as.filter (fun y => lt y x) = [] := by
        rw [List.filter_eq_nil_iff]
        intro y hy z
        rw [asy _ _ (h1 y hy)] at z
        cases z
      rw [irr, f]
      simp
    · have hx2 : x ∈ as := (List.mem_cons.mp hx).resolve_left e
      have ih := count_take (h := h) irr asy h2 hx2
      rw [h1 x hx2]
      simp only [e, false_or, if_true, List.length_cons]
      rw [ih]
      omega
/-- the numbers below n that a strict order puts ahead of i -/
def aheadN (lt : Nat → Nat → Bool) (n i : Nat) : Nat := ((List.range n).filter fun k => lt k i).length
theorem in_half {lt : Nat → Nat → Bool} (irr : ∀ a, lt a a = false) (tr : ∀ a b c, lt a b = true → lt b c = true → lt a c = true) (tot : ∀ a b, a ≠ b → lt a b = true ∨ lt b a = true) {le : Nat → Nat → Bool} (hle : ∀ a b, le a b = !lt b a) {n h i : Nat} (hi : i < n) :
    i ∈ ((List.range n).mergeSort le).take h ↔ aheadN lt n i < h := by
  have asy : ∀ a b, lt a b = true → lt b a = false := fun a b e => by
    cases q : lt b a with
    | false => rfl
    | true =>
      have z := tr a b a e q
      rw [irr] at z
      cases z
  have perm := List.mergeSort_perm (List.range n) le
  have nd : ((List.range n).mergeSort le).Nodup := perm.nodup_iff.mpr List.nodup_range
  have pw := List.pairwise_mergeSort (le := le) (fun a b c h1 h2 => by
    rw [hle] at h1 h2 ⊢
    simp only [Bool.not_eq_true'] at h1 h2 ⊢
    cases q : lt c a with
    | false => rfl
    | true =>
      by_cases e1 : a = b
      · subst e1
        rw [q] at h2
        cases h2
      · rcases tot a b e1 with z | z
        · rw [tr c a b q z] at h2
          cases h2
        · rw [h1] at z
          cases z) (fun a b => by
    rw [hle, hle]
    cases q : lt b a with
    | false => rfl
    | true => rw [asy _ _ q]; rfl) (List.range n)
  have ps : ((List.range n).mergeSort le).Pairwise (fun a b => lt a b = true) := by
    have both := pw.and nd
    refine both.imp fun {a b} ⟨h1, h2⟩ => ?_
    rw [hle] at h1
    simp only [Bool.not_eq_true'] at h1
    rcases tot a b h2 with z | z
    · exact z
    · rw [h1] at z
      cases z
  have hm : i ∈ (List.range n).mergeSort le := perm.mem_iff.mpr (List.mem_range.mpr hi)
  rw [count_take irr asy ps hm]
  unfold aheadN
  rw [(perm.filter _).length_eq]
/-! ### max of three -/
theorem call_max3 {X : Cx} (hc : X.calm = true) : CallR X (.builtin "max") (fun xs H Q => ∃ i j k, xs = [.int i, .int j, .int k] ∧ Q (.int (max (max i j) k)) H) := by
  intro pins s σ H xs us Q I r h
  obtain ⟨i, j, k, rfl, q⟩ := h
  obtain ⟨u, us2, rfl, r2⟩ : ∃ u us2, us = u :: us2 ∧ Vals [.int j, .int k] us2 ∧ RelV (.int i) u := by
    cases r with
    | cons a b => exact ⟨_, _, rfl, b, a⟩
  obtain ⟨v, w, rfl, ⟨t2, rfl⟩, ⟨t3, rfl⟩⟩ := vals2 r2.1
  obtain ⟨t1, rfl⟩ := r2.2
  refine max_three_ints (I.ok.hd hc) fun h' tk kp => ⟨_, H, I.kept kp, ?_, q⟩
  by_cases h1 : j > i <;> by_cases h2 : k > j <;> by_cases h3 : k > i <;> simp only [h1, h2, h3, if_true, if_false]
  all_goals first
    | (rw [show max (max i j) k = k by omega]; exact ⟨_, rfl⟩)
    | (rw [show max (max i j) k = j by omega]; exact ⟨_, rfl⟩)
    | (rw [show max (max i j) k = i by omega]; exact ⟨_, rfl⟩)
/-! ### marks that are ints, in their order -/
def ltI (ns : List Int) (a b : Nat) : Bool := decide (ns.getD a 0 < ns.getD b 0 ∨ (ns.getD a 0 = ns.getD b 0 ∧ a < b))
theorem ltI_irr (ns : List Int) (a : Nat) : ltI ns a a = false := decide_eq_false (by omega)
theorem ltI_tr (ns : List Int) (a b c : Nat) (h1 : ltI ns a b = true) (h2 : ltI ns b c = true) : ltI ns a c = true := by
  have h1 := of_decide_eq_true h1
  have h2 := of_decide_eq_true h2
  exact decide_eq_true (by omega)
theorem ltI_tot (ns : List Int) (a b : Nat) (h : a ≠ b) : ltI ns a b = true ∨ ltI ns b a = true := by
  by_cases q : ns.getD a 0 < ns.getD b 0 ∨ (ns.getD a 0 = ns.getD b 0 ∧ a < b)
  · exact .inl (decide_eq_true q)
  · exact .inr (decide_eq_true (by omega))
def keyI (ns : List Int) (b : Nat) : PyData := .tuple [.int (ns.getD b 0), .int (b : Int)]
theorem leI (ns : List Int) : PySem.W.dataLe false (keyI ns) = fun a b => !ltI ns b a := by
  have z := PySem.W.dataLe_ii (β := Nat) (fun b => ns.getD b 0) (fun b => (b : Int))
  have z2 : PySem.W.dataLe false (keyI ns) = fun p q => decide (ns.getD p 0 < ns.getD q 0 ∨ (ns.getD p 0 = ns.getD q 0 ∧ (p : Int) ≤ (q : Int))) := z
  rw [z2]
  funext p q
  unfold ltI
  by_cases h : ns.getD q 0 < ns.getD p 0 ∨ (ns.getD q 0 = ns.getD p 0 ∧ q < p)
  · rw [decide_eq_true h, decide_eq_false (by omega)]
    rfl
  · rw [decide_eq_false h, decide_eq_true (by omega)]
    rfl
/-- what halves_by tells of marks in a strict order -/
def halvesL (lt : Nat → Nat → Bool) (n : Nat) : List V := (List.range n).map fun i => V.int (if aheadN lt n i < n / 2 then 0 else 1)
theorem cut_half {ord : List Nat} {ms : List V} {n : Nat} (lo : ord.length = n) (lm : ms.length = n) : cutV (ord.map fun b : Nat => V.int (b : Int)) none (some ((ms.length : Int) / 2)) = (ord.take (n / 2)).map fun b : Nat => V.int (b : Int) := by
  have l1 : (ord.map fun b : Nat => V.int (b : Int)).length = n := by rw [List.length_map, lo]
  have e : HT.sIx n n (some ((n : Int) / 2)) = n / 2 := by
    rw [show (n : Int) / 2 = ((n / 2 : Nat) : Int) by omega, HT.sIx_nat]
    omega
  have e0 : HT.sIx n 0 none = 0 := rfl
  unfold cutV
  rw [lm, l1, e, e0, List.drop_zero, Nat.sub_zero, List.map_take]
theorem halvesL_at {lt : Nat → Nat → Bool} {n j : Nat} (h : j < n) : (halvesL lt n)[j]? = some (V.int (if aheadN lt n j < n / 2 then 0 else 1)) := by
  unfold halvesL
  rw [List.getElem?_map, List.getElem?_range h]
  rfl
end SL
set_option Elab.async false
set_option linter.all false
set_option maxRecDepth 100000
set_option maxHeartbeats 4000000
namespace WD
open PySem PySem.Spec PyProof.Rows L2 CM LamX
/-! ### texts as lists of signs -/
abbrev cs (z : Str) : List Nat := z.cps.toList
theorem len_cs (z : Str) : z.length = (cs z).length := (Array.length_toList).symm
theorem str_ext {a b : Str} (h : cs a = cs b) : a = b := by
  cases a with
  | mk x => cases b with
    | mk y => exact congrArg Str.mk (Array.toList_inj.mp h)
theorem cs_mk (l : List Nat) : cs ⟨l.toArray⟩ = l := rfl
theorem cs_one (c : Nat) : cs ⟨#[c]⟩ = [c] := rfl
theorem cs_add (a b : Str) : cs (a ++ b) = cs a ++ cs b := by
  show (a.cps ++ b.cps).toList = _
  rw [Array.toList_append]
/-- how many signs two rows share at their beginning -/
def cpl : List Nat → List Nat → Nat
  | a :: as, b :: bs => if a = b then cpl as bs + 1 else 0
  | _, _ => 0
theorem cpl_of : ∀ {a b : List Nat} {k : Nat}, k ≤ a.length → k ≤ b.length → a.take k = b.take k → (∀ x y, a[k]? = some x → b[k]? = some y → x ≠ y) → cpl a b = k
  | [], b, k, h1, _, _, _ => by
    have : k = 0 := by simpa using h1
    subst this
    cases b <;> rfl
  | a :: as, [], k, _, h2, _, _ => by
    have : k = 0 := by simpa using h2
    subst this
    rfl
  | a :: as, b :: bs, 0, _, _, _, hd => by
    show (if a = b then cpl as bs + 1 else 0) = 0
    rw [if_neg (hd a b rfl rfl)]
  | a :: as, b :: bs, k + 1, h1, h2, ht, hd => by
    rw [List.take_succ_cons, List.take_succ_cons] at ht
    have e1 := (List.cons.inj ht).1
    have e2 := (List.cons.inj ht).2
    show (if a = b then cpl as bs + 1 else 0) = k + 1
    rw [if_pos e1, cpl_of (by simpa using h1) (by simpa using h2) e2 (fun x y hx hy => hd x y (by simpa using hx) (by simpa using hy))]
/-- the longest text with which both begin -/
def com (a b : Str) : Str := ⟨((cs a).take (cpl (cs a) (cs b))).toArray⟩
theorem com_of {a b : Str} {k : Nat} (h1 : k ≤ (cs a).length) (h2 : k ≤ (cs b).length) (ht : (cs a).take k = (cs b).take k) (hd : ∀ x y, (cs a)[k]? = some x → (cs b)[k]? = some y → x ≠ y) {z : Str} (hz : cs z = (cs a).take k) : z = com a b := by
  refine str_ext ?_
  show cs z = (cs a).take (cpl (cs a) (cs b))
  rw [hz, cpl_of h1 h2 ht hd]
/-- b at the beginning of a -/
def isPre (b a : Str) : Bool := decide ((cs a).take (cs b).length = cs b)
theorem starts (a b : Str) : Txt.startswith a b = isPre b a := by
  unfold Txt.startswith isPre
  have e : (Builtin.Str.subAt a b 0) = decide ((cs a).take (cs b).length = cs b) := by
    unfold Builtin.Str.subAt
    rw [Nat.zero_add, len_cs b]
    have e1 : (a.cps.extract 0 (cs b).length).toList = (cs a).take (cs b).length := by simp
    by_cases h : (cs a).take (cs b).length = cs b
    · have e2 : a.cps.extract 0 (cs b).length = b.cps := Array.toList_inj.mp (e1.trans h)
      rw [e2, decide_eq_true h]
      simp
    · rw [decide_eq_false h]
      refine beq_eq_false_iff_ne.mpr fun e2 => h ?_
      rw [← e1, e2]
  rw [e, Nat.zero_add]
  by_cases h : (cs a).take (cs b).length = cs b
  · have l := congrArg List.length h
    rw [List.length_take] at l
    rw [decide_eq_true h, len_cs a, len_cs b, decide_eq_true (by omega)]
    rfl
  · rw [decide_eq_false h, Bool.and_false]
theorem isPre_long {a b : Str} (h : (cs a).length < (cs b).length) : isPre b a = false := by
  refine decide_eq_false fun e => ?_
  have l := congrArg List.length e
  rw [List.length_take] at l
  omega
/-- the places below j at which the two differ -/
def diffs (a b : List Nat) (j : Nat) : List Nat := (List.range j).filter fun k => !decide (a.getD k 0 = b.getD k 0)
theorem diffs_succ (a b : List Nat) (j : Nat) : diffs a b (j + 1) = if (!decide (a.getD j 0 = b.getD j 0)) = true then diffs a b j ++ [j] else diffs a b j := by
  unfold diffs
  rw [List.range_succ, List.filter_append]
  by_cases h : (!decide (a.getD j 0 = b.getD j 0)) = true
  · rw [if_pos h, List.filter_cons_of_pos (p := fun k => !decide (a.getD k 0 = b.getD k 0)) h]
    rfl
  · rw [if_neg h, List.filter_cons_of_neg (p := fun k => !decide (a.getD k 0 = b.getD k 0)) h]
    exact List.append_nil _
theorem diffs_nil {a b : List Nat} : ∀ {j : Nat}, j ≤ a.length → j ≤ b.length → ((diffs a b j).isEmpty = true ↔ a.take j = b.take j)
  | 0, _, _ => by simp [diffs]
  | j + 1, h1, h2 => by
    have ih := diffs_nil (a := a) (b := b) (j := j) (by omega) (by omega)
    unfold diffs at ih ⊢
    rw [List.range_succ, List.filter_append, List.take_add_one, List.take_add_one, List.getElem?_eq_getElem (show j < a.length by omega), List.getElem?_eq_getElem (show j < b.length by omega)]
    have g1 : a.getD j 0 = a[j] := by rw [List.getD_eq_getElem?_getD, List.getElem?_eq_getElem (show j < a.length by omega)]; rfl
    have g2 : b.getD j 0 = b[j] := by rw [List.getD_eq_getElem?_getD, List.getElem?_eq_getElem (show j < b.length by omega)]; rfl
    by_cases e : a[j] = b[j]
    · have f : [j].filter (fun k => !decide (a.getD k 0 = b.getD k 0)) = [] := by
        rw [List.filter_cons_of_neg (by rw [g1, g2, e]; simp)]
        rfl
      rw [f, List.append_nil, ih, e]
      exact ⟨fun z => by rw [z], fun z => (List.append_inj' z rfl).1⟩
    · have f : [j].filter (fun k => !decide (a.getD k 0 = b.getD k 0)) = [j] := by
        rw [List.filter_cons_of_pos (by rw [g1, g2]; simp [e])]
        rfl
      rw [f]
      constructor
      · intro z
        simp at z
      · intro z
        have l : (a.take j).length = (b.take j).length := by rw [List.length_take, List.length_take]; omega
        have z2 := (List.append_inj z l).2
        exact absurd (by simpa using z2) e
theorem diffs_pre {a b : Str} (h : (cs b).length ≤ (cs a).length) : (diffs (cs a) (cs b) (cs b).length).isEmpty = isPre b a := by
  have z := diffs_nil (a := cs a) (b := cs b) h (Nat.le_refl _)
  rw [List.take_length] at z
  unfold isPre
  cases e : (diffs (cs a) (cs b) (cs b).length).isEmpty with
  | true => rw [decide_eq_true (z.mp e)]
  | false => rw [decide_eq_false fun q => by rw [z.mpr q] at e; cases e]
/-! ### marks that are texts, in their order -/
def ltS (zs : List Str) (a b : Nat) : Bool := decide (cs (zs.getD a Str.empty) < cs (zs.getD b Str.empty) ∨ (cs (zs.getD a Str.empty) = cs (zs.getD b Str.empty) ∧ a < b))
theorem ltS_irr (zs : List Str) (a : Nat) : ltS zs a a = false := decide_eq_false fun h => by
  rcases h with h | ⟨_, h⟩
  · exact absurd h (List.lt_irrefl _)
  · omega
theorem ltS_tr (zs : List Str) (a b c : Nat) (h1 : ltS zs a b = true) (h2 : ltS zs b c = true) : ltS zs a c = true := by
  have h1 := of_decide_eq_true h1
  have h2 := of_decide_eq_true h2
  refine decide_eq_true ?_
  rcases h1 with h1 | ⟨h1, l1⟩
  · rcases h2 with h2 | ⟨h2, l2⟩
    · exact .inl (List.lt_trans h1 h2)
    · exact .inl (by rw [← h2]; exact h1)
  · rcases h2 with h2 | ⟨h2, l2⟩
    · exact .inl (by rw [h1]; exact h2)
    · exact .inr ⟨h1.trans h2, by omega⟩
theorem ltS_tot (zs : List Str) (a b : Nat) (h : a ≠ b) : ltS zs a b = true ∨ ltS zs b a = true := by
  unfold ltS
  generalize cs (zs.getD a Str.empty) = x
  generalize cs (zs.getD b Str.empty) = y
  by_cases e : x = y
  · by_cases l : a < b
    · exact .inl (decide_eq_true (.inr ⟨e, l⟩))
    · exact .inr (decide_eq_true (.inr ⟨e.symm, by omega⟩))
  · by_cases l : x < y
    · exact .inl (decide_eq_true (.inl l))
    · exact .inr (decide_eq_true (.inl (by
        have l2 : y ≤ x := List.not_lt.mp l
        rcases List.le_iff_lt_or_eq.mp l2 with z | z
        · exact z
        · exact absurd z.symm e)))
def keyS (zs : List Str) (b : Nat) : PyData := .tuple [.str (zs.getD b Str.empty), .int (b : Int)]
theorem dataLt_si (x : Str) (i : Int) (y : Str) (j : Int) : PySem.W.dataLt (.tuple [.str x, .int i]) (.tuple [.str y, .int j]) = decide (cs x < cs y ∨ (cs x = cs y ∧ i < j)) := by
  rw [PySem.W.dataLt_pair (by simp [PySem.W.alike]) (by simp [PySem.W.alike]), PySem.W.dataLt_int, PySem.W.dataLt_str]
  by_cases e : x = y
  · subst e
    have n : ¬ cs x < cs x := List.lt_irrefl _
    rw [if_pos (show PyData.eqv (.str x) (.str x) = true by simp [PyData.eqv])]
    by_cases e2 : i = j
    · rw [if_pos (show PyData.eqv (.int i) (.int j) = true by simp [PyData.eqv, e2])]
      exact (decide_eq_false fun h => h.elim n fun z => by omega).symm
    · rw [if_neg (show ¬ PyData.eqv (.int i) (.int j) = true by simp [PyData.eqv, e2])]
      exact decide_eq_decide.mpr ⟨fun h => .inr ⟨rfl, h⟩, fun h => h.elim (fun z => absurd z n) fun z => z.2⟩
  · have e3 : ¬ cs x = cs y := fun z => e (str_ext z)
    rw [if_neg (show ¬ PyData.eqv (.str x) (.str y) = true by simp [PyData.eqv, e])]
    exact decide_eq_decide.mpr ⟨.inl, fun h => h.elim id fun z => absurd z.1 e3⟩
theorem leS (zs : List Str) : PySem.W.dataLe false (keyS zs) = fun a b => !ltS zs b a := by
  rw [PySem.W.dataLe_eq]
  funext a b
  show (!PySem.W.dataLt (keyS zs b) (keyS zs a)) = _
  unfold keyS ltS
  rw [dataLt_si]
  refine congrArg (fun q : Bool => !q) (decide_eq_decide.mpr ⟨fun h => ?_, fun h => ?_⟩)
  · exact h.imp id fun z => ⟨z.1, by omega⟩
  · exact h.imp id fun z => ⟨z.1, by omega⟩
/-! ### (text, int) < (text, int) -/
def rLtSI (K : PySem.W.Frag) : R2 := fun x y H Q => ∃ (a b : Addr) (z w : Str) (i j : Int), x = .ref a ∧ y = .ref b ∧ SqT K H a [.str z, .int i] ∧ SqT K H b [.str w, .int j] ∧ Q (.bl (decide (cs z < cs w ∨ (cs z = cs w ∧ i < j)))) H
theorem op_ltSI {X : Cx} {K : PySem.W.Frag} (hu : X.A.units + 64 < cLine) (hK : X.K = K := by rfl) : OpR X (compareOp .Lt) (rLtSI K) := by
  subst hK
  intro pins s σ H x y v u Q I rx ry h
  obtain ⟨a, b, z, w, i, j, rfl, rfl, ha, hb, q⟩ := h
  cases rx
  cases ry
  obtain ⟨us, r1, p1, _⟩ := I.tuple ha
  obtain ⟨ws, r2, p2, _⟩ := I.tuple hb
  have rd : ∀ {c : Addr} {us : List Value} {z : Str} {i : Int}, Vals [V.str z, V.int i] us → IsTup s.heap c us.toArray → Reads s.heap (.ref c) (.tuple [.str z, .int i]) [] := fun {c us z i} r p => by
    obtain ⟨u1, u2, rfl, ⟨t1, rfl⟩, ⟨t2, rfl⟩⟩ := vals2 r
    obtain ⟨o, h1, h2, n, h3⟩ := p
    exact Reads.tuple (as := [] ++ ([] ++ [])) h1 h2 h3 (.cons (.str z t1) (.cons (.int i t2) .nil))
  have e := PySem.W.rcLt_alike (.tuple [.str z, .int i]) (.tuple [.str w, .int j]) X.A s (.ref a) (.ref b) [] [] (rd r1 p1) (rd r2 p2) (by simp [PySem.W.alike, PySem.W.alikeAll]) (fun z => by cases z) (by
    have : min (PyData.tuple [.str z, .int i]).depth (PyData.tuple [.str w, .int j]).depth ≤ 64 := Nat.le_trans (Nat.min_le_left _ _) (by show 1 ≤ 64; decide)
    omega)
  rw [dataLt_si] at e
  exact e X.prog X.w X.xe _ ⟨.bl _, H, I, rfl, q⟩
/-! ### a == [] of a list -/
def rEqNilL (K : PySem.W.Frag) : R2 := fun x y H Q => ∃ (a b : Addr) (xs : List V), x = .ref a ∧ y = .ref b ∧ SqL K H a xs ∧ SqL K H b [] ∧ Q (.bl xs.isEmpty) H
theorem op_eqNilL {X : Cx} {K : PySem.W.Frag} (hu : X.A.units + 64 < cLine) (hK : X.K = K := by rfl) : OpR X (compareOp .Eq) (rEqNilL K) := by
  subst hK
  intro pns s σ H x y v u Q I rx ry h
  obtain ⟨a, b, xs, rfl, rfl, ha, hb, q⟩ := h
  cases (show v = Value.ref a from rx)
  cases (show u = Value.ref b from ry)
  obtain ⟨us, r1, p1, _⟩ := I.list ha
  obtain ⟨ws, r2, p2, _⟩ := I.list hb
  cases r2
  cases r1 with
  | nil =>
    exact SeqAt.eq_listAt (e := fun _ => true) p1.isList p2.isList rfl (by omega) (fun j h1 h2 => absurd h2 (by simp)) ⟨.bl true, H, I, rfl, q⟩
  | cons a1 b1 => exact SeqAt.eq_list_lengthsAt p1.isList p2.isList (by simp) (by omega) ⟨.bl false, H, I, rfl, q⟩
end WD
set_option Elab.async false
set_option linter.all false
set_option maxRecDepth 100000
set_option maxHeartbeats 4000000
namespace GD
open PySem PySem.Spec PyProof.Rows L2 CM LamX
/-! ### promises of defs that are called where no repr runs -/
structure FnG (P : Program) (w : World) (K : PySem.W.Frag) (mg : Str → Option Value) (base : Heap) (CX : CXT) (k : Nat) (f : Addr) (fd : FuncData) (ps : List Str) (sp : Sp) : Prop where
  len : ∀ vs H Q E, sp vs H Q E → vs.length = ps.length
  run : ∀ (A : Around) (outer : List Env) (s : Shared) (H : Hp) (args : Args) (us : List Value) (vs : List V) (Q : VK) (E : XK), Room k A → A.guards = some [] → Env0 P w K mg base A outer s H →
    BindsTo s fd args (ps.zip us) → Vals vs us → sp vs H Q E → codeAny (model P w) A (.call (.ref f) args) (CR CX outer P w H s Q E) s
section
variable {P : Program} {w : World} {K : PySem.W.Frag} {mg : Str → Option Value} {base : Heap} {CX : CXT} {k j : Nat} {f : Addr} {fd : FuncData} {ps : List Str} {sp : Sp}
theorem FnG.of (F : FnOk P w K mg base CX k f fd ps sp) : FnG P w K mg base CX k f fd ps sp := ⟨F.len, fun A outer s H args us vs Q E hr _ => F.run A outer s H args us vs Q E hr⟩
theorem FnG.mono (F : FnG P w K mg base CX j f fd ps sp) (h : j ≤ k) : FnG P w K mg base CX k f fd ps sp := ⟨F.len, fun A outer s H args us vs Q E hr => F.run A outer s H args us vs Q E (hr.mono h)⟩
variable {x qual : Str} {params : Arguments} {body : List Stmt} {scope : Scope} {dvs : List V} {kws : List (Str × V)}
theorem okG {N : List Str} (F : FunD K x qual params body scope dvs kws f fd) (S : FnScope N ps scope) (len : ∀ vs H Q E, sp vs H Q E → vs.length = ps.length)
    (hbody : ∀ (cdv : Value) (A : Around) (outer : List Env) (s : Shared) (H : Hp) (vs : List V) (Q : VK) (E : XK), Room k (A.deeper (envOfC qual scope s.heap.objs.size f cdv)) → A.guards = some [] → sp vs H Q E →
      ∃ t, PSs (cxOf CX P w K mg base N qual scope f cdv A outer s H E) body t ∧ t { nx := fun _ H' => Q .non H', rt := Q } (start N vs) H) : FnG P w K mg base CX (k + 1) f fd ps sp := by
  obtain ⟨oc, od, dV, kV, doc, pm, an, cdv, ct, osl, hfd, lk, hcd, _, _⟩ := F.ex
  subst hfd
  refine ⟨len, fun A outer s0 H args us vs Q E room gd e0 bt rv asked => ?_⟩
  have old : ∀ b o, base.get? b = some o → s0.heap.get? b = some o := fun b o e => (e0.bs b o e).1
  refine codeAny_call_function room.depth (e0.mod.kin.keeps old _ _ lk) rfl S.co S.gen rfl (PySem.W.codeRec_of (e0.mod.kin.keeps old) hcd) (bt _ _ _ _ (wpAny_newFunctionEnv_cells S.kind (fun y hy => ?_) fun env he t x => ?_))
  · exact (S.par y.1 (List.of_mem_zip (show (y.1, y.2) ∈ ps.zip us from hy)).1).elim .inl fun q => .inr ⟨q, PySem.W.cellsFrom_some _ _ _ (.inl q)⟩
  · subst he
    obtain ⟨tt, ht, rd⟩ := hbody cdv A outer s0 H vs Q E (room.deeper _) gd asked
    have J : Inv (cxOf CX P w K mg base N qual scope f cdv A outer s0 H E) [] (start N vs) H t := inv_start S room.hd e0 (len _ _ _ _ asked) rv x
    refine ⟨(e0.mod.nolimit.keeps old).keeps x.toInCall.keep, codeAny_func (wpAny_mono (ht.run [] t (start N vs) H _ J rd) (fun fl t2 got => ?_) fun _ _ got => got)⟩
    cases fl with
    | ret u => obtain ⟨v, σ2, H2, J2, r2, q2⟩ := got; exact ⟨v, H2, J2.os, J2.bare, J2.base, J2.hok, r2, q2⟩
    | next => obtain ⟨σ2, H2, J2, q2⟩ := got; exact ⟨V.non, H2, J2.os, J2.bare, J2.base, J2.hok, rfl, q2⟩
    | brk =>
      obtain ⟨_, _, _, z⟩ := got
      exact False.elim z
    | cont =>
      obtain ⟨_, _, _, z⟩ := got
      exact False.elim z
end
/-! ### calls of such defs -/
section
variable {X : Cx} {CX : CXT} {k : Nat} {f : Addr} {fd : FuncData} {ps : List Str} {sp : Sp} {dvs : List V} {ds : List Value} {E : XK} {x : Str} {e : Expr} {es : List Expr} {t : TA} {p pos : Pos}
theorem run_fnG {pins : List (Addr × Obj)} {σ : L2.St} {H : Hp} {s : Shared} {Q : VK} {us : List Value} {vs : List V} (F : FnG X.prog X.w X.K X.mg X.base CX k f fd ps sp) (hr : Room k X.A) (gd : X.A.guards = some []) (hb : Binds X.K fd ps ds) (hd : Vals dvs ds) (hx : Passes CX X E)
    (I : Inv X pins σ H s) (r : Vals vs us) (h : sp (vs ++ dvs) H Q E) : wpAny (model X.prog X.w) X.A (call (.ref f) us) (EP X pins σ Q) X.xe s := by
  have rr := r.append hd
  refine wpAny_call (codeAny_mono (F.run X.A X.stack s H ⟨us, []⟩ (us ++ ds) (vs ++ dvs) Q E hr gd I.env0 (hb s us I.kIn (rr.length.symm.trans (F.len _ _ _ _ h))) rr h) fun res s2 got => ?_)
  match res, got with
  | .error er, got => exact hx pins σ H s er s2 I got
  | .ok (.ret u), got => exact I.after got
  | .ok .next, got => exact False.elim got
  | .ok .brk, got => exact False.elim got
  | .ok .cont, got => exact False.elim got
theorem pe_callG (F : FnG X.prog X.w X.K X.mg X.base CX k f fd ps sp) (hr : Room k X.A) (gd : X.A.guards = some []) (hg : Gl X x) (hm : X.mg x = some (.ref f)) (hk : PySem.W.keepIn X.K (.ref f) = true) (hb : Binds X.K fd ps ds) (hd : Vals dvs ds) (hx : Passes CX X E)
    (ha : PA X (e :: es) t) (hdb : (x == ("__debug__" : Str)) = false := by decide) (he : starEach (e :: es) X.env = (false, eval e X.env) :: starEach es X.env := by rfl) (hpl : (backTo pos (starEach es X.env)).any (·.1) = false := by rfl) :
    PE X (.Call (.Name x p) (e :: es) [] pos) (tCall sp dvs E t) :=
  ⟨fun pins s σ H Q I h => wpAny_Call_Name_kw (ld_glob I hg hm (PySem.W.callWith_K (h₀ := X.base) I.ok.mod.kin hk (thn (ha.run pos pins s σ H _ I h) fun us s1 ⟨vs, H1, I1, r, q⟩ => ⟨I1.kIn, run_fnG F hr gd hb hd hx I1 r q⟩) he hpl) hdb)⟩
theorem pe_callG0 (F : FnG X.prog X.w X.K X.mg X.base CX k f fd ps sp) (hr : Room k X.A) (gd : X.A.guards = some []) (hg : Gl X x) (hm : X.mg x = some (.ref f)) (hk : PySem.W.keepIn X.K (.ref f) = true) (hb : Binds X.K fd ps ds) (hd : Vals dvs ds) (hx : Passes CX X E)
    (hdb : (x == ("__debug__" : Str)) = false := by decide) : PE X (.Call (.Name x p) [] [] pos) (tCall sp dvs E tNil) :=
  ⟨fun pins s σ H Q I h => wpAny_Call_Name_kw (ld_glob I hg hm (PySem.W.callWith_K0 I.kIn hk (run_fnG (us := []) F hr gd hb hd hx I .nil h)) hdb)⟩
end
/-- such a def of the text, by the module's name of it -/
structure CalG (P : Program) (w : World) (K : PySem.W.Frag) (mg : Str → Option Value) (base : Heap) (CX : CXT) (x : Str) (k : Nat) (ps : List Str) (sp : Sp) : Prop where
  ex : ∃ (f : Addr) (fd : FuncData), FnG P w K mg base CX k f fd ps sp ∧ Binds K fd ps [] ∧ mg x = some (.ref f) ∧ PySem.W.keepIn K (.ref f) = true
/-! ### the end -/
section
variable {P : Program} {w : World} {K : PySem.W.Frag} {mg mb : Str → Option Value} {CX : CXT} {k : Nat} {fa a : Addr} {cs : List (Addr × Addr)} {fd : FuncData} {x : Str} {sp : Sp} {g : Shared} {vs : List Value} {ns : List Int}
/-- what is tracked when the law is called: the script, unless it is written, and the tables -/
def H0 (K : PySem.W.Frag) (a : Addr) (ob : Obj) (xs : List V) (T : List Addr) : Hp := fun b => if b ∈ T then some (.tbl #[]) else if b = a ∧ K.lookup a = none then some (.frz ob (.lst xs)) else none
theorem H0_cases {ob : Obj} {xs : List V} {T : List Addr} {b : Addr} {u : HO} (e : H0 K a ob xs T b = some u) : (b ∈ T ∧ u = .tbl #[]) ∨ (b ∉ T ∧ b = a ∧ K.lookup a = none ∧ u = .frz ob (.lst xs)) := by
  unfold H0 at e
  by_cases h : b ∈ T
  · rw [if_pos h] at e
    exact .inl ⟨h, (Option.some.inj e).symm⟩
  · rw [if_neg h] at e
    by_cases h2 : b = a ∧ K.lookup a = none
    · rw [if_pos h2] at e
      exact .inr ⟨h, h2.1, h2.2, (Option.some.inj e).symm⟩
    · rw [if_neg h2] at e
      cases e
theorem law_callG (KX : K.In g.heap) (hns : g.heap.Ns mainGlobals mg) (hb : g.heap.Ns builtinsNs mb) (hbb : ∀ y : Str, y ≠ "__name__" → mb y = bootBuiltins y) (lim : g.heap.NoLimit) (gens : g.gens = #[])
    (hT : ∀ p ∈ cs, g.heap.get? p.2 = some { cls := .none, data := .fields #[] }) (nT : ∀ p ∈ cs, K.lookup p.2 = none) (hC : ∀ p ∈ cs, PySem.W.CodeHd g.heap p.1 p.2)
    (bm : ∃ (bm : Addr) (ob : Obj), mg "__builtins__" = some (.ref bm) ∧ bm ≠ builtinsNs ∧ g.heap.get? bm = some ob ∧ ob.cls = .type "module" ∧ ob.dict = some builtinsNs ∧ ob.data = .plain)
    (ha : g.heap.get? a = some { cls := .type "list", data := .seq vs.toArray }) (hi : IntsAre vs ns) (hl : ns.length ≤ sizeLine) (room : Room k callerA)
    (F : ∀ base : Heap, K.In base → base.Ns mainGlobals mg → (∀ p ∈ cs, TabB base mg p.1 p.2) → FnG P w K mg base CX k fa fd [x] sp) (bind : ∀ (s : Shared) (u : Value), BindsTo s fd ⟨[u], []⟩ [(x, u)])
    (asked : ∀ H : Hp, (∀ p ∈ cs, H p.2 = some (.tbl #[])) → SqL K H a (ns.map V.int) → sp [.ref a] H (fun v _ => v = .bl true) fun _ _ _ => False)
    (noX : ∀ H e s2, CX [] H g (fun _ _ _ => False) e s2 → False) :
    codeAny (model P w) callerA (.call (.ref fa) ⟨[.ref a], []⟩) (fun r s2 => r = .ok (.ret (.bool true)) ∧ OldK g.heap s2.heap ∧ s2.os = g.os ∧ AllBare s2.gens) g := by
  have rv := vals_ints hi
  have lv := hi.length
  generalize hTs : cs.map (·.2) = T
  have tabAt : ∀ b ∈ T, g.heap.get? b = some { cls := .none, data := .fields #[] } ∧ K.lookup b = none := fun b m => by
    rw [← hTs] at m
    obtain ⟨p, hp, rfl⟩ := List.mem_map.mp m
    exact ⟨hT p hp, nT p hp⟩
  have inT : ∀ p ∈ cs, p.2 ∈ T := fun p hp => hTs ▸ List.mem_map.mpr ⟨p, hp, rfl⟩
  have aT : a ∉ T := fun m => by
    have z := (tabAt a m).1
    rw [ha] at z
    cases z
  generalize hH : H0 K a { cls := .type "list", data := .seq vs.toArray } (ns.map V.int) T = H
  have cse : ∀ {b : Addr} {u : HO}, H b = some u → (b ∈ T ∧ u = .tbl #[]) ∨ (b ∉ T ∧ b = a ∧ K.lookup a = none ∧ u = .frz { cls := .type "list", data := .seq vs.toArray } (.lst (ns.map V.int))) := fun e => H0_cases (by rw [hH]; exact e)
  have tbl : ∀ p ∈ cs, H p.2 = some (.tbl #[]) := fun p hp => by
    rw [← hH]
    exact if_pos (inT p hp)
  have lsz : (ns.map V.int).length ≤ sizeLine := by rw [List.length_map]; exact hl
  have ok : HOk P w H g.heap := fun b u e => by
    rcases cse e with ⟨m, rfl⟩ | ⟨_, rfl, _, rfl⟩
    · exact (tabAt b m).1
    · exact ⟨ha, lsz, vs, _, rv, ha⟩
  have sq : SqL K H a (ns.map V.int) := by
    cases kl : K.lookup a with
    | none =>
      refine .inl (.inr ⟨{ cls := .type "list", data := .seq vs.toArray }, ?_⟩)
      rw [← hH]
      exact (if_neg aT).trans (if_pos ⟨rfl, kl⟩)
    | some o =>
      have z := KX a o kl
      rw [ha] at z
      cases z
      exact .inr ⟨_, vs.toArray, _, kl, rfl, rfl, rfl, by rw [List.size_toArray, lv]; exact hl, by simpa using rv⟩
  -- what is neither a table nor the script stands in the base
  have un : ∀ {b : Addr} {o : Obj}, g.heap.get? b = some o → (∀ its n, o.data ≠ .seq its n) → o.data ≠ .fields #[] → H b = none := fun {b o} e n1 n2 => by
    cases q : H b with
    | none => rfl
    | some u =>
      rcases cse q with ⟨m, _⟩ | ⟨_, rfl, _, _⟩
      · rw [(tabAt b m).1] at e
        cases e
        exact absurd rfl n2
      · rw [ha] at e
        cases e
        exact absurd rfl (n1 _ _)
  have unD : ∀ {b : Addr} {o : Obj} {es : Array DictEntry} {ep : Nat}, g.heap.get? b = some o → o.data = .dict es ep → H b = none := fun e d => un e (fun its n z => by rw [d] at z; cases z) fun z => by rw [d] at z; cases z
  have nsB : ∀ {b : Addr} {m : Str → Option Value}, g.heap.Ns b m → (hidT g.heap H).Ns b m := fun ⟨o, es, ep, e, d, r⟩ => ⟨o, es, ep, hidT_get e (unD e d), d, r⟩
  have kB : K.In (hidT g.heap H) := fun b o e => hidT_get (KX b o e) (by
    cases q : H b with
    | none => rfl
    | some u =>
      rcases cse q with ⟨m, _⟩ | ⟨_, rfl, z, _⟩
      · rw [(tabAt b m).2] at e
        cases e
      · rw [z] at e
        cases e)
  have md : L2.Mod K mg (hidT g.heap H) := ⟨kB, nsB hns, ⟨mb, nsB hb, hbb⟩, by
    obtain ⟨mc, h1, h2⟩ := lim
    exact ⟨mc, nsB h1, h2⟩⟩
  have tb : ∀ p ∈ cs, TabB (hidT g.heap H) mg p.1 p.2 := fun p hp => by
    have tp := hT p hp
    have gG : mainGlobals ≠ p.2 := fun z => by
      obtain ⟨o, es, ep, e, d, _⟩ := hns
      rw [z, tp] at e
      cases e
      cases d
    refine ⟨?_, ?_, gG⟩
    · obtain ⟨o, us, file, tf, flags, tg, inF, text, tt, e1, r1, r2, r3, r4, r5, r6, r7, r8, ne⟩ := hC p hp
      have e2 : H p.1 = none := un e1 (fun its n z => by rw [r2] at z; cases z) fun z => by
        rw [r2] at z
        cases z
        simp at r3
      exact ⟨o, us, file, tf, flags, tg, inF, text, tt, hidT_get e1 e2, r1, r2, r3, r4, r5, r6, r7, r8, ne⟩
    · obtain ⟨bmA, ob, b1, b2, b3, b4, b5, b6⟩ := bm
      have nG : bmA ≠ mainGlobals := fun z => by
        obtain ⟨o, es, ep, e, d, _⟩ := hns
        rw [z, e] at b3
        cases b3
        rw [d] at b6
        cases b6
      have nP : bmA ≠ p.2 := fun z => by
        rw [z, tp] at b3
        cases b3
        cases b6
      exact ⟨bmA, ob, b1, b2, nG, nP, hidT_get b3 (un b3 (fun its n z => by rw [b6] at z; cases z) fun z => by rw [b6] at z; cases z), b4, b5, b6⟩
  have en : Env0 P w K mg (hidT g.heap H) callerA [] g H := ⟨rfl, md, fun b o e => of_hidT e, Nat.le_of_eq (hidT_size _ _), trivial, fun b m => absurd (show b ∈ ([] : List Addr) from m) (by simp), ok, .of_eq gens⟩
  refine codeAny_mono ((F _ kB (nsB hns) tb).run callerA [] g H ⟨[.ref a], []⟩ [.ref a] [.ref a] _ _ room rfl en (bind g (.ref a)) (.cons rfl .nil) (asked H tbl sq)) fun res s2 got => ?_
  match res, got with
  | .error er, got => exact (noX H er s2 got).elim
  | .ok .next, got => exact False.elim got
  | .ok .brk, got => exact False.elim got
  | .ok .cont, got => exact False.elim got
  | .ok (.ret u), ⟨v, H2, os, bare, kept, ok2, ru, (q : v = .bl true)⟩ =>
    subst q
    obtain rfl : u = Value.bool true := ru
    have key : ∀ b o, b ∉ T → g.heap.get? b = some o → s2.heap.get? b = some o := fun b o nb e => by
      cases q : H b with
      | none => exact kept.keep b o e q (fun m => absurd (show b ∈ ([] : List Addr) from m) (by simp)) (by simp)
      | some u =>
        rcases cse q with ⟨m, _⟩ | ⟨_, rfl, _, rfl⟩
        · exact absurd m nb
        · obtain ⟨z, _⟩ := ok2 b _ (kept.frzs b _ _ q)
          rw [ha] at e
          cases e
          exact z
    refine ⟨rfl, ⟨fun b o e => ?_, fun b o e => ?_⟩, os, bare⟩
    · by_cases m : b ∈ T
      · rw [← hTs] at m
        obtain ⟨p, hp, rfl⟩ := List.mem_map.mp m
        obtain ⟨more, z⟩ := kept.tbls p.2 #[] (tbl p hp)
        rw [hT p hp] at e
        cases e
        exact .inr (.inl ⟨((hC p hp).tab (hT p hp)).isCodeTable, rfl, #[], more, rfl, ok2 p.2 _ z⟩)
      · exact .inl (key b o m e)
    · by_cases m : b ∈ T
      · rw [← hTs] at m
        obtain ⟨p, hp, rfl⟩ := List.mem_map.mp m
        obtain ⟨more, z⟩ := kept.tbls p.2 #[] (tbl p hp)
        exact ⟨_, ok2 p.2 _ z⟩
      · exact ⟨o, key b o m e⟩
end
/-- a law by the promise of its def -/
def LawG (l : PySem.W.OpenLaw) (w : World) (K : PySem.W.Frag) (CX : CXT) (k n : Nat) (x : Str) (mg : Str → Option Value) (fa : Addr) (h : Heap) : Prop :=
  ∃ (fd : FuncData) (cs : List (Addr × Addr)) (sp : Sp), (∀ p ∈ cs, h.get? p.2 = some { cls := .none, data := .fields #[] } ∧ K.lookup p.2 = none ∧ PySem.W.CodeHd h p.1 p.2) ∧ (∀ (s : Shared) (u : Value), BindsTo s fd ⟨[u], []⟩ [(x, u)]) ∧
    (∀ (H : Hp) (a : Addr) (ns : List Int), ns.length ≤ n → (∀ p ∈ cs, H p.2 = some (.tbl #[])) → SqL K H a (ns.map V.int) → sp [.ref a] H (fun v _ => v = .bl true) fun _ _ _ => False) ∧
    ∀ base : Heap, K.In base → base.Ns mainGlobals mg → (∀ p ∈ cs, TabB base mg p.1 p.2) → FnG l.prog w K mg base CX k fa fd [x] sp
theorem walk_G {l : PySem.W.OpenLaw} {n k : Nat} {q : Program} {loose : List Str} {XP : (Str → Option Value) → Heap → Prop} {YP : World → Heap → Prop} {d : DefRec} {CX : World → CXT} {x : Str}
    (most : l.most = some n) (n2 : n ≤ sizeLine) (plain : d.params.defaults = []) (room : Room k callerA)
    (F : ∀ (w : World) (mg : Str → Option Value) (fa : Addr) (h : Heap), YP w h → h.Ns mainGlobals mg → mg d.name = some (.ref fa) → ∃ K : PySem.W.Frag, K.In h ∧ LawG l w K (CX w) k n x mg fa h)
    (noX : ∀ (w : World) (H : Hp) (s : Shared) (e : Value) (s2 : Shared), CX w [] H s (fun _ _ _ => False) e s2 → False) :
    PySem.W.WalkO q loose XP YP l.row.toRowW d [] (fun f vs => PySem.call f vs) := by
  refine Att.attach_callB most plain fun w s0 g mg mb fa o pm cd doc a vs ns G Y ho hd hcd hmg hobj hints hlen hbits hg => ?_
  obtain ⟨K, KX, fd, cs, sp, hT, hb, asked, hF⟩ := F w mg fa _ Y G.T.g hmg
  exact law_callG KX G.T.g G.T.b G.T.builtins G.T.nolimit hg (fun p hp => (hT p hp).1) (fun p hp => (hT p hp).2.1) (fun p hp => (hT p hp).2.2) G.T.bmain hobj hints (Nat.le_trans hlen n2) room hF hb (fun H hH hS => asked H a ns hlen hH hS) fun H e s2 => noX w H g e s2
end GD
set_option Elab.async false
set_option linter.all false
set_option maxRecDepth 100000
set_option maxHeartbeats 4000000
namespace RZ
open PySem PySem.Spec PyProof.Rows L2 CM LamX
/-! ### what a value shows -/
mutual
inductive Shw (H : Hp) : V → PyData → Prop
  | non : Shw H .non .none
  | bl (b : Bool) : Shw H (.bl b) (.bool b)
  | int (i : Int) : Shw H (.int i) (.int i)
  | str (z : Str) : Shw H (.str z) (.str z)
  | lst {a : Addr} {xs : List V} {ds : List PyData} : H a = some (.lst xs) → ShwAll H xs ds → Shw H (.ref a) (.list ds)
  | tup {a : Addr} {xs : List V} {ds : List PyData} : H a = some (.tup xs) → ShwAll H xs ds → Shw H (.ref a) (.tuple ds)
inductive ShwAll (H : Hp) : List V → List PyData → Prop
  | nil : ShwAll H [] []
  | cons {v : V} {vs : List V} {d : PyData} {ds : List PyData} : Shw H v d → ShwAll H vs ds → ShwAll H (v :: vs) (d :: ds)
end
mutual
theorem Shw.noDict {H : Hp} : ∀ {v : V} {d : PyData}, Shw H v d → d.hasDict = false
  | _, _, .non => by simp only [PyData.hasDict]
  | _, _, .bl _ => by simp only [PyData.hasDict]
  | _, _, .int _ => by simp only [PyData.hasDict]
  | _, _, .str _ => by simp only [PyData.hasDict]
  | _, _, .lst _ h => by
    simp only [PyData.hasDict]
    exact h.noDict
  | _, _, .tup _ h => by
    simp only [PyData.hasDict]
    exact h.noDict
theorem ShwAll.noDict {H : Hp} : ∀ {vs : List V} {ds : List PyData}, ShwAll H vs ds → PyData.hasDictAll ds = false
  | _, _, .nil => by simp only [PyData.hasDictAll]
  | _, _, .cons h t => by simp only [PyData.hasDictAll, h.noDict, t.noDict, Bool.or_self]
end
mutual
theorem Shw.reads {P : Program} {w : World} {H : Hp} {h : Heap} (ok : HOk P w H h) : ∀ {v : V} {d : PyData}, Shw H v d → ∀ {u : Value}, RelV v u → ∃ as, Reads h u d as
  | _, _, .non, u, r => by
    obtain rfl : u = Value.none := r
    exact ⟨_, .none⟩
  | _, _, .bl b, u, r => by
    obtain rfl : u = Value.bool b := r
    exact ⟨_, .bool b⟩
  | _, _, .int i, u, r => by
    obtain ⟨t, rfl⟩ := r
    exact ⟨_, .int i t⟩
  | _, _, .str z, u, r => by
    obtain ⟨t, rfl⟩ := r
    exact ⟨_, .str z t⟩
  | _, _, .lst (a := a) e hs, u, r => by
    obtain rfl : u = Value.ref a := r
    obtain ⟨_, its, n, rv, g⟩ := (show ObjOk P w H h a (.lst _) from ok a _ e)
    obtain ⟨as, ra⟩ := hs.reads ok rv
    exact ⟨_, .list g rfl rfl (by simpa using ra)⟩
  | _, _, .tup (a := a) e hs, u, r => by
    obtain rfl : u = Value.ref a := r
    obtain ⟨_, its, rv, o, g, hc, n, hd⟩ := (show ObjOk P w H h a (.tup _) from ok a _ e)
    obtain ⟨as, ra⟩ := hs.reads ok rv
    exact ⟨_, .tuple g hc hd (by simpa using ra)⟩
theorem ShwAll.reads {P : Program} {w : World} {H : Hp} {h : Heap} (ok : HOk P w H h) : ∀ {vs : List V} {ds : List PyData}, ShwAll H vs ds → ∀ {us : List Value}, Vals vs us → ∃ as, ReadsAll h us ds as
  | _, _, .nil, _, .nil => ⟨_, .nil⟩
  | _, _, .cons h1 t1, _, .cons r1 r2 => by
    obtain ⟨a1, e1⟩ := h1.reads ok r1
    obtain ⟨a2, e2⟩ := t1.reads ok r2
    exact ⟨_, .cons e1 e2⟩
end
/-- what repr tells of it -/
def Says (H : Hp) (v : V) (d : PyData) : Prop := Shw H v d ∨ ∃ a, v = .ref a ∧ H a = some (.dK []) ∧ d = .dict []
section
variable {X : Cx}
theorem call_reprD (gd : X.A.guards = some []) (hu : X.A.units + 90 < cLine) : CallR X (.builtin "repr") (fun xs H Q => ∃ v d, xs = [v] ∧ Says H v d ∧ d.showable = true ∧ d.depth ≤ 80 ∧ d.shown.length ≤ sizeLine ∧ Q (.str d.shown) H) := by
  intro pins s σ H xs us Q I r h
  obtain ⟨v, d, rfl, hs, hz, hd, hl, q⟩ := h
  obtain ⟨u, rfl, ru⟩ : ∃ u, us = [u] ∧ RelV v u := by
    cases r with
    | cons a b =>
      cases b
      exact ⟨_, rfl, a⟩
  obtain ⟨as, ra, hsm⟩ : ∃ as, Reads s.heap u d as ∧ (d.hasDict = true → sysModules ∉ as) := by
    rcases hs with hs | ⟨a, rfl, ha, rfl⟩
    · obtain ⟨as, ra⟩ := hs.reads I.hok ru
      exact ⟨as, ra, PyData.noDict_hsm hs.noDict⟩
    · obtain rfl : u = Value.ref a := ru
      obtain ⟨_, hn, vs, kv, ho⟩ := (show ObjOk X.prog X.w H s.heap a (.dK []) from I.hok a _ ha)
      cases kv
      obtain ⟨o, es, ep, g, hc, hd1, _, he, _⟩ := ho
      refine ⟨_, .dict (as := []) (bs := []) g hc.1 hd1 ?_ ?_, fun _ m => ?_⟩
      · have e0 : es.toList = [] := by
          generalize es.toList = l at he
          cases he
          rfl
        rw [e0]
        exact .nil
      · have e0 : es.toList = [] := by
          generalize es.toList = l at he
          cases he
          rfl
        rw [e0]
        exact .nil
      · have e1 : sysModules = a := by simpa using m
        rw [← e1] at hn
        simp at hn
  have fin : ∀ h' uu tk, (∀ b o, s.heap.get? b = some o → h'.get? b = some o) → EP X pins σ Q (.str d.shown uu) { s with heap := h', toks := tk } := fun h' uu tk k => ⟨.str d.shown, H, I.kept k, ⟨_, rfl⟩, q⟩
  cases ra with
  | none =>
    simp only [PyData.shown] at fin
    exact PySem.P.repr_of_none (fin s.heap _ _ fun _ _ e => e)
  | bool b =>
    simp only [PyData.shown] at fin
    exact PySem.P.repr_of_bool (fin s.heap _ _ fun _ _ e => e)
  | int i t =>
    simp only [PyData.shown] at fin
    exact PySem.P.repr_of_int (by simpa [PyData.showable] using hz) (fin s.heap _ _ fun _ _ e => e)
  | str x t =>
    simp only [PyData.shown] at fin
    exact PySem.P.repr_of_str (fin s.heap _ _ fun _ _ e => e) (by simpa only [PyData.shown] using hl)
  | list h1 h2 h3 h4 => exact repr_of_reads' (.list h1 h2 h3 h4) hz hsm gd (by omega) (fun _ _ e => e) (fun h' uu tk k => fin h' uu tk k) hl
  | tuple h1 h2 h3 h4 => exact repr_of_reads' (.tuple h1 h2 h3 h4) hz hsm gd (by omega) (fun _ _ e => e) (fun h' uu tk k => fin h' uu tk k) hl
  | dict h1 h2 h3 h4 h5 => exact repr_of_reads' (.dict h1 h2 h3 h4 h5) hz hsm gd (by omega) (fun _ _ e => e) (fun h' uu tk k => fin h' uu tk k) hl
/-! ### C(e, ..) in a try: __init__ may raise -/
def tMakeS (C : Addr) (sp : Sp) (E : L2.St → XK) (ta : TA) : TE := fun σ H Q => ta σ H fun vs H1 => ∀ x dx, H1 x = none → H1 dx = none → dx ≠ x → sp (.ref x :: vs) (upd (upd H1 dx (.own x)) x (.ins C dx [])) (fun v H2 => v = .non ∧ Q (.ref x) H2) (E σ)
end
section
variable {X : Cx} {CX : CXT} {k : Nat} {f C : Addr} {fd : FuncData} {ps : List Str} {sp : Sp} {E : L2.St → XK} {x : Str} {p pos : Pos} {e : Expr} {es : List Expr} {t : TA}
theorem pe_makeS (M : Mk X.K C f) (F : FnOk X.prog X.w X.K X.mg X.base CX k f fd ps sp) (hr : Room (k + 1) X.A) (hg : Gl X x) (hm : X.mg x = some (.ref C)) (hb : Binds X.K fd ps []) (hx : ∀ σ, PassesAt CX X σ (E σ)) (ha : PA X (e :: es) t)
    (hdb : (x == ("__debug__" : Str)) = false := by decide) (he : starEach (e :: es) X.env = (false, eval e X.env) :: starEach es X.env := by rfl) (hpl : (backTo pos (starEach es X.env)).any (·.1) = false := by rfl) :
    PE X (.Call (.Name x p) (e :: es) [] pos) (tMakeS C sp E t) := by
  refine ⟨fun pins s σ H Q I h => ?_⟩
  refine wpAny_Call_Name_kw (ld_glob I hg hm ?_ hdb)
  refine PySem.W.callWith_K (h₀ := X.base) I.ok.mod.kin M.kp (thn (ha.run pos pins s σ H _ I h) fun us s1 ⟨vs, H1, I1, r, q⟩ => ⟨I1.kIn, ?_⟩) he hpl
  have hq := q (s1.heap.objs.size + 1) s1.heap.objs.size (I1.hok.fresh (Nat.le_succ _)) (I1.hok.fresh (Nat.le_refl _)) (Nat.ne_of_lt (Nat.lt_succ_self _))
  have I2 := Inv.made (C := C) I1
  have r2 : Vals (V.ref (s1.heap.objs.size + 1) :: vs) (Value.ref (s1.heap.objs.size + 1) :: us) := .cons rfl r
  have hl : (Value.ref (s1.heap.objs.size + 1) :: us ++ []).length = ps.length := by
    have e := r2.length
    rw [F.len _ _ _ _ hq] at e
    rw [List.append_nil]
    exact e.symm
  have bb := hb _ (Value.ref (s1.heap.objs.size + 1) :: us) I2.kIn hl
  rw [List.append_nil] at bb
  refine wpAny_call (make_map (f := f) I1.kIn M.makes M.init (beq_iff_eq.mp M.fn) (codeAny_mono (F.run _ X.stack _ _ ⟨Value.ref (s1.heap.objs.size + 1) :: us, []⟩ (Value.ref (s1.heap.objs.size + 1) :: us) _ _ (E σ) (hr.make C us [])
    (I2.env0.make C us []) bb r2 hq) fun r s' hq' => ?_))
  cases r with
  | error e => exact hx σ pins _ _ e s' I2 hq'
  | ok fl =>
    cases fl with
    | ret u =>
      obtain ⟨v, H', I3, rv, ev, q3⟩ := I2.after hq'
      subst ev
      exact ⟨rv, ⟨V.ref (s1.heap.objs.size + 1), H', I3, rfl, q3⟩⟩
    | next => exact False.elim hq'
    | brk => exact False.elim hq'
    | cont => exact False.elim hq'
end
end RZ
set_option Elab.async false
set_option linter.all false
set_option maxRecDepth 100000
set_option maxHeartbeats 4000000
namespace SU
open PySem PySem.Spec PySem.Calls PyProof.Rows L2 CM LamX NdefX ClX
/-- what stands of a method of the class at C whose text says super().m(..), D the class of that text, f2 the def above -/
structure SupF (P : Program) (K : PySem.W.Frag) (C D f f2 : Addr) (m : Str) (F : NF) (fd : FuncData) : Prop where
  ex : ∃ (oc : Value) (od : Option Addr) (doc pm ct : Value) (osl : Array (Option Value)) (cc : Addr) (ccl : Value) (cdd : Option Addr) (vs : Array Value) (file : Str) (tf : Tok) (ccs : Array (Option Value)) (cl : Value) (cld : Option Addr) (csl : Array (Option Value)) (cdD cd : ClassData),
    fd = F.fd doc pm ct ∧ K.lookup f = some ⟨oc, od, .func (F.fd doc pm ct), osl⟩ ∧ F.cl = [(("__class__" : Str), cc)] ∧ PySem.W.codeIn K (.ref F.c) F.qual = true ∧ K.lookup F.c = some ⟨ccl, cdd, .fields vs, ccs⟩ ∧ vs[2]? = some (.str file tf) ∧ ((P.main.file : Str) == file) = true ∧
    K.lookup cc = some ⟨cl, cld, .cell (some (.ref D)), csl⟩ ∧ PySem.W.clsIn K D = some cdD ∧ PySem.W.mroIn K C (.ref D) = some true ∧ PySem.W.clsIn K C = some cd ∧ PySem.W.alongIn K m ((cd.mro.dropWhile (· != .ref D)).drop 1) = some (some (.ref f2)) ∧
    PySem.W.typeIn K (.ref f2) = some (.type "function") ∧ PySem.W.nsIn K cStatics "thirdparty.any" = some none ∧ PySem.W.fnIn K f2 = true
section
variable {P : Program} {w : World} {K : PySem.W.Frag} {mg : Str → Option Value} {base : Heap} {CX : CXT} {k : Nat}
theorem fnR_of {f : Addr} {fd : FuncData} {ps : List Str} {sp : Sp} (F : FnOk P w K mg base CX k f fd ps sp) (hb : Binds K fd ps []) : FnR P w K mg base CX k f sp := fun A outer s H us vs Q E hr e0 r h => by
  have hl : us.length = ps.length := by rw [← r.length]; exact F.len _ _ _ _ h
  have b := hb s us (e0.mod.kin.keeps fun b o e => (e0.bs b o e).1) (by rw [List.append_nil]; exact hl)
  rw [List.append_nil] at b
  exact F.run A outer s H ⟨us, []⟩ us vs Q E hr e0 b r h
def spSup (N ps : List Str) (C : Addr) (t : TA) (sp : Sp) : Sp := fun vs H Q E => vs.length = ps.length ∧ ∃ a dx fs, vs[0]? = some (.ref a) ∧ H a = some (.ins C dx fs) ∧ t (startF N vs [none]) H (fun ws H1 => sp (.ref a :: ws) H1 Q E)
theorem ok_super {C D f f2 : Addr} {m : Str} {F : NF} {fd : FuncData} {N ps ps' : List Str} {sp : Sp} {t : TA} {ar : Arg} {p0 p1 apos pos rp : Pos} {e : Expr} {es : List Expr} (S : NScope N ps ["__class__"] F.scope) (Z : SupF P K C D f f2 m F fd)
    (hps : ps = ar.arg :: ps') (hp : (F.params.posonlyargs ++ F.params.args).head? = some ar) (hks : F.scope.names.lookup ("super" : Str) = some .globalImplicit)
    (hbody : F.body = [.Return (some (.Call (.Attribute (.Call (.Name "super" p0) [] [] p1) m apos) (e :: es) [] pos)) rp])
    (htop : (P.main.scope.names.lookup ("super" : Str)).isSome = false) (msup : mg "super" = none) (hn : (m == ("__class__" : Str)) = false) (G : FnR P w K mg base CX k f2 sp)
    (ha : ∀ (g : Addr) (A : Around) (outer : List Env) (s : Shared) (H : Hp) (E : XK), PA (ncx CX P w K mg base N F g A outer s H E) (e :: es) t) (hx : ∀ (g : Addr) (A : Around) (outer : List Env) (s : Shared) (H : Hp) (E : XK), Passes CX (ncx CX P w K mg base N F g A outer s H E) E)
    (hst : ∀ env : Env, starEach (e :: es) env = (false, eval e env) :: starEach es env) (hpl : ∀ env : Env, (backTo pos (starEach es env)).any (·.1) = false)
    {pl : Env → Sem Bool} (hev : ∀ env : Env, eval (.Call (.Attribute (.Call (.Name "super" p0) [] [] p1) m apos) (e :: es) [] pos) env = (do
      let ov ← attributeBase (.Call (.Name "super" p0) [] [] p1) m env (eval (.Call (.Name "super" p0) [] [] p1) env)
      standAt apos.atName
      let (f, first) ← holding [ov] (getMethod ov m (pl env))
      callWith pos f first (backTo pos (starEach (e :: es) env)) [])) :
    FnOk P w K mg base CX (k + 1) f fd ps (spSup N ps C t sp) := by
  obtain ⟨oc, od, doc, pm, ct, osl, cc, ccl, cdd, cvs, file, tf, ccs, cl, cld, csl, cdD, cd, rfl, lk, hcl, hcd, hcode, hvs, hfile, hcell, hD, hsub, hC, hal, hty, hno, hfn⟩ := Z.ex
  refine ⟨fun vs H Q E h => h.1, fun A outer s H args us vs Q E hr e0 bt r h => ?_⟩
  obtain ⟨hl, a, dx, fs, h0, hi, hq⟩ := h
  have old : ∀ b o, base.get? b = some o → s.heap.get? b = some o := fun b o e => (e0.bs b o e).1
  have X0 : K.In s.heap := e0.mod.kin.keeps old
  have hH : ∀ {b : Addr} {o : Obj}, K.lookup b = some o → H b = none := fun {b o} e => (e0.bs b o (e0.mod.kin b o e)).2
  have Cl : CellsAt F.cl ["__class__"] [none] s.heap H := by
    refine ⟨rfl, fun y c z => ?_, fun x y c z1 z2 => ?_, fun i y z => ?_⟩
    · rw [hcl] at z
      have e1 : cc = c := by
        simp only [List.lookup] at z
        split at z
        · exact Option.some.inj z
        · cases z
      subst e1
      exact ⟨hH hcell, _, _, X0 _ _ hcell, rfl⟩
    · rw [hcl] at z1 z2
      simp only [List.lookup] at z1 z2
      split at z1
      · rename_i q1
        split at z2
        · rename_i q2
          rw [beq_iff_eq.mp q1, beq_iff_eq.mp q2]
        · cases z2
      · cases z1
    · cases i with
      | zero =>
        have e1 : "__class__" = y := Option.some.inj z
        subst e1
        exact ⟨cc, by rw [hcl]; rfl, fun v q => by cases q⟩
      | succ i => cases z
  refine PySem.ks_codeAny_call_defAt (fd := F.fd doc pm ct) (body := F.body) (binds := ps.zip us) hr.depth (X0 _ _ lk) rfl (e0.mod.nolimit.keeps old) (PySem.W.codeRec_of X0 hcd) rfl bt S.nocell (fun y hy => S.par _ (List.of_mem_zip (show (y.1, y.2) ∈ ps.zip us from hy)).1) (fun h₁ hns kp => ?_) S.co S.gen S.kind
  have I : Inv (ncx CX P w K mg base N F f A outer s H E) [] (startF N vs [none]) H { s with heap := h₁, toks := s.toks + (ps.zip us).length } := inv_startN S hr.hd e0 hl r Cl hns kp
  have hEnv : PySem.callEnv (F.fd doc pm ct) s.heap.objs.size f = envF F f s.heap.objs.size := rfl
  rw [hEnv]
  generalize hs1 : ({ s with heap := h₁, toks := s.toks + (ps.zip us).length } : Shared) = s1 at I ⊢
  have hs1h : s1.heap = h₁ := by rw [← hs1]
  rw [hbody]
  refine PySem.ks_wpAt_execs_cons (PySem.ks_wpAt_Return_some (PySem.ks_wpAt_MethodCall (pl := pl (envF F f s.heap.objs.size)) ?_ (hev _)))
  have lk1 := I.kIn _ _ lk
  have hk : (envF F f s.heap.objs.size).scope.kind = .function := S.kind
  have hfr : F.scope.names.lookup ("__class__" : Str) = some .free := S.frk _ (List.mem_singleton.mpr rfl)
  refine PySem.ks_wpAt_super_base (env := envF F f s.heap.objs.size) hks hfr hn rfl lk1 rfl hp rfl (I.kIn _ _ hcode) rfl hvs hfile htop ?_
  obtain ⟨mb, hmb, hbb⟩ := I.mod.blt
  refine PySem.W.ks_loadName_global hk hks (loadGlobal_builtin (env := envF F f s.heap.objs.size) (I.mod.glob.keeps I.bk) msup (hmb.keeps I.bk) ((hbb _ (by decide +kernel)).trans (by rfl)) ⟨rfl, ?_⟩)
  refine wpAny_loadName_free hk hfr (by rw [show (envF F f s.heap.objs.size).cells = F.cl from rfl, hcl]; rfl) ⟨_, I.kIn _ _ hcell, rfl⟩ ?_
  obtain ⟨us0, ut, rfl⟩ : ∃ u0 ut, us = u0 :: ut := by
    cases us with
    | nil =>
      have z := r.length
      rw [hl, hps] at z
      cases z
    | cons u0 ut => exact ⟨_, _, rfl⟩
  have ru : us0 = Value.ref a := by
    cases r with
    | cons rv rt =>
      have e1 := Option.some.inj h0
      subst e1
      exact rv
  subst ru
  refine wpAny_loadName_local hk (S.par _ (by rw [hps]; exact List.mem_cons_self)) (hs1h ▸ hns) (v := .ref a) (zip_look (i := 0) ?nd ?p0 rfl) ?_
  case nd =>
    have q := S.nd.sublist (List.take_sublist (ps.length + 1) N)
    rw [show N.take (ps.length + 1) = ps ++ [("__class__" : Str)] from S.pre] at q
    exact (List.nodup_append.mp q).1
  case p0 => rw [hps]; rfl
  have X1 : K.In s1.heap := I.kIn
  obtain ⟨hh, g, dr, tk, os⟩ := s1
  obtain ⟨oD, hD1, hD2⟩ : ∃ oD, hh.get? D = some oD ∧ oD.data = .cls cdD := by
    unfold PySem.W.clsIn at hD
    split at hD
    · rename_i c d cd' sl ho
      cases hD
      exact ⟨_, X1 _ _ ho, rfl⟩
    · cases hD
  obtain ⟨mA, O, _⟩ := ins_get I.hok hi
  obtain ⟨odi, J, _⟩ := O.look
  refine PySem.ks_wpAny_isType_cls hD1 hD2 ⟨rfl, ?_⟩
  refine PySem.ks_wpAny_call_super hD1 hD2 J.at_ J.cls (fun c e => by cases e) (PySem.W.looks_mroIn X1 hsub) (fun h' eso k => ?_)
  have I1 : Inv (ncx CX P w K mg base N F f A outer s H E) [] (startF N vs [none]) H ⟨h', g, dr, tk, os⟩ := I.kept (t' := tk) k
  have X2 : K.In h' := I1.kIn
  obtain ⟨of, hof, hofc⟩ : ∃ of, h'.get? f2 = some of ∧ of.cls = .type "function" := by
    have ht' : (K.lookup f2).map (·.cls) = some (.type "function") := hty
    cases z : K.lookup f2 with
    | none => rw [z] at ht'; cases ht'
    | some of => rw [z] at ht'; exact ⟨of, X2 _ _ z, Option.some.inj ht'⟩
  obtain ⟨mA1, O1, _⟩ := ins_get I1.hok hi
  obtain ⟨odi1, J1, _⟩ := O1.look
  refine PySem.ks_wpAny_getMethod_super eso (PySem.W.looks_opaque X2 hno) (l₀ := cd.mro) (fun A Q E s k q => wpAny_bind ((PySem.W.looks_clsIn X2 hC) A _ E s k (wpAny_pure q))) rfl X2 hal hof hofc (PySem.W.ks_ne X2 J1 hC) hn ?_
  have I2 := met_new (g := f2) (C := a) I1
  have hb2 : (ncx CX P w K mg base N F f A outer s H E).base.get? h'.objs.size = none := base_none I1 (Nat.le_refl _)
  refine wpAny_mono (callwith_cm (X := ncx CX P w K mg base N F f A outer s H E) I2 hb2 hfn (thn ((ha f A outer s H E).run pos _ _ _ _ _ I2 hq) fun ws s3 ⟨zs, H2, I3, rv, q2⟩ => ⟨⟨pin_at I3, I3.kIn⟩, run_cm G (hr.deeper _) (hx f A outer s H E) I3 rv q2⟩) (hst _) (hpl _)) (fun u s' hs => ?_) fun e s' hs => hs
  obtain ⟨v, H', J, rv, qv⟩ := hs
  exact ⟨v, H', J.os, J.bare, J.base, J.hok, rv, qv⟩
end
end SU
set_option Elab.async false
set_option linter.all false
set_option maxRecDepth 100000
set_option maxHeartbeats 4000000
namespace SU
open PySem PySem.Spec PySem.Calls PyProof.Rows L2 CM LamX NdefX ClX
/-- super().m(x), alone in the text: the name, the method, the argument -/
def supSt : List Stmt → Option (Str × Str × Str)
  | [.Return (some (.Call (.Attribute (.Call (.Name s _) [] [] _) m p) [.Name x _] [] q)) _] => if p.endLine == q.line then some (s, m, x) else none
  | _ => none
theorem supSt_ok {b : List Stmt} {s m x : Str} (h : supSt b = some (s, m, x)) : ∃ p0 p1 p2 p3 p4 p5 : Pos, b = [.Return (some (.Call (.Attribute (.Call (.Name s p0) [] [] p1) m p2) [.Name x p3] [] p4)) p5] ∧ (p2.endLine == p4.line) = true := by
  unfold supSt at h
  split at h
  · split at h
    · rename_i q
      cases h
      exact ⟨_, _, _, _, _, _, rfl, q⟩
    · cases h
  · cases h
theorem sup_ev {p0 p1 p2 p3 p4 : Pos} {m x : Str} (hl : (p2.endLine == p4.line) = true) (env : Env) : eval (.Call (.Attribute (.Call (.Name "super" p0) [] [] p1) m p2) [.Name x p3] [] p4) env = (do
      let ov ← attributeBase (.Call (.Name "super" p0) [] [] p1) m env (eval (.Call (.Name "super" p0) [] [] p1) env)
      standAt p2.atName
      let (f, first) ← holding [ov] (getMethod ov m (do return (← importBound (.Call (.Name "super" p0) [] [] p1) env).getD true))
      callWith p4 f first (backTo p4 (starEach [.Name x p3] env)) []) := by
  have hpos : ∀ o : Expr, methodCallPos true o env p2 p4 = pure p4 := fun o => by
    unfold methodCallPos
    simp [hl]
  conv => lhs; unfold eval
  show (do
      let ov ← attributeBase (.Call (.Name "super" p0) [] [] p1) m env (eval (.Call (.Name "super" p0) [] [] p1) env)
      standAt p2.atName
      let (f, first) ← holding [ov] (calleeOf true (.Call (.Name "super" p0) [] [] p1) env ov m)
      let callPos ← methodCallPos true (.Call (.Name "super" p0) [] [] p1) env p2 p4
      callWith callPos f first (backTo p4 (starEach [.Name x p3] env)) (backToKw p4 (keywordEach [] env))) = _
  simp only [hpos]
  rfl
def supAr (p : Arguments) : Option (Str × Str) := match p with
  | ⟨[], [⟨a, none, _⟩, ⟨b, none, _⟩], none, [], [], none, []⟩ => some (a, b)
  | _ => none
theorem supAr_ok {p : Arguments} {a b : Str} (h : supAr p = some (a, b)) : ∃ q0 q1 : Pos, p = ⟨[], [⟨a, none, q0⟩, ⟨b, none, q1⟩], none, [], [], none, []⟩ := by
  unfold supAr at h
  split at h
  · cases h
    exact ⟨_, _, rfl⟩
  · cases h
def fnAt (K : PySem.W.Frag) (f : Addr) : Option FuncData := match K.lookup f with
  | some ⟨_, _, .func fd, _⟩ => some fd
  | _ => none
theorem fnAt_ok {K : PySem.W.Frag} {f : Addr} {fd : FuncData} (h : fnAt K f = some fd) : ∃ oc od osl, K.lookup f = some ⟨oc, od, .func fd, osl⟩ := by
  unfold fnAt at h
  split at h
  · rename_i e
    cases h
    exact ⟨_, _, _, e⟩
  · cases h
def fileAt (K : PySem.W.Frag) (c : Addr) : Option Str := match K.lookup c with
  | some ⟨_, _, .fields vs, _⟩ => (match (vs[2]? : Option Value) with
    | some (.str z _) => some z
    | _ => none)
  | _ => none
theorem fileAt_ok {K : PySem.W.Frag} {c : Addr} {z : Str} (h : fileAt K c = some z) : ∃ oc od vs osl t, K.lookup c = some ⟨oc, od, .fields vs, osl⟩ ∧ vs[2]? = some (.str z t) := by
  unfold fileAt at h
  split at h
  · rename_i e
    split at h
    · rename_i e2
      cases h
      exact ⟨_, _, _, _, _, e, e2⟩
    · cases h
  · cases h
def cellAt (K : PySem.W.Frag) (c : Addr) : Option Addr := match K.lookup c with
  | some ⟨_, _, .cell (some (.ref D)), _⟩ => some D
  | _ => none
theorem cellAt_ok {K : PySem.W.Frag} {c D : Addr} (h : cellAt K c = some D) : ∃ oc od osl, K.lookup c = some ⟨oc, od, .cell (some (.ref D)), osl⟩ := by
  unfold cellAt at h
  split at h
  · rename_i e
    cases h
    exact ⟨_, _, _, e⟩
  · cases h
/-- how the def ends: its cell, its code object, what else must be nothing -/
def supEnd (fd : FuncData) : Option (Addr × Addr) := match fd with
  | ⟨_, _, _, _, _, g, [(x, cc)], .none, .none, _, _, none, .ref c, _, b⟩ => if decide (x = ("__class__" : Str)) && (decide (g = mainGlobals) && decide (b = builtinsNs)) then some (cc, c) else none
  | _ => none
def bodyOf (fd : FuncData) : List Stmt := match fd.body with
  | .stmts b => b
  | _ => []
theorem supEnd_ok {fd : FuncData} {cc c : Addr} (h : supEnd fd = some (cc, c)) (hb : bodyOf fd ≠ []) : ∃ doc pm ct, fd = PySem.W.fnX fd.name fd.qualname fd.params (bodyOf fd) fd.scope [(("__class__" : Str), cc)] .none .none doc pm none (.ref c) ct := by
  unfold supEnd at h
  split at h
  · split at h
    · rename_i q
      simp only [Bool.and_eq_true, decide_eq_true_eq] at q
      obtain ⟨rfl, rfl, rfl⟩ := q
      cases h
      rename_i bd _ _ _ _
      unfold bodyOf at hb ⊢
      first
        | (cases bd with
          | stmts b => exact ⟨_, _, _, rfl⟩
          | _ => exact absurd rfl hb)
    · cases h
  · cases h
/-- the whole word: C's own m(self, x) says super().m(x), D is the class of the text, f2 the def that is meant -/
def supB (F0 : Str) (K : PySem.W.Frag) (C D f2 : Addr) (m x : Str) : Bool := match fnAt K (He.ma K C m) with
  | some fd => (match supEnd fd with
    | some (cc, c) => decide (supSt (bodyOf fd) = some (("super" : Str), m, x)) && (decide (supAr fd.params = some (("self" : Str), x)) && (nscB ["self", x, "__class__"] ["self", x] ["__class__"] fd.scope && (decide (fd.scope.names.lookup ("super" : Str) = some .globalImplicit) &&
      (PySem.W.codeIn K (.ref c) fd.qualname && (decide (fileAt K c = some F0) && (decide (cellAt K cc = some D) && ((PySem.W.clsIn K D).isSome && (decide (PySem.W.mroIn K C (.ref D) = some true) && ((match PySem.W.clsIn K C with
        | some cd => decide (PySem.W.alongIn K m ((cd.mro.dropWhile (· != .ref D)).drop 1) = some (some (.ref f2)))
        | none => false) && (decide (PySem.W.typeIn K (.ref f2) = some (.type "function")) && (decide (PySem.W.nsIn K cStatics "thirdparty.any" = some none) && PySem.W.fnIn K f2)))))))))))
    | none => false)
  | none => false
structure SupOk (F0 : Str) (P : Program) : Prop where
  file : ((P.main.file : Str) == F0) = true
  top : (P.main.scope.names.lookup ("super" : Str)).isSome = false
section
variable {P : Program} {w : World} {K : PySem.W.Frag} {mg : Str → Option Value} {base : Heap} {CX : CXT} {k : Nat}
theorem supB_ok {F0 : Str} {C D f2 : Addr} {m x : Str} (h : supB F0 K C D f2 m x = true) (O : SupOk F0 P) : ∃ (F : NF) (fd : FuncData) (p0 p1 p2 p3 p4 p5 q0 q1 : Pos), SupF P K C D (He.ma K C m) f2 m F fd ∧
    F.body = [.Return (some (.Call (.Attribute (.Call (.Name "super" p0) [] [] p1) m p2) [.Name x p3] [] p4)) p5] ∧ (p2.endLine == p4.line) = true ∧ F.params = ⟨[], [⟨"self", none, q0⟩, ⟨x, none, q1⟩], none, [], [], none, []⟩ ∧ NScope ["self", x, "__class__"] ["self", x] ["__class__"] F.scope ∧ F.scope.names.lookup ("super" : Str) = some .globalImplicit := by
  unfold supB at h
  split at h
  · rename_i fd e
    split at h
    · rename_i cc c e2
      simp only [Bool.and_eq_true, decide_eq_true_eq] at h
      obtain ⟨h1, h2, h3, h4, h5, h6, h7, h8, h9, h10, h11, h12, h13⟩ := h
      obtain ⟨p0, p1, p2, p3, p4, p5, eb, el⟩ := supSt_ok h1
      obtain ⟨q0, q1, ep⟩ := supAr_ok h2
      obtain ⟨doc, pm, ct, ef⟩ := supEnd_ok e2 (by rw [eb]; exact List.cons_ne_nil _ _)
      obtain ⟨oc, od, osl, lk⟩ := fnAt_ok e
      obtain ⟨ccl, cdd, vs, ccs, tf, lc, hv⟩ := fileAt_ok h6
      obtain ⟨cl, cld, csl, lcell⟩ := cellAt_ok h7
      obtain ⟨cdD, hD⟩ := Option.isSome_iff_exists.mp h8
      split at h10
      · rename_i cd hC
        have h10 := of_decide_eq_true h10
        refine ⟨⟨fd.name, fd.qualname, fd.params, bodyOf fd, fd.scope, [("__class__", cc)], c⟩, fd, p0, p1, p2, p3, p4, p5, q0, q1, ⟨oc, od, doc, pm, ct, osl, cc, ccl, cdd, vs, F0, tf, ccs, cl, cld, csl, cdD, cd, ef, ?_, rfl, h5, lc, hv, O.file, lcell, hD, h9, hC, h10, h11, h12, h13⟩, eb, el, ep, nscope_by h3, h4⟩
        rw [lk]
        exact congrArg some (congrArg (fun z => (⟨oc, od, .func z, osl⟩ : Obj)) ef)
      · cases h10
    · cases h
  · cases h
end
section
variable {P : Program} {w : World} {K : PySem.W.Frag} {mg : Str → Option Value} {base : Heap} {k : Nat}
/-- sides(self, labels), as the class above tells them -/
def spSides (C : Addr) (sp : Sp) : Sp := fun vs H Q E => ∃ a v dx fs, vs = [.ref a, v] ∧ H a = some (.ins C dx fs) ∧ sp [.ref a, v] H Q E
theorem ok_supSides {F0 : Str} {C D f2 : Addr} {fd2 : FuncData} {sp : Sp} (h : supB F0 K C D f2 "sides" "labels" = true) (O : SupOk F0 P) (msup : mg "super" = none) (G : FnOk P w K mg base CX0 k f2 fd2 ["self", "labels"] sp) (hb2 : Binds K fd2 ["self", "labels"] []) :
    ∃ fd, FnOk P w K mg base CX0 (k + 1) (He.ma K C "sides") fd ["self", "labels"] (spSides C sp) ∧ Binds K fd ["self", "labels"] [] := by
  obtain ⟨F, fd, p0, p1, p2, p3, p4, p5, q0, q1, Z, hb, he, hp, S, hs⟩ := supB_ok h O
  refine ⟨fd, FnOk.imp (ok_super (t := tCons (tVar 1) tNil) (ps' := ["labels"]) S Z rfl (by rw [hp]; rfl) hs hb O.top msup (by decide +kernel) (fnR_of G hb2) (fun g A outer s H E => pa_cons (pe_var (i := 1) rfl (.inl (S.par _ (by decide +kernel)))) pa_nil) (fun _ _ _ _ _ _ => pass0) (fun _ => rfl) (fun _ => rfl) (sup_ev he)) (fun vs H Q E hh => ?_), ?_⟩
  · obtain ⟨a, v, dx, fs, rfl, hi, q⟩ := hh
    exact ⟨rfl, a, dx, fs, rfl, hi, v, rfl, q⟩
  · obtain ⟨oc, od, doc, pm, ct, osl, cc, ccl, cdd, cvs, file, tf, ccs, cl, cld, csl, cdD, cd, rfl, lk, _⟩ := Z.ex
    refine Binds.all fun us hl => ?_
    match us, hl with
    | [u0, u1], _ =>
      obtain ⟨nm, qual, params, body, scope, cl, c⟩ := F
      dsimp only at hp
      subst hp
      rfl
end
end SU
set_option Elab.async false
set_option linter.all false
set_option maxRecDepth 100000
set_option maxHeartbeats 4000000
namespace PR
open PySem PySem.Spec PySem.Calls PyProof.Rows L2 CM SU
/-- return x.f -/
def getSt : List Stmt → Option (Str × Str)
  | [.Return (some (.Attribute (.Name x _) f _)) _] => some (x, f)
  | _ => none
theorem getSt_ok {b : List Stmt} {x f : Str} (h : getSt b = some (x, f)) : ∃ p1 p2 p3 : Pos, b = [.Return (some (.Attribute (.Name x p1) f p2)) p3] := by
  unfold getSt at h
  split at h
  · cases h
    exact ⟨_, _, _, rfl⟩
  · cases h
def oneAr (p : Arguments) : Option Str := match p with
  | ⟨[], [⟨a, none, _⟩], none, [], [], none, []⟩ => some a
  | _ => none
theorem oneAr_ok {p : Arguments} {a : Str} (h : oneAr p = some a) : ∃ q0 : Pos, p = ⟨[], [⟨a, none, q0⟩], none, [], [], none, []⟩ := by
  unfold oneAr at h
  split at h
  · cases h
    exact ⟨_, rfl⟩
  · cases h
def flatEnd (fd : FuncData) : Bool := match fd with
  | ⟨_, _, _, _, _, g, [], .none, .none, _, _, _, _, _, b⟩ => decide (g = mainGlobals) && decide (b = builtinsNs)
  | _ => false
theorem flatEnd_ok {fd : FuncData} (h : flatEnd fd = true) (hb : bodyOf fd ≠ []) : ∃ doc pm an ct, fd = PySem.W.fnOf fd.name fd.qualname fd.params (bodyOf fd) fd.scope .none .none doc pm an fd.code ct := by
  unfold flatEnd at h
  split at h
  · simp only [Bool.and_eq_true, decide_eq_true_eq] at h
    obtain ⟨rfl, rfl⟩ := h
    rename_i bd _ _ _ _ _ _
    unfold bodyOf at hb ⊢
    first
      | (cases bd with
        | stmts b => exact ⟨_, _, _, _, rfl⟩
        | _ => exact absurd rfl hb)
  · cases h
def fscB (N ps : List Str) (sc : Scope) : Bool := decide (sc.kind = .function) && (!sc.isCoroutine && (!sc.isGenerator && (decide N.Nodup && (decide (N.take ps.length = ps) && (ps.all (fun x => decide (sc.names.lookup x = some .local)) && sc.names.all (fun y => !decide (y.2 = .free)))))))
theorem fscB_ok {N ps : List Str} {sc : Scope} (h : fscB N ps sc = true) : FnScope N ps sc := by
  unfold fscB at h
  simp only [Bool.and_eq_true, Bool.not_eq_true', decide_eq_true_eq, List.all_eq_true, decide_eq_false_iff_not] at h
  obtain ⟨h1, h2, h3, h4, h5, h6, h7⟩ := h
  exact ⟨h1, h2, h3, h4, h5, fun x hx => .inl (h6 x hx), h7⟩
/-- the class at C has f as a property whose getter returns self.g -/
def propB (K : PySem.W.Frag) (C : Addr) (f g : Str) : Bool := match PySem.W.findIn K (.ref C) f with
  | some (some (.ref p)) => He.eqO (PySem.W.specialIn K (.ref p) "__get__") (some (some (.builtin "property.__get__"))) && (decide (PySem.W.takesIn K (.ref p) = some true) && (match PySem.W.recIn K p "property" with
    | some (.ref q :: _) => (match fnAt K q with
      | some fd => decide (getSt (bodyOf fd) = some (("self" : Str), g)) && (decide (oneAr fd.params = some ("self" : Str)) && (flatEnd fd && (fscB ["self"] ["self"] fd.scope && PySem.W.codeIn K fd.code fd.qualname)))
      | none => false)
    | _ => false))
  | _ => false
section
variable {P : Program} {w : World} {K : PySem.W.Frag} {mg : Str → Option Value} {base : Heap} {CX : CXT}
theorem propB_ok {C : Addr} {f g : Str} (h : propB K C f g = true) (c : Cls K C) (n : NoAttr K C g) : ∃ (p q : Addr) (fd : FuncData), PropOf K C f p q ∧ FnOk P w K mg base CX 1 q fd ["self"] (getSp C g) ∧ Binds K fd ["self"] [] := by
  unfold propB at h
  split at h
  · rename_i p e
    obtain ⟨h1, h⟩ := He.ba h
    obtain ⟨h2, h⟩ := He.ba h
    split at h
    · rename_i q rest e2
      split at h
      · rename_i fd e3
        simp only [Bool.and_eq_true, decide_eq_true_eq] at h
        obtain ⟨h3, h4, h5, h6, h7⟩ := h
        obtain ⟨p1, p2, p3, eb⟩ := getSt_ok h3
        obtain ⟨q0, ep⟩ := oneAr_ok h4
        obtain ⟨doc, pm, an, ct, ef⟩ := flatEnd_ok h5 (by rw [eb]; exact List.cons_ne_nil _ _)
        obtain ⟨oc, od, osl, lk⟩ := fnAt_ok e3
        rw [ef] at lk
        refine ⟨p, q, _, ⟨e, He.eqO_ok h1, of_decide_eq_true (by simpa using h2), ⟨rest, e2⟩⟩, fn_getter lk h7 (fscB_ok h6) rfl eb c n, ?_⟩
        refine Binds.all fun us hl => ?_
        match us, hl with
        | [u0], _ =>
          rw [ep]
          rfl
      · cases h
    · cases h
  · cases h
end
end PR
set_option Elab.async false
set_option linter.all false
set_option maxRecDepth 100000
set_option maxHeartbeats 4000000
namespace BI
open PySem PySem.Spec PySem.Calls PyProof.Rows L2 CM
/-! ### t[::-1], a tuple -/
section
variable {prog : Program} {w : World} {A : Around} {E : Value → Shared → Prop} {s : Shared}
theorem adjust_rev (n : Nat) : Builtin.Slice.sliceAdjust none none (-1) (n : Int) = ((n : Int) - 1, -1) := by
  first
  | rfl
  | (unfold Builtin.Slice.sliceAdjust; simp)
theorem places_rev (n : Nat) : Builtin.Slice.slicePlaces ((n : Int) - 1) (-1) (-1) = n := by
  unfold Builtin.Slice.slicePlaces
  rw [if_neg (by decide)]
  split
  · rw [show (-(-1) : Int) = 1 by decide, Int.ediv_one]
    omega
  · omega
theorem pick_rev (xs : Array Value) : ((List.range xs.size).filterMap fun (k : Nat) => xs[(((xs.size : Int) - 1) + (k : Int) * -1).toNat]?).toArray = xs.toList.reverse.toArray := by
  have e : (fun (k : Nat) => xs[(((xs.size : Int) - 1) + (k : Int) * -1).toNat]?) = (fun k : Nat => xs[k]?) ∘ fun k : Nat => xs.size - 1 - k := by
    funext k
    show xs[_]? = xs[xs.size - 1 - k]?
    have : (((xs.size : Int) - 1) + (k : Int) * -1).toNat = xs.size - 1 - k := by omega
    rw [this]
  rw [e, ← List.filterMap_map, PySem.W.krv_range, List.filterMap_reverse, PySem.W.krv_all]
theorem sliceApplied_rev {sl : Addr} {vl vu vs : Value} {n : Nat} {Q : Int × Int × Nat → Shared → Prop} (hs : s.heap.IsSliceOf sl vl vu vs) (pl : IsPart vl none) (pu : IsPart vu none) (ps : IsPart vs (some (-1)))
    (h : Q ((n : Int) - 1, -1, n) s) : wpAny (model prog w) A (Builtin.Slice.sliceApplied (.ref sl) (pure (n : Int))) Q E s := by
  obtain ⟨os, hos, hcs, hds⟩ := id hs
  unfold Builtin.Slice.sliceApplied Builtin.Slice.sliceFields
  refine wpAny_bind (wpAny_bind (wpAny_field hos hds (x := vl) rfl (wpAny_bind (wpAny_field hos hds (x := vu) rfl (wpAny_bind (wpAny_field hos hds (x := vs) rfl (wpAny_pure ?_)))))))
  refine wpAny_bind (HT.slicePart_ ps ?_)
  show wpAny _ _ (if ((-1 : Int) == 0) = true then _ else _) _ _ s
  rw [if_neg (by decide)]
  refine wpAny_bind (HT.slicePart_ pl (wpAny_bind (HT.slicePart_ pu (wpAny_bind (wpAny_pure ?_)))))
  show wpAny _ _ (match Builtin.Slice.sliceAdjust none none (-1) (n : Int) with | (lo, hi) => pure (lo, (-1 : Int), Builtin.Slice.slicePlaces lo hi (-1))) _ _ s
  rw [adjust_rev n]
  show wpAny _ _ (pure ((n : Int) - 1, (-1 : Int), Builtin.Slice.slicePlaces ((n : Int) - 1) (-1) (-1))) _ _ s
  rw [places_rev]
  exact wpAny_pure h
theorem getItem_tuple_rev {t sl : Addr} {items : Array Value} {vl vu vs : Value} {Q : Value → Shared → Prop} (ht : IsTup s.heap t items) (hs : s.heap.IsSliceOf sl vl vu vs) (pl : IsPart vl none) (pu : IsPart vu none) (ps : IsPart vs (some (-1)))
    (h : Q (.ref s.heap.objs.size) { s with heap := s.heap.push { cls := .type "tuple", data := .seq items.toList.reverse.toArray } }) (hsz : items.size ≤ sizeLine) : wpAny (model prog w) A (getItem (.ref t) (.ref sl)) Q E s := by
  have htake : sizeOk (.seq items.toList.reverse.toArray) := by
    show items.toList.reverse.toArray.size ≤ sizeLine
    rw [List.size_toArray, List.length_reverse, Array.length_toList]
    exact hsz
  obtain ⟨os, hos, hcs, hds⟩ := id hs
  have hTs : s.TypeIs (.ref sl) "slice" := ⟨os, hos, hcs⟩
  unfold getItem
  try with_reducible refine wpAny_holding ?_
  first | refine wpAny_bind (wpAny_pure ?_) | skip
  refine wpAny_bind (wpAny_sequenceKey ht.typeIs (by decide) ?_)
  refine wpAny_bind (wpAny_callSpecial?_slot (name := Str.ofString "__getitem__") ht.typeIs PyProof.Rows.slot_tuple_getitem
    (wpAny_call_entry PyProof.Rows.slot_tuple_getitem ht.typeIs entry_tuple_getitem ?_ (args_tuple_getitem _ _)))
  show wpAny _ _ (Builtin.Tuple.tupleItemsOf (.ref t) >>= _) _ _ s
  refine wpAny_bind (tupleItemsOf_ ht ?_)
  refine wpAny_bind (wpAny_typeOf hTs ?_)
  rw [if_pos (by decide)]
  refine wpAny_bind (sliceApplied_rev hs pl pu ps ?_)
  have hno : ¬ ((((items.size : Int) - 1) == 0 && (-1 : Int) == 1 && items.size == items.size) = true) := by
    intro q
    rw [Bool.and_eq_true, Bool.and_eq_true] at q
    exact absurd q.1.2 (by decide)
  show wpAny _ _ (if (((items.size : Int) - 1) == 0 && (-1 : Int) == 1 && items.size == items.size) = true then _ else _) _ _ s
  rw [if_neg hno, pick_rev]
  first
    | exact wpAny_bind (m := Builtin.Tuple.tupleExact _) (wpAny_newObj_type (wpAny_pure ⟨_, rfl, wpAny_pure h⟩) htake)
    | exact wpAny_bind (m := Builtin.Tuple.tupleExact _) (wpAny_newObj_type (wpAny_bind (wpAny_pure (wpAny_pure ⟨_, rfl, wpAny_pure h⟩))) htake)
    | exact wpAny_bind (wpAny_bind (m := Builtin.Tuple.tupleExact _) (wpAny_newObj_type (wpAny_pure (wpAny_pure ⟨_, rfl, wpAny_pure h⟩)) htake))
    | exact wpAny_bind (wpAny_bind (m := Builtin.Tuple.tupleExact _) (wpAny_newObj_type (wpAny_pure ⟨_, rfl, wpAny_pure h⟩) htake))
end
section
variable {X : Cx}
def tRevT (K : PySem.W.Frag) (te : TE) : TE := fun σ H Q => te σ H fun x H1 => ∃ a xs, x = .ref a ∧ SqT K H1 a xs ∧ ∀ p, H1 p = none → Q (.ref p) (upd H1 p (.tup xs.reverse))
theorem pe_revT {e : Expr} {te : TE} {k : Nat} {p1 p2 p3 pos : Pos} (he : PE X e te) : PE X (.Subscript e (.Slice none none (some (.UnaryOp .USub (.Constant (.int 1) k p1) p2)) p3) pos) (tRevT X.K te) := by
  refine ⟨fun pins s σ H Q I h => ?_⟩
  refine Subscript_ (thn (he.run pins s σ H _ I h) fun v s1 ⟨x, H1, I1, r1, q1⟩ => ?_)
  obtain ⟨a, xs, ex, hx, q⟩ := q1
  subst ex
  cases r1
  have hst : PO X (some (.UnaryOp .USub (.Constant (.int 1) k p1) p2)) (tPart (tUn (rU fun i => .int (-i)) (tC (.int 1)))) := po_some (pe_un un_neg pe_int)
  refine wpAny_Slice (thn (po_none.run pins s1 σ H1 (fun o H2 => o = none ∧ H2 = H1) I1 ⟨rfl, rfl⟩) fun vl s2 ⟨l, H2, I2, pl, el, e2⟩ => ?_)
  subst el e2
  refine thn (po_none.run pins s2 σ H2 (fun o H3 => o = none ∧ H3 = H2) I2 ⟨rfl, rfl⟩) fun vu s3 ⟨u, H3, I3, pu, eu, e3⟩ => ?_
  subst eu e3
  refine thn (hst.run pins s3 σ H3 (fun o H4 => o = some (-1) ∧ H4 = H3) I3 ⟨1, rfl, -1, rfl, rfl, rfl⟩) fun vs s4 ⟨o, H4, I4, ps, eo, e4⟩ => ?_
  subst eo e4
  have I5 : Inv X pins σ H4 { s4 with heap := s4.heap.push { cls := .type "slice", data := .fields #[vl, vu, vs] } } := I4.kept (t' := s4.toks) fun b ob q => Heap.get?_push_of_some _ q
  obtain ⟨its, r, ht, hz⟩ := I5.tuple hx
  have hlen := r.length
  show wpAny (model X.prog X.w) X.A (subscriptTail e (.Slice none none (some (.UnaryOp .USub (.Constant (.int 1) k p1) p2)) p3) (.ref a) (.ref s4.heap.objs.size)) (EP X pins σ Q) X.xe { s4 with heap := s4.heap.push { cls := .type "slice", data := .fields #[vl, vu, vs] } }
  refine tail_any (ops := [.ref a, .ref s4.heap.objs.size]) ht.typeIs (PyProof.Rows.slot_tuple_getitem.lookup) ?_ (by with_unfolding_all rfl)
  refine getItem_tuple_rev ht (Heap.IsSliceOf.new _ vl vu vs) pl pu ps ?_ (by rw [List.size_toArray]; omega)
  refine ⟨.ref _, _, I5.laid (t' := s4.toks) (o := .tup xs.reverse) (fun b ob q => Heap.get?_push_of_some _ q) (Nat.le_refl _) ?_, rfl, q _ (I5.hok.fresh (Nat.le_refl _))⟩
  exact ⟨by rw [List.length_reverse]; exact hz, _, r.reverse, IsTup.new _ _⟩
/-! ### | & ^ of naturals -/
theorem bitNot_not (x : Int) : Builtin.bitNot (Builtin.bitNot x) = x := by
  unfold Builtin.bitNot
  omega
theorem bitAnd_nat (a b : Nat) : Builtin.bitAnd (a : Int) (b : Int) = ((a &&& b : Nat) : Int) := by
  unfold Builtin.bitAnd
  rw [decide_eq_true (Int.natCast_nonneg a), decide_eq_true (Int.natCast_nonneg b)]
  simp
theorem bitOr_nat (a b : Nat) : Builtin.bitOr (a : Int) (b : Int) = ((a ||| b : Nat) : Int) := by
  have h : ∀ n : Nat, ¬ (0 : Int) ≤ Builtin.bitNot (n : Int) := fun n => by
    unfold Builtin.bitNot
    omega
  unfold Builtin.bitOr Builtin.bitAnd
  rw [decide_eq_false (h a), decide_eq_false (h b)]
  simp only [bitNot_not]
  simp
def rN2 (f : Nat → Nat → V) : R2 := fun x y H Q => ∃ a b : Nat, x = .int (a : Int) ∧ y = .int (b : Int) ∧ Q (f a b) H
theorem op_orN : OpR X (binaryOp .BitOr) (rN2 fun a b => .int ((a ||| b : Nat) : Int)) := by
  intro pns s σ H x y v u Q I rx ry h
  obtain ⟨a, b, rfl, rfl, q⟩ := h
  exact op_or pns s σ H _ _ v u Q I rx ry ⟨_, _, rfl, rfl, by dsimp only; rw [bitOr_nat]; exact q⟩
theorem op_andN : OpR X (binaryOp .BitAnd) (rN2 fun a b => .int ((a &&& b : Nat) : Int)) := by
  intro pns s σ H x y v u Q I rx ry h
  obtain ⟨a, b, rfl, rfl, q⟩ := h
  exact op_and pns s σ H _ _ v u Q I rx ry ⟨_, _, rfl, rfl, by dsimp only; rw [bitAnd_nat]; exact q⟩
/-- a ^ b where a has no bit that b lacks -/
def rXor : R2 := fun x y H Q => ∃ a b c : Nat, x = .int (a : Int) ∧ y = .int (b : Int) ∧ a ||| b = b ∧ a &&& b = a ∧ b = a + c ∧ Q (.int (c : Int)) H
theorem op_xorN : OpR X (binaryOp .BitXor) rXor := by
  intro pns s σ H x y v u Q I rx ry h
  obtain ⟨a, b, c, rfl, rfl, h1, h2, h3, q⟩ := h
  refine op_xor pns s σ H _ _ v u Q I rx ry ⟨_, _, rfl, rfl, ?_⟩
  have e : Builtin.bitXor (a : Int) (b : Int) = (c : Int) := by
    unfold Builtin.bitXor
    rw [bitOr_nat, bitAnd_nat, h1, h2]
    omega
  dsimp only
  rw [e]
  exact q
end
section
variable {X : Cx} {K : PySem.W.Frag}
theorem op_inK (hK : X.K = K := by rfl) : OpR X (compareOp .In) (rIn K false) := by
  subst hK
  exact op_in_seq
theorem op_notInK (hK : X.K = K := by rfl) : OpR X (compareOp .NotIn) (rIn K true) := by
  subst hK
  exact op_notIn_seq
theorem op_neNilK (hu : X.A.units + 64 < cLine) (hK : X.K = K := by rfl) : OpR X (compareOp .NotEq) (rNeNil K) := by
  subst hK
  exact op_neNil hu
end
theorem pi_tupK {X : Cx} {K : PySem.W.Frag} {tg l : Expr} {tl : TE} (hl : PE X l tl) (hK : X.K = K := by rfl) : PI X tg l (iTup K tl) := by
  subst hK
  exact pi_tup hl
theorem pi_listK {X : Cx} {K : PySem.W.Frag} {tg l : Expr} {tl : TE} (hl : PE X l tl) (hK : X.K = K := by rfl) : PI X tg l (iList K tl) := by
  subst hK
  exact pi_list hl
/-- the scope of a list comprehension; the value of a def that only returns -/
def lcSc : Expr → Scope
  | .ListComp _ _ sc _ => sc
  | _ => { kind := .module, names := [], isGenerator := false, isCoroutine := false, more := [] }
def ret0 (st : Stmt) : Expr := match defBody st with
  | .Return (some e) _ :: _ => e
  | _ => .Name "" ⟨0, 0, 0, 0⟩
theorem seqT {K : PySem.W.Frag} {H H' : Hp} {a : Addr} {xs : List V} (e : Same H H') (h : SqT K H a xs) : SqT K H' a xs := by
  rcases h with (h | ⟨o, h⟩) | h
  · exact .inl (.inl (e _ _ h))
  · exact .inl (.inr ⟨o, e _ _ h⟩)
  · exact .inr h
/-! ### masks -/
def mk (f : Nat → Bool) : Nat → Nat
  | 0 => 0
  | w + 1 => mk f w + if f w then 2 ^ w else 0
theorem mk_lt (f : Nat → Bool) : ∀ w, mk f w < 2 ^ w
  | 0 => Nat.one_pos
  | w + 1 => by
    have h := mk_lt f w
    rw [Nat.pow_succ]
    unfold mk
    split <;> omega
theorem mk_bit (f : Nat → Bool) (k : Nat) : ∀ w, (mk f w).testBit k = (decide (k < w) && f k)
  | 0 => by simp [mk]
  | w + 1 => by
    have ih := mk_bit f k w
    have h := mk_lt f w
    unfold mk
    by_cases hw : f w = true
    · rw [if_pos hw, Nat.add_comm]
      by_cases e : k = w
      · subst e
        rw [Nat.testBit_two_pow_add_eq, Nat.testBit_lt_two_pow h, hw]
        simp
      · rcases Nat.lt_or_gt_of_ne e with g | g
        · rw [Nat.testBit_two_pow_add_gt g, ih]
          simp [show k < w + 1 by omega, g]
        · have e2 : ¬ k < w + 1 := by omega
          rw [Nat.testBit_lt_two_pow (Nat.lt_of_lt_of_le (show 2 ^ w + mk f w < 2 ^ (w + 1) by rw [Nat.pow_succ]; omega) (Nat.pow_le_pow_right (by decide) (show w + 1 ≤ k by omega)))]
          simp [e2]
    · rw [if_neg hw, Nat.add_zero, ih]
      by_cases e : k = w
      · subst e
        simp [hw]
      · simp [show (k < w) ↔ (k < w + 1) by omega]
theorem mk_ext {f g : Nat → Bool} : ∀ {w : Nat}, (∀ k, k < w → f k = g k) → mk f w = mk g w
  | 0, _ => rfl
  | w + 1, h => by
    unfold mk
    rw [mk_ext fun k hk => h k (by omega), h w (by omega)]
theorem mk_or (f g : Nat → Bool) (w : Nat) : mk f w ||| mk g w = mk (fun k => f k || g k) w := by
  apply Nat.eq_of_testBit_eq
  intro k
  rw [Nat.testBit_or, mk_bit, mk_bit, mk_bit]
  cases decide (k < w) <;> simp
theorem mk_and (f g : Nat → Bool) (w : Nat) : mk f w &&& mk g w = mk (fun k => f k && g k) w := by
  apply Nat.eq_of_testBit_eq
  intro k
  rw [Nat.testBit_and, mk_bit, mk_bit, mk_bit]
  cases decide (k < w) <;> simp
theorem mk_put {f : Nat → Bool} {w j : Nat} (hj : j < w) : mk f w ||| 2 ^ j = mk (fun k => f k || decide (k = j)) w := by
  apply Nat.eq_of_testBit_eq
  intro k
  rw [Nat.testBit_or, mk_bit, mk_bit, Nat.testBit_two_pow]
  by_cases e : j = k
  · subst e
    simp [hj]
  · simp [e, Ne.symm e]
theorem mk_none {w : Nat} : mk (fun _ => false) w = 0 := by
  induction w with
  | zero => rfl
  | succ w ih =>
    unfold mk
    rw [ih]
    rfl
/-- the part that g has more -/
theorem mk_more {f g : Nat → Bool} (h : ∀ k, f k = true → g k = true) : ∀ w, mk g w = mk f w + mk (fun k => g k && !f k) w
  | 0 => rfl
  | w + 1 => by
    have ih := mk_more h w
    unfold mk
    rw [ih]
    cases hf : f w with
    | true =>
      rw [h w hf]
      simp
      omega
    | false =>
      cases hg : g w <;> simp <;> omega
theorem mk_eq {f g : Nat → Bool} {w : Nat} : mk f w = mk g w ↔ ∀ k, k < w → f k = g k := by
  refine ⟨fun e k hk => ?_, mk_ext⟩
  have z := congrArg (fun n : Nat => n.testBit k) e
  simpa [mk_bit, hk] using z
/-! ### how many -/
def cnt (f : Nat → Bool) (w : Nat) : Nat := ((List.range w).filter f).length
theorem cnt_succ (f : Nat → Bool) (w : Nat) : cnt f (w + 1) = cnt f w + if f w then 1 else 0 := by
  unfold cnt
  rw [List.range_succ, List.filter_append, List.length_append]
  by_cases h : f w = true
  · rw [if_pos h, List.filter_cons_of_pos (p := f) h]
    rfl
  · rw [if_neg h, List.filter_cons_of_neg (p := f) h]
    rfl
theorem cnt_ext {f g : Nat → Bool} : ∀ {w : Nat}, (∀ k, k < w → f k = g k) → cnt f w = cnt g w
  | 0, _ => rfl
  | w + 1, h => by rw [cnt_succ, cnt_succ, cnt_ext fun k hk => h k (by omega), h w (by omega)]
theorem cnt_more {f g : Nat → Bool} (h : ∀ k, f k = true → g k = true) : ∀ w, cnt g w = cnt f w + cnt (fun k => g k && !f k) w
  | 0 => rfl
  | w + 1 => by
    have ih := cnt_more h w
    rw [cnt_succ, cnt_succ, cnt_succ, ih]
    cases hf : f w with
    | true =>
      rw [h w hf]
      simp
      omega
    | false =>
      cases hg : g w <;> simp <;> omega
theorem cnt_up {f : Nat → Bool} {w : Nat} (h : ∀ k, w ≤ k → f k = false) : ∀ d, cnt f (w + d) = cnt f w
  | 0 => rfl
  | d + 1 => by
    rw [← Nat.add_assoc, cnt_succ, cnt_up h d, h (w + d) (by omega)]
    rfl
theorem cnt_le {f : Nat → Bool} {w v : Nat} (hw : ∀ k, w ≤ k → f k = false) (hv : ∀ k, v ≤ k → f k = false) : cnt f w = cnt f v := by
  rcases Nat.le_total w v with h | h
  · have z := cnt_up hw (v - w)
    rw [show w + (v - w) = v by omega] at z
    exact z.symm
  · have z := cnt_up hv (w - v)
    rw [show v + (w - v) = w by omega] at z
    exact z
/-- the bits of a mask, counted by any length that is enough -/
theorem cnt_mk {f : Nat → Bool} {w L : Nat} (hL : mk f w < 2 ^ L) : cnt (fun k => (mk f w).testBit k) L = cnt f w := by
  rw [cnt_le (w := L) (v := w) (fun k hk => Nat.testBit_lt_two_pow (Nat.lt_of_lt_of_le hL (Nat.pow_le_pow_right (by decide) hk))) fun k hk => by rw [mk_bit, decide_eq_false (by omega)]; rfl]
  exact cnt_ext fun k hk => by rw [mk_bit, decide_eq_true hk]; rfl
/-- a mask as a sum -/
theorem mk_sum (f : Nat → Bool) : ∀ w, (((List.range w).filter f).map fun k => 2 ^ k).sum = mk f w
  | 0 => rfl
  | w + 1 => by
    rw [List.range_succ, List.filter_append, List.map_append, List.sum_append, mk_sum f w]
    show _ = mk f w + if f w then 2 ^ w else 0
    by_cases h : f w = true
    · rw [if_pos h, List.filter_cons_of_pos (p := f) h]
      simp
    · rw [if_neg h, List.filter_cons_of_neg (p := f) h]
      simp
end BI
set_option Elab.async false
set_option linter.all false
set_option maxRecDepth 100000
set_option maxHeartbeats 4000000
namespace OX
open PySem PySem.Spec PyProof.Rows L2 CM
def oexB (K : PySem.W.Frag) (C : Addr) : Bool := (match K.lookup C with
    | some ⟨.type "type", _, .cls cd, sl⟩ => (match cd.mro, sl.toList with
      | .ref C' :: bm, [_, _, _, _, some (.builtin n), _] => decide (C' = C) && (decide (n = "ValueError.__new__") && (!cd.hasDel && (cd.hasDict && PySem.HandSPX.refsVE bm)))
      | _, _ => false)
    | _ => false) && (He.eqO (PySem.W.findIn K (.ref C) "__setattr__") (some (some (.builtin "object.__setattr__"))) && (decide (PySem.W.subIn K (.ref C) (.type "BaseException") = some true) &&
      (decide (PySem.W.typeIn K (.ref C) = some (.type "type")) && PySem.W.keepIn K (.ref C))))
theorem oexB_ok {K : PySem.W.Frag} {C : Addr} (h : oexB K C = true) : OexC K C := by
  obtain ⟨h1, h⟩ := He.ba h
  obtain ⟨h2, h⟩ := He.ba h
  obtain ⟨h3, h⟩ := He.ba h
  obtain ⟨h4, h5⟩ := He.ba h
  refine ⟨?_, He.eqO_ok h2, of_decide_eq_true h3, of_decide_eq_true h4, h5⟩
  split at h1
  · rename_i dd cd sl ho
    split at h1
    · rename_i C' bm k0 k1 k2 k3 n k5 hm hs
      obtain ⟨g1, h1⟩ := He.ba h1
      obtain ⟨g2, h1⟩ := He.ba h1
      obtain ⟨g3, h1⟩ := He.ba h1
      obtain ⟨g4, g5⟩ := He.ba h1
      obtain ⟨nm, bs, mro, ns, qn, hd, sn, sb, ab, col, del⟩ := cd
      dsimp only at hm g3 g4
      subst hm g4
      obtain rfl : C' = C := of_decide_eq_true g1
      obtain rfl : n = "ValueError.__new__" := of_decide_eq_true g2
      obtain rfl : del = false := by
        cases del
        · rfl
        · cases g3
      obtain rfl : sl = #[k0, k1, k2, k3, some (.builtin "ValueError.__new__"), k5] := by
        rw [← Array.toArray_toList (xs := sl), hs]
      exact ⟨_, _, _, _, _, _, _, _, _, _, _, _, _, _, _, ho, g5⟩
    · cases h1
  · cases h1
/-- an own error whose __init__ stores its one argument as f -/
def errB (K : PySem.W.Frag) (C : Addr) (f : Str) : Bool := oexB K C && (He.eqO (PySem.W.findIn K (.ref C) "__init__") (some (some (.ref (He.ma K C "__init__")))) && (decide (PySem.W.typeIn K (.ref (He.ma K C "__init__")) = some (.type "function")) &&
  (He.eqO (PySem.W.findIn K (.ref C) f) (some none) && (xfB K C && decide (PySem.W.exmOne K (.ref C) (.ref C) = some true)))))
structure ErrOk (K : PySem.W.Frag) (C : Addr) (f : Str) : Prop where
  ox : OexC K C
  iC : PySem.W.findIn K (.ref C) "__init__" = some (some (.ref (He.ma K C "__init__")))
  tI : PySem.W.typeIn K (.ref (He.ma K C "__init__")) = some (.type "function")
  no : PySem.W.findIn K (.ref C) f = some none
  xf : XfC K C
  te : PySem.W.exmOne K (.ref C) (.ref C) = some true
theorem errB_ok {K : PySem.W.Frag} {C : Addr} {f : Str} (h : errB K C f = true) : ErrOk K C f := by
  obtain ⟨h1, h⟩ := He.ba h
  obtain ⟨h2, h⟩ := He.ba h
  obtain ⟨h3, h⟩ := He.ba h
  obtain ⟨h4, h⟩ := He.ba h
  obtain ⟨h5, h6⟩ := He.ba h
  exact ⟨oexB_ok h1, He.eqO_ok h2, of_decide_eq_true h3, He.eqO_ok h4, xfB_ok h5, of_decide_eq_true h6⟩
/-! ### what the names reach, and the interpreter's own statics -/
def reachY (g : Addr → Option Obj) (n : Nat) : PySem.W.Frag := He.frT g (He.asD g n ++ [cStatics, sysModules])
def obsY (n : Nat) (fa : List He.Fa) (fn : List He.DefD) (ex : PySem.W.Frag → Bool) (g : Addr → Option Obj) : He.AlX :=
  (He.obsT fa fn [] (reachY g n), ex (reachY g n))
theorem saysY {n : Nat} {fa : List He.Fa} {fn : List He.DefD} {ex : PySem.W.Frag → Bool} {w : World} {h : Heap} (e : obsY n fa fn ex h.get? = He.valX fn [] w) : He.SaysX fa fn [] [] ex w h (reachY h.get? n) where
  t := congrArg Prod.fst e
  more := congrArg Prod.snd e
  hd := fun _ z => absurd z List.not_mem_nil
  out := fun _ z => absurd z List.not_mem_nil
  empty := fun _ z => absurd z List.not_mem_nil
def hookY (n : Nat) (fa : List He.Fa) (fn : List He.DefD) (ex : PySem.W.Frag → Bool) : PySem.W.Hook where
  α := He.AlX
  obs s := obsY n fa fn ex s.heap.get?
  val w := He.valX fn [] w
  says w h := ∃ K : PySem.W.Frag, K.In h ∧ He.SaysX fa fn [] [] ex w h K
  of _ s e := ⟨reachY s.heap.get? n, He.frT_in, saysY e⟩
  keeps _ _ _ z k := by
    obtain ⟨K, hK, c⟩ := z
    refine ⟨K, hK.keeps k, ?_⟩
    exact { t := c.t, more := c.more, hd := c.hd, out := c.out, empty := fun _ z => absurd z List.not_mem_nil }
theorem obsY_eq {n : Nat} {fa : List He.Fa} {fn : List He.DefD} {ex : PySem.W.Frag → Bool} {g : Addr → Option Obj} {s : Shared} (h : ∀ a, g a = s.heap.get? a) : obsY n fa fn ex g = (hookY n fa fn ex).obs s := by
  rw [show g = s.heap.get? from funext h]
  rfl
end OX
set_option Elab.async false
set_option linter.all false
set_option maxRecDepth 100000
set_option maxHeartbeats 4000000
namespace DN
open PySem PySem.Spec PyProof.Rows L2 CM
/-! ### keys: None, ints, texts, tuples of such -/
abbrev NK := NestedKey
mutual
inductive KeyV (H : Hp) : NK → V → Prop
  | non : KeyV H .none .non
  | int (i : Int) : KeyV H (.num i) (.int i)
  | str (z : Str) : KeyV H (.text z) (.str z)
  | tup {a : Addr} {ks : List NK} {vs : List V} : H a = some (.tup vs) → KeysV H ks vs → KeyV H (.tup ks) (.ref a)
inductive KeysV (H : Hp) : List NK → List V → Prop
  | nil : KeysV H [] []
  | cons {k : NK} {v : V} {ks : List NK} {vs : List V} : KeyV H k v → KeysV H ks vs → KeysV H (k :: ks) (v :: vs)
end
mutual
theorem KeyV.same {H H' : Hp} (s : ∀ a xs, H a = some (.tup xs) → H' a = some (.tup xs)) : ∀ {k : NK} {v : V}, KeyV H k v → KeyV H' k v
  | _, _, .non => .non
  | _, _, .int i => .int i
  | _, _, .str z => .str z
  | _, _, .tup e h => .tup (s _ _ e) (h.same s)
theorem KeysV.same {H H' : Hp} (s : ∀ a xs, H a = some (.tup xs) → H' a = some (.tup xs)) : ∀ {ks : List NK} {vs : List V}, KeysV H ks vs → KeysV H' ks vs
  | _, _, .nil => .nil
  | _, _, .cons h t => .cons (h.same s) (t.same s)
end
mutual
theorem KeyV.is {P : Program} {w : World} {H : Hp} {h : Heap} (ok : HOk P w H h) : ∀ {k : NK} {v : V}, KeyV H k v → ∀ {u : Value}, RelV v u → NestedIs h k u
  | _, _, .non, u, r => by
    obtain rfl : u = Value.none := r
    exact .none
  | _, _, .int i, u, r => by
    obtain ⟨t, rfl⟩ := r
    exact .int i t
  | _, _, .str z, u, r => by
    obtain ⟨t, rfl⟩ := r
    exact .text z t
  | _, _, .tup (a := a) e hs, u, r => by
    obtain rfl : u = Value.ref a := r
    obtain ⟨_, its, rv, o, g, hc, n, hd⟩ := (show ObjOk P w H h a (.tup _) from ok a _ e)
    exact .tup g hc hd (by simpa using hs.is ok rv)
theorem KeysV.is {P : Program} {w : World} {H : Hp} {h : Heap} (ok : HOk P w H h) : ∀ {ks : List NK} {vs : List V}, KeysV H ks vs → ∀ {us : List Value}, Vals vs us → NestedAll h ks us
  | _, _, .nil, _, .nil => .nil
  | _, _, .cons h1 t1, _, .cons r1 r2 => .cons (h1.is ok r1) (t1.is ok r2)
end
mutual
theorem KeyV.inj {H : Hp} : ∀ {k j : NK} {v : V}, KeyV H k v → KeyV H j v → k = j
  | _, _, _, .non, .non => rfl
  | _, _, _, .int _, .int _ => rfl
  | _, _, _, .str _, .str _ => rfl
  | _, _, _, .tup e h, .tup e2 h2 => by
    rw [e] at e2
    cases e2
    rw [h.inj h2]
theorem KeysV.inj {H : Hp} : ∀ {ks js : List NK} {vs : List V}, KeysV H ks vs → KeysV H js vs → ks = js
  | _, _, _, .nil, .nil => rfl
  | _, _, _, .cons a b, .cons c d => by rw [a.inj c, b.inj d]
end
/-! ### the dict -/
abbrev Ent := NK × Addr × V
/-- its entries, told by values: the keys' own addresses are kept -/
def dn (P : Program) (w : World) (d : Addr) (xs : List Ent) : HO := .ext fun h => ∃ us : List Value, Vals (xs.map (·.2.2)) us ∧ xs.length ≤ sizeLine ∧ (d == sysModules) = false ∧ (xs.map (·.1)).Nodup ∧
  ∃ o es ep, h.get? d = some o ∧ o.ExactDict ∧ o.data = .dict es ep ∧ es.toList = ((xs.zip us).map fun p => (p.1.1, p.1.2.1, p.2)).map (entryOfKey (nestedKind P w))
/-- at d: a dict of these keys and values, in their order -/
def Dct (P : Program) (w : World) (H : Hp) (d : Addr) (xs : List Ent) : Prop := H d = some (dn P w d xs) ∧ ∀ x ∈ xs, KeyV H x.1 (.ref x.2.1) ∧ x.1.depth ≤ 8
theorem Dct.mono {P : Program} {w : World} {H H' : Hp} {d : Addr} {xs : List Ent} (h : Dct P w H d xs) (e : H' d = some (dn P w d xs)) (s : ∀ a ys, H a = some (.tup ys) → H' a = some (.tup ys)) : Dct P w H' d xs := ⟨e, fun x hx => ⟨(h.2 x hx).1.same s, (h.2 x hx).2⟩⟩
theorem Dct.same {P : Program} {w : World} {H H' : Hp} {d : Addr} {xs : List Ent} (h : Dct P w H d xs) (s : Same H H') : Dct P w H' d xs := h.mono (s _ _ h.1) fun a ys e => s a _ e
theorem dn_ne {P : Program} {w : World} {d : Addr} {xs : List Ent} {ys : List V} : dn P w d xs ≠ .tup ys := fun z => by
  unfold dn at z
  cases z
/-- what the library wants of it -/
theorem Dct.keyed {P : Program} {w : World} {H : Hp} {h : Heap} {d : Addr} {xs : List Ent} (ok : HOk P w H h) (D : Dct P w H d xs) : ∃ zs : List (NK × Addr × Value), h.DictOfH (nestedKind P w) d zs ∧ Paired (fun x z => x.1 = z.1 ∧ x.2.1 = z.2.1 ∧ RelV x.2.2 z.2.2) xs zs ∧ xs.length ≤ sizeLine ∧ (d == sysModules) = false := by
  obtain ⟨⟨us, r, hl, hs, nd, o, es, ep, g, ex, hd, he⟩, _⟩ := (show ObjOk P w H h d (dn P w d xs) from ok d _ D.1)
  have pr : ∀ {xs : List Ent} {us : List Value}, Vals (xs.map (·.2.2)) us → Paired (fun x z => x.1 = z.1 ∧ x.2.1 = z.2.1 ∧ RelV x.2.2 z.2.2) xs ((xs.zip us).map fun p => (p.1.1, p.1.2.1, p.2)) := by
    intro xs
    induction xs with
    | nil =>
      intro us r
      exact .nil
    | cons x xs ih =>
      intro us r
      cases r with
      | cons a b => exact .cons ⟨rfl, rfl, a⟩ (ih b)
  have keys : ∀ {xs : List Ent} {us : List Value}, Vals (xs.map (·.2.2)) us → ((xs.zip us).map fun p => (p.1.1, p.1.2.1, p.2)).map (·.1) = xs.map (·.1) := by
    intro xs
    induction xs with
    | nil =>
      intro us r
      rfl
    | cons x xs ih =>
      intro us r
      cases r with
      | cons a b =>
        rw [List.zip_cons_cons, List.map_cons, List.map_cons, List.map_cons, ih b]
  refine ⟨_, ⟨o, es, ep, g, ex, hd, he, fun z hz => ?_, by rw [keys r]; exact nd⟩, pr r, hl, hs⟩
  obtain ⟨p, hp, rfl⟩ := List.mem_map.mp hz
  have hx := (List.of_mem_zip (a := p.1) (b := p.2) hp).1
  exact ⟨(D.2 p.1 hx).1.is ok rfl, (D.2 p.1 hx).2⟩
/-- the value at a key -/
def at_ (xs : List Ent) (k : NK) : Option V := (xs.find? fun x => decide (x.1 = k)).map (·.2.2)
theorem at_rel : ∀ {xs : List Ent} {zs : List (NK × Addr × Value)} (k : NK), Paired (fun x z => x.1 = z.1 ∧ x.2.1 = z.2.1 ∧ RelV x.2.2 z.2.2) xs zs → RelO (at_ xs k) ((atKey zs k).map (·.2))
  | _, _, k, .nil => trivial
  | x :: xs, z :: zs, k, .cons h t => by
    have ih := at_rel k t
    unfold at_ atKey at ih ⊢
    rw [List.find?_cons, List.find?_cons, ← h.1]
    by_cases e : x.1 = k
    · rw [decide_eq_true e]
      exact h.2.2
    · rw [decide_eq_false e]
      exact ih
/-! ### made, changed -/
def putE (xs : List Ent) (k : NK) (a : Addr) (v : V) : List Ent := if (at_ xs k).isSome then xs.map fun x => if x.1 = k then (x.1, x.2.1, v) else x else xs ++ [(k, a, v)]
def dropE (xs : List Ent) (k : NK) : List Ent := xs.filter fun x => decide (x.1 ≠ k)
abbrev Alike : List Ent → List (NK × Addr × Value) → Prop := Paired fun x z => x.1 = z.1 ∧ x.2.1 = z.2.1 ∧ RelV x.2.2 z.2.2
theorem Alike.len {xs : List Ent} {zs : List (NK × Addr × Value)} (p : Alike xs zs) : xs.length = zs.length := Paired.length p
theorem Alike.vals : ∀ {xs : List Ent} {zs : List (NK × Addr × Value)}, Alike xs zs → Vals (xs.map (·.2.2)) (zs.map (·.2.2))
  | _, _, .nil => .nil
  | _, _, .cons h t => .cons h.2.2 (Alike.vals t)
theorem Alike.zip : ∀ {xs : List Ent} {zs : List (NK × Addr × Value)}, Alike xs zs → ((xs.zip (zs.map (·.2.2))).map fun p => (p.1.1, p.1.2.1, p.2)) = zs
  | _, _, .nil => rfl
  | x :: xs, (k, a, v) :: zs, .cons h t => by
    rw [List.map_cons, List.zip_cons_cons, List.map_cons, Alike.zip t]
    obtain ⟨h1, h2, _⟩ := h
    dsimp only at h1 h2 ⊢
    rw [h1, h2]
theorem Alike.keys : ∀ {xs : List Ent} {zs : List (NK × Addr × Value)}, Alike xs zs → xs.map (·.1) = zs.map (·.1)
  | _, _, .nil => rfl
  | _, _, .cons h t => by rw [List.map_cons, List.map_cons, Alike.keys t, h.1]
theorem dn_ok {P : Program} {w : World} {H : Hp} {h : Heap} {d : Addr} {xs : List Ent} {zs : List (NK × Addr × Value)} (m : h.DictOfH (nestedKind P w) d zs) (p : Alike xs zs) (hl : xs.length ≤ sizeLine) (hs : (d == sysModules) = false) : ObjOk P w H h d (dn P w d xs) := by
  obtain ⟨o, es, ep, g, ex, hd, he, _, nd⟩ := m
  refine ⟨⟨zs.map (·.2.2), p.vals, hl, hs, by rw [p.keys]; exact nd, o, es, ep, g, ex, hd, by rw [p.zip]; exact he⟩, ⟨o, g⟩, fun h1 h2 φ k => ?_⟩
  obtain ⟨us, r, hl, hs, nd, o, es, ep, g, rest⟩ := φ
  exact ⟨us, r, hl, hs, nd, o, es, ep, k _ g, rest⟩
theorem Alike.puts {k : NK} {v : V} {u : Value} (r : RelV v u) : ∀ {xs : List Ent} {zs : List (NK × Addr × Value)}, Alike xs zs → Alike (xs.map fun x => if x.1 = k then (x.1, x.2.1, v) else x) (zs.map (putAt k u))
  | _, _, .nil => .nil
  | x :: xs, z :: zs, .cons h t => by
    rw [List.map_cons, List.map_cons]
    refine .cons ?_ (Alike.puts r t)
    unfold putAt
    obtain ⟨h1, h2, h3⟩ := h
    by_cases e : x.1 = k
    · rw [if_pos e, if_pos (h1 ▸ e)]
      exact ⟨h1, h2, r⟩
    · rw [if_neg e, if_neg (h1 ▸ e)]
      exact ⟨h1, h2, h3⟩
theorem Alike.more {k : NK} {a : Addr} {v : V} {u : Value} (r : RelV v u) : ∀ {xs : List Ent} {zs : List (NK × Addr × Value)}, Alike xs zs → Alike (xs ++ [(k, a, v)]) (zs ++ [(k, a, u)])
  | _, _, .nil => .cons ⟨rfl, rfl, r⟩ .nil
  | _, _, .cons h t => .cons h (Alike.more r t)
theorem Alike.put {xs : List Ent} {zs : List (NK × Addr × Value)} (p : Alike xs zs) (k : NK) (a : Addr) {v : V} {u : Value} (r : RelV v u) : Alike (putE xs k a v) (storedH zs k a u) := by
  have e : (at_ xs k).isSome = (atKey zs k).isSome := by
    have z := at_rel k p
    cases h1 : at_ xs k <;> cases h2 : atKey zs k <;> rw [h1, h2] at z <;> first | rfl | exact z.elim
  unfold putE storedH
  rw [e]
  split
  · exact Alike.puts r p
  · exact Alike.more r p
theorem Alike.drop {xs : List Ent} {zs : List (NK × Addr × Value)} (p : Alike xs zs) (k : NK) : Alike (dropE xs k) (withoutH zs k) := by
  unfold dropE withoutH
  induction p with
  | nil => exact .nil
  | @cons x z xs zs h t ih =>
    rw [List.filter_cons, List.filter_cons, ← h.1]
    split
    · exact .cons h ih
    · exact ih
theorem len_put (xs : List Ent) (k : NK) (a : Addr) (v : V) : (putE xs k a v).length ≤ xs.length + 1 := by
  unfold putE
  split
  · rw [List.length_map]
    omega
  · rw [List.length_append]
    exact Nat.le_refl _
theorem len_drop (xs : List Ent) (k : NK) : (dropE xs k).length ≤ xs.length := List.length_filter_le _ _
section
variable {X : Cx} {pins : List (Addr × Obj)} {σ : L2.St} {H : Hp} {s : Shared} {d a : Addr} {xs : List Ent} {k : NK}
theorem key_is (I : Inv X pins σ H s) (hk : KeyV H k (.ref a)) (hd : k.depth ≤ 8) : (nestedKind X.prog X.w).is s.heap k a := ⟨hk.is I.hok rfl, hd⟩
theorem room_in (hu : X.A.units + 40 < cLine) : (nestedKind X.prog X.w).room X.A.in1 := by
  show X.A.units + 1 + 8 < cLine
  omega
def rInN (P : Program) (w : World) (neg : Bool) : R2 := fun x y H Q => ∃ (a d : Addr) (xs : List Ent) (k : NK), x = .ref a ∧ y = .ref d ∧ Dct P w H d xs ∧ KeyV H k (.ref a) ∧ k.depth ≤ 8 ∧ Q (.bl (if neg then !(at_ xs k).isSome else (at_ xs k).isSome)) H
theorem some_rel {xs : List Ent} {zs : List (NK × Addr × Value)} (k : NK) (p : Alike xs zs) : (atKey zs k).isSome = (at_ xs k).isSome := by
  have z := at_rel k p
  cases h1 : at_ xs k <;> cases h2 : atKey zs k <;> rw [h1, h2] at z <;> first | rfl | exact z.elim
theorem op_inN {P : Program} {w : World} (hu : X.A.units + 40 < cLine) (hP : X.prog = P := by rfl) (hw : X.w = w := by rfl) : OpR X (compareOp .In) (rInN P w false) := by
  subst hP hw
  intro pns s σ H x y v u Q I rx ry h
  obtain ⟨a, d, xs, k, rfl, rfl, D, hk, hd, q⟩ := h
  cases (show v = Value.ref a from rx)
  cases (show u = Value.ref d from ry)
  obtain ⟨zs, m, p, hl, hs⟩ := D.keyed I.hok
  refine wpAny_in_heap (room_in hu) (key_is I hk hd) hs m ⟨.bl _, H, I.tok _, rfl, ?_⟩
  rw [some_rel k p]
  exact q
theorem op_notInN {P : Program} {w : World} (hu : X.A.units + 40 < cLine) (hP : X.prog = P := by rfl) (hw : X.w = w := by rfl) : OpR X (compareOp .NotIn) (rInN P w true) := by
  subst hP hw
  intro pns s σ H x y v u Q I rx ry h
  obtain ⟨a, d, xs, k, rfl, rfl, D, hk, hd, q⟩ := h
  cases (show v = Value.ref a from rx)
  cases (show u = Value.ref d from ry)
  obtain ⟨zs, m, p, hl, hs⟩ := D.keyed I.hok
  refine PyProof.Rows.wpAny_notIn_heap (room_in hu) (key_is I hk hd) hs m ⟨.bl _, H, I.tok _, rfl, ?_⟩
  rw [some_rel k p]
  exact q
/-- d[k] = v -/
def rSetN (P : Program) (w : World) : TSet := fun o i v H Q => ∃ (d a : Addr) (xs : List Ent) (k : NK), o = .ref d ∧ i = .ref a ∧ Dct P w H d xs ∧ KeyV H k (.ref a) ∧ k.depth ≤ 8 ∧ xs.length < 1000 ∧ Q (upd H d (dn P w d (putE xs k a v)))
theorem set_dictN (hu : X.A.units + 40 < cLine) : PSet X (rSetN X.prog X.w) := by
  intro pins s σ H o i v ov iv u Q I ro ri rv h
  obtain ⟨d, a, xs, k, rfl, rfl, D, hk, hd, hz, q⟩ := h
  cases (show ov = Value.ref d from ro)
  cases (show iv = Value.ref a from ri)
  obtain ⟨zs, m, p, hl, hs⟩ := D.keyed I.hok
  refine wpAny_setItem_heap (room_in hu) (key_is I hk hd) m (fun h' m' sb => ?_) (by rw [← Alike.len p]; exact hl)
  have hz2 := len_put xs k a v
  refine ⟨_, I.write (x := d) (e := d) (o := dn X.prog X.w d (putE xs k a v)) (by rw [D.1]; exact True.intro) (.inl rfl) (fun b o hb e => (sb.2 b hb).trans e) ?_ (dn_ok m' (Alike.put p k a rv) (Nat.le_trans hz2 (by rw [sizeLine_eq]; omega)) hs), q⟩
  obtain ⟨o, _, _, g, _⟩ := m'
  exact ⟨o, g⟩
/-- del d[k], there -/
def sDelN (P : Program) (w : World) (td ty : TE) : TS := fun D σ H => td σ H fun x H1 => ty σ H1 fun y H2 => ∃ (d a : Addr) (xs : List Ent) (k : NK), x = .ref d ∧ y = .ref a ∧ Dct P w H2 d xs ∧ KeyV H2 k (.ref a) ∧ k.depth ≤ 8 ∧ (at_ xs k).isSome = true ∧ D.nx σ (upd H2 d (dn P w d (dropE xs k)))
theorem ps_delN {o i : Expr} {td ty : TE} {tpos pos : Pos} (hu : X.A.units + 40 < cLine) (ho : PE X o td) (hi : PE X i ty) : PS X (.Delete [.Subscript o i tpos] pos) (sDelN X.prog X.w td ty) := by
  refine ⟨fun pins s σ H D I h => ?_⟩
  refine wpAny_Delete (wpAny_deleteEach_cons (wpAny_delete_Subscript (thn (ho.run pins s σ H _ I h) fun u s1 hh => ?_)))
  obtain ⟨x, H1, I1, rx, q1⟩ := hh
  refine thn (hi.run pins s1 σ H1 _ I1 q1) fun iv s2 hh => ?_
  obtain ⟨y, H2, I2, ry, d, a, xs, k, rfl, rfl, Dc, hk, hd, l, q2⟩ := hh
  cases (show u = Value.ref d from rx)
  cases (show iv = Value.ref a from ry)
  obtain ⟨zs, m, p, hl, hs⟩ := Dc.keyed I2.hok
  obtain ⟨pp, hp⟩ := Option.isSome_iff_exists.mp ((some_rel k p).trans l)
  refine wpAny_delItem_heap (room_in hu) (key_is I2 hk hd) hs m hp (fun h' m' sb => wpAny_deleteEach_nil ⟨σ, _, ?_, q2⟩) (by rw [← Alike.len p]; exact hl)
  refine I2.write (x := d) (e := d) (o := dn X.prog X.w d (dropE xs k)) (by rw [Dc.1]; exact True.intro) (.inl rfl) (fun b o hb e => (sb.2 b hb).trans e) ?_ (dn_ok m' (Alike.drop p k) (Nat.le_trans (len_drop xs k) hl) hs)
  obtain ⟨o, _, _, g, _⟩ := m'
  exact ⟨o, g⟩
end
end DN
set_option Elab.async false
set_option linter.all false
set_option maxRecDepth 100000
set_option maxHeartbeats 4000000
namespace DN
open PySem PySem.Spec PyProof.Rows L2 CM
section
variable {X : Cx} {pins : List (Addr × Obj)} {σ : L2.St} {H : Hp} {s : Shared}
theorem at_none {xs : List Ent} {zs : List (NK × Addr × Value)} {k : NK} (p : Alike xs zs) (h : at_ xs k = none) : atKey zs k = none := by
  have z := at_rel k p
  rw [h] at z
  cases e : atKey zs k with
  | none => rfl
  | some q =>
    rw [e] at z
    exact z.elim
theorem at_some {xs : List Ent} {zs : List (NK × Addr × Value)} {k : NK} {v : V} (p : Alike xs zs) (h : at_ xs k = some v) : ∃ q, atKey zs k = some q ∧ RelV v q.2 := by
  have z := at_rel k p
  rw [h] at z
  cases e : atKey zs k with
  | none =>
    rw [e] at z
    exact z.elim
  | some q =>
    rw [e] at z
    exact ⟨q, rfl, z⟩
/-- {} -/
def tDNewN (P : Program) (w : World) : TE := fun _ H Q => ∀ p, H p = none → Q (.ref p) (upd H p (dn P w p []))
theorem pe_dnewN {pos : Pos} : PE X (.Dict [] [] pos) (tDNewN X.prog X.w) := ⟨fun pins s σ H Q I h => by
  refine wpAny_Dict_empty ?_
  have big := I.big
  have m : (s.heap.push { cls := .type "dict", data := .dict #[] }).DictOfH (nestedKind X.prog X.w) s.heap.objs.size [] := Heap.DictOfH.new s.heap
  have ok : ObjOk X.prog X.w (upd H s.heap.objs.size (dn X.prog X.w s.heap.objs.size [])) (s.heap.push { cls := .type "dict", data := .dict #[] }) s.heap.objs.size (dn X.prog X.w s.heap.objs.size []) :=
    dn_ok (xs := []) m .nil (Nat.zero_le _) (beq_eq_false_iff_ne.mpr (Nat.ne_of_gt I.big))
  exact ⟨.ref s.heap.objs.size, _, I.laid (a := s.heap.objs.size) (o := dn X.prog X.w s.heap.objs.size []) (t' := s.toks) (fun _ _ q => Heap.get?_push_of_some _ q) (Nat.le_refl _) ok, rfl, h _ (I.hok.fresh (Nat.le_refl _))⟩⟩
/-- d.get(k, x) -/
def rGetN (P : Program) (w : World) : V → List V → Hp → VK → Prop := fun o xs H Q => ∃ (d a : Addr) (es : List Ent) (k : NK) (x : V), o = .ref d ∧ xs = [.ref a, x] ∧ Dct P w H d es ∧ KeyV H k (.ref a) ∧ k.depth ≤ 8 ∧ Q ((at_ es k).getD x) H
theorem mt_getN {P : Program} {w : World} (hu : X.A.units + 40 < cLine) (hP : X.prog = P := by rfl) (hw : X.w = w := by rfl) : MtR X "dict.get" (rGetN P w) := by
  subst hP hw
  intro pins s σ H o xs v us Q I ro rx h
  obtain ⟨d, a, es, k, x, rfl, rfl, D, hk, hd, q⟩ := h
  cases (show v = Value.ref d from ro)
  obtain ⟨u1, u2, rfl, r1, r2⟩ := vals2 rx
  cases (show u1 = Value.ref a from r1)
  obtain ⟨zs, m, p, hl, hs⟩ := D.keyed I.hok
  refine getOr_keyed (room_in hu) (key_is I hk hd) hs ⟨zs, m, rfl⟩ ?_
  rw [valueAt_pairsH]
  cases e : at_ es k with
  | none =>
    rw [at_none p e]
    rw [e] at q
    exact ⟨x, H, I.tok _, r2, q⟩
  | some v =>
    obtain ⟨q', e2, rr⟩ := at_some p e
    rw [e2]
    rw [e] at q
    exact ⟨v, H, I.tok _, rr, q⟩
/-- len(d) -/
def rLenN (P : Program) (w : World) : List V → Hp → VK → Prop := fun xs H Q => ∃ (d : Addr) (es : List Ent), xs = [.ref d] ∧ Dct P w H d es ∧ Q (.int (es.length : Nat)) H
theorem cr_lenN {P : Program} {w : World} (hP : X.prog = P := by rfl) (hw : X.w = w := by rfl) : CallR X (.builtin "len") (rLenN P w) := by
  subst hP hw
  intro pins s σ H vs us Q I r h
  obtain ⟨d, es, rfl, D, q⟩ := h
  rw [Vals.ref1 r]
  obtain ⟨zs, m, p, hl, hs⟩ := D.keyed I.hok
  have e : es.length = zs.length := Alike.len p
  refine call_len_dictH hs m (by rw [← e]; rw [sizeLine_eq] at hl; omega) ?_
  exact ⟨.int (es.length : Nat), H, I.tok _, ⟨_, by rw [e]⟩, q⟩
/-- d.pop(k, x) -/
def rPopN (P : Program) (w : World) : V → List V → Hp → VK → Prop := fun o xs H Q => ∃ (d a : Addr) (es : List Ent) (k : NK) (x : V), o = .ref d ∧ xs = [.ref a, x] ∧ Dct P w H d es ∧ KeyV H k (.ref a) ∧ k.depth ≤ 8 ∧
  (at_ es k = none → Q x H) ∧ (∀ v, at_ es k = some v → Q v (upd H d (dn P w d (dropE es k))))
theorem mt_popN {P : Program} {w : World} (hu : X.A.units + 40 < cLine) (hP : X.prog = P := by rfl) (hw : X.w = w := by rfl) : MtR X "dict.pop" (rPopN P w) := by
  subst hP hw
  intro pins s σ H o xs v us Q I ro rx h
  obtain ⟨d, a, es, k, x, rfl, rfl, D, hk, hd, q1, q2⟩ := h
  cases (show v = Value.ref d from ro)
  obtain ⟨u1, u2, rfl, r1, r2⟩ := vals2 rx
  cases (show u1 = Value.ref a from r1)
  obtain ⟨zs, m, p, hl, hs⟩ := D.keyed I.hok
  cases e : at_ es k with
  | none => exact call_pop_default_heap (room_in hu) (key_is I hk hd) hs m (at_none p e) (fun tk => ⟨x, H, I.tok _, r2, q1 e⟩) (by rw [← Alike.len p]; exact hl)
  | some v =>
    obtain ⟨q', e2, rr⟩ := at_some p e
    refine call_pop_heap (.inr ⟨u2, rfl⟩) (F.args_dict_pop_3 _ _ _) (room_in hu) (key_is I hk hd) hs m e2 (fun h' m' sb => ?_) (by rw [← Alike.len p]; exact hl)
    refine ⟨v, _, I.write (x := d) (e := d) (o := dn X.prog X.w d (dropE es k)) (by rw [D.1]; exact True.intro) (.inl rfl) (fun b o hb e => (sb.2 b hb).trans e) ?_ (dn_ok m' (Alike.drop p k) (Nat.le_trans (len_drop es k) hl) hs), rr, q2 v e⟩
    obtain ⟨o, _, _, g, _⟩ := m'
    exact ⟨o, g⟩
end
end DN
set_option Elab.async false
set_option linter.all false
set_option maxRecDepth 100000
set_option maxHeartbeats 4000000
namespace DN
open PySem PySem.Spec PyProof.Rows L2 CM RZ
/-! ### values by their data: == and != -/
mutual
theorem shw_plain {H : Hp} : ∀ {v : V} {d : PyData}, Shw H v d → d.plain = true
  | _, _, .non => by simp only [PyData.plain]
  | _, _, .bl _ => by simp only [PyData.plain]
  | _, _, .int _ => by simp only [PyData.plain]
  | _, _, .str _ => by simp only [PyData.plain]
  | _, _, .lst _ h => by
    simp only [PyData.plain]
    exact shws_plain h
  | _, _, .tup _ h => by
    simp only [PyData.plain]
    exact shws_plain h
theorem shws_plain {H : Hp} : ∀ {vs : List V} {ds : List PyData}, ShwAll H vs ds → PyData.plainAll ds = true
  | _, _, .nil => by simp only [PyData.plainAll]
  | _, _, .cons h t => by simp only [PyData.plainAll, shw_plain h, shws_plain t, Bool.and_self]
end
mutual
theorem Shw_same {H H' : Hp} (s : Same H H') : ∀ {v : V} {d : PyData}, Shw H v d → Shw H' v d
  | _, _, .non => .non
  | _, _, .bl b => .bl b
  | _, _, .int i => .int i
  | _, _, .str z => .str z
  | _, _, .lst e h => .lst (s _ _ e) (Shws_same s h)
  | _, _, .tup e h => .tup (s _ _ e) (Shws_same s h)
theorem Shws_same {H H' : Hp} (s : Same H H') : ∀ {vs : List V} {ds : List PyData}, ShwAll H vs ds → ShwAll H' vs ds
  | _, _, .nil => .nil
  | _, _, .cons h t => .cons (Shw_same s h) (Shws_same s t)
end
section
variable {X : Cx} {pins : List (Addr × Obj)} {σ : L2.St} {H : Hp} {s : Shared}
def rEqD (ne : Bool) : R2 := fun x y H Q => ∃ dx dy, Shw H x dx ∧ Shw H y dy ∧ dx.depth ≤ 40 ∧ Q (.bl (if ne then !(PyData.eqv dx dy) else PyData.eqv dx dy)) H
theorem op_eqD (hu : X.A.units + 64 < cLine) : OpR X (compareOp .Eq) (rEqD false) := by
  intro pns s σ H x y v u Q I rx ry h
  obtain ⟨dx, dy, sx, sy, hd, q⟩ := h
  obtain ⟨as, ra⟩ := sx.reads I.hok rx
  obtain ⟨bs, rb⟩ := sy.reads I.hok ry
  exact SeqAt.eq_plain ra rb (shw_plain sx) (shw_plain sy) (by omega) ⟨.bl _, H, I, rfl, q⟩
theorem op_neD (hu : X.A.units + 64 < cLine) : OpR X (compareOp .NotEq) (rEqD true) := by
  intro pns s σ H x y v u Q I rx ry h
  obtain ⟨dx, dy, sx, sy, hd, q⟩ := h
  obtain ⟨as, ra⟩ := sx.reads I.hok rx
  obtain ⟨bs, rb⟩ := sy.reads I.hok ry
  exact SeqAt.ne_plain ra rb (shw_plain sx) (shw_plain sy) (by omega) ⟨.bl _, H, I, rfl, q⟩
end
/-! ### list(d), bool(d) -/
section
variable {X : Cx} {pins : List (Addr × Obj)} {σ : L2.St} {H : Hp} {s : Shared}
def keyRefs (es : List Ent) : List V := es.map fun x => V.ref x.2.1
theorem keys_raw {P : Program} {w : World} {h : Heap} {d : Addr} {zs : List (NK × Addr × Value)} (m : h.DictOfH (nestedKind P w) d zs) : ∃ es ep, h.DictRaw d es ep ∧ es.size = zs.length ∧ ∀ i (hi : i < es.size), ∃ z, zs[i]? = some z ∧ es[i].key = .ref z.2.1 := by
  obtain ⟨es, ep, r, hs, hk⟩ := m.raw
  exact ⟨es, ep, r, hs, fun i hi => by
    obtain ⟨y, h1, h2, _⟩ := hk i hi
    exact ⟨y, h1, h2⟩⟩
theorem keyRefs_vals {zs : List (NK × Addr × Value)} : ∀ {es : List Ent} {its : List Value}, Alike es zs → its.length = zs.length → (∀ (i : Nat) (v : Value), its[i]? = some v → ∃ z, zs[i]? = some z ∧ v = .ref z.2.1) → Vals (keyRefs es) its := by
  intro es its p
  unfold keyRefs
  induction p generalizing its with
  | nil =>
    intro hl _
    cases its with
    | nil => exact .nil
    | cons => cases hl
  | @cons x z xs zs h t ih =>
    intro hl hv
    cases its with
    | nil => cases hl
    | cons u us =>
      refine .cons ?_ (ih (Nat.succ.inj hl) fun i v e => hv (i + 1) v e)
      obtain ⟨z', e, e2⟩ := hv 0 u rfl
      cases e
      subst e2
      show Value.ref _ = Value.ref _
      rw [h.2.1]
def rListN (P : Program) (w : World) : List V → Hp → VK → Prop := fun xs H Q => ∃ (d : Addr) (es : List Ent), xs = [.ref d] ∧ Dct P w H d es ∧ ∀ p, H p = none → Q (.ref p) (upd H p (.lst (keyRefs es)))
theorem cr_listN {P : Program} {w : World} (hc : X.calm = true) (hP : X.prog = P := by rfl) (hw : X.w = w := by rfl) : CallR X (.type "list") (rListN P w) := by
  subst hP hw
  intro pins s σ H vs us Q I r h
  obtain ⟨d, es, rfl, D, q⟩ := h
  rw [Vals.ref1 r]
  obtain ⟨zs, m, p, hl, hs⟩ := D.keyed I.hok
  obtain ⟨ees, ep, hr, hsz, hk⟩ := keys_raw m
  have hlen : es.length = zs.length := Alike.len p
  refine PySem.W.kdl_call (KdlSrc.rawDict hs) ?_ hr (by omega) (fun h' tk acc' c' hk' hD hacc => ?_)
  · exact I.ok.hd hc
  · have v1 : Vals (keyRefs es) acc'.toList := keyRefs_vals p (by rw [Array.length_toList, hacc.1, hsz]) fun i v e => by
      obtain ⟨hi, e2⟩ := hacc.2 i v (by rw [← Array.getElem?_toList]; exact e)
      obtain ⟨z, h1, h2⟩ := hk i hi
      exact ⟨z, h1, by rw [e2, h2]⟩
    have ok : ObjOk X.prog X.w (upd H s.heap.objs.size (.lst (keyRefs es))) h' s.heap.objs.size (.lst (keyRefs es)) := ⟨by unfold keyRefs; rw [List.length_map]; exact hl, acc'.toList, c', v1, by rw [Array.toArray_toList]; exact hD⟩
    exact ⟨.ref s.heap.objs.size, _, I.laid (t' := tk) hk' (Nat.le_refl _) ok, rfl, q _ (I.hok.fresh (Nat.le_refl _))⟩
theorem truthyN {prog : Program} {w : World} {A : Around} {E : Value → Shared → Prop} {d : Addr} {zs : List (NK × Addr × Value)} {Q : Bool → Shared → Prop} (hd : (d == sysModules) = false) (hm : s.heap.DictOfH (nestedKind prog w) d zs) (hfit : (zs.length : Int) < 2 ^ 63)
    (h : Q (!zs.isEmpty) { s with toks := s.toks + 1 + 1 }) : wpAny (model prog w) A (truthy (.ref d)) Q E s := by
  have hne : ((zs.length : Int) != 0) = !zs.isEmpty := by cases zs <;> simp <;> omega
  have key : wpAny (model prog w) A (runValue (.builtin "len" ⟨[.ref d], []⟩)) (fun r s' => r = .int zs.length (s.toks + 1) ∧ Q (!zs.isEmpty) s') E s := by
    refine wpAny_runValue (codeAny_builtin entry_len ?_)
    rw [Around.under_plainId plain_len _]
    exact wpAny_mono (wpAny_len_body_dictH (Q := fun r s' => r = .int zs.length (s.toks + 1) ∧ Q (!zs.isEmpty) s') hd hm hfit ⟨rfl, h⟩)
      (fun fin s' h' => by obtain ⟨r, rfl, hq⟩ := h'; exact hq) fun _ _ e => e
  unfold truthy
  first
    | refine wpAny_bind (wpAny_callSpecial?_none (name := Str.ofString "__bool__") hm.typeIs noBool_dict ?_)
    | refine wpAny_bind (wpAny_pure (wpAny_bind (wpAny_callSpecial?_none (name := Str.ofString "__bool__") hm.typeIs noBool_dict ?_)))
  first
    | refine wpAny_bind (wpAny_specialOf (name := Str.ofString "__len__") hm.typeIs F.slot_dict_len.lookup ?_)
    | refine wpAny_bind (wpAny_pure (wpAny_bind (wpAny_specialOf (name := Str.ofString "__len__") hm.typeIs F.slot_dict_len.lookup ?_)))
  first
    | exact wpAny_bind (wpAny_mono key (fun r s' h' => by obtain ⟨rfl, hq⟩ := h'; exact wpAny_pure (hne ▸ hq)) fun _ _ e => e)
    | exact wpAny_bind (wpAny_pure (wpAny_bind (wpAny_mono key (fun r s' h' => by obtain ⟨rfl, hq⟩ := h'; exact wpAny_pure (hne ▸ hq)) fun _ _ e => e)))
/-- bool(v) by the truth of v -/
theorem meets_bool_in {prog : Program} {w : World} (v : Value) : MeetsIn prog w (Builtin.«bool.__new__» ⟨[.type "bool", v], []⟩) (fun A R s => wpAny (model prog w) A.in1 (truthy v) (fun b s' => R (.ok (.ret (.bool b))) s') (fun e s' => R (.error e) s') s) :=
  .of_wp fun A R s hs => by
    obtain ⟨hp, g, d, tk, os⟩ := s
    have f1 := F.conv_sub_bool
    have f2 : wpAny (model prog w) A.in1 (truthy v) (fun b s' => wpAny (model prog w) A.in1 (ret (.bool b)) (fun fin s' => ∃ v, fin = .done (.ret v) ∧ R (.ok (.ret v)) s') (fun e s' => R (.error e) s') s') (fun e s' => R (.error e) s') ⟨hp, g, d, tk, os⟩ :=
      wpAny_mono hs (fun b s' z => wpAny_pure ⟨_, rfl, z⟩) fun _ _ z => z
    unfold Builtin.«bool.__new__»
    repeat (any_goals (first | exact f2 | exact wpAny_bind f2 | assumption | wp_step))
theorem call_bool_of {prog : Program} {w : World} {A : Around} {E : Value → Shared → Prop} {v : Value} {Q : Value → Shared → Prop} (h : wpAny (model prog w) A.in1.in1 (truthy v) (fun b s' => Q (.bool b) s') E s) : wpAny (model prog w) A (call (.type "bool") [v]) Q E s := by
  refine callType_newIn F.called_bool F.newNe_bool (F.typeCall_bool_1 v) (F.newCall_bool_1 v) (fun obj => F.args_object_init_2 obj v) F.entry_bool_new (meets_bool_in v) ?_
  refine wpAny_mono h (fun b s' z => ?_) fun _ _ z => z
  exact ⟨rfl, z⟩
def rBoolN (P : Program) (w : World) : List V → Hp → VK → Prop := fun xs H Q => ∃ (d : Addr) (es : List Ent), xs = [.ref d] ∧ Dct P w H d es ∧ Q (.bl (!es.isEmpty)) H
theorem cr_boolN {P : Program} {w : World} (hP : X.prog = P := by rfl) (hw : X.w = w := by rfl) : CallR X (.type "bool") (rBoolN P w) := by
  subst hP hw
  intro pins s σ H vs us Q I r h
  obtain ⟨d, es, rfl, D, q⟩ := h
  rw [Vals.ref1 r]
  obtain ⟨zs, m, p, hl, hs⟩ := D.keyed I.hok
  have e : es.length = zs.length := Alike.len p
  refine call_bool_of (truthyN hs m (by rw [← e]; rw [sizeLine_eq] at hl; omega) ?_)
  refine ⟨.bl (!es.isEmpty), H, I.tok _, ?_, q⟩
  show Value.bool _ = Value.bool _
  congr 1
  cases es <;> cases zs <;> first | rfl | cases e
/-- d.m(..) -/
def tBMN (P : Program) (w : World) (r : V → List V → Hp → VK → Prop) (to : TE) (t : TA) : TE := fun σ H Q => to σ H fun x H1 => (∃ (d : Addr) (es : List Ent), x = .ref d ∧ Dct P w H1 d es) ∧ t σ H1 fun xs H2 => r x xs H2 Q
theorem pe_bmN {P : Program} {w : World} {o e : Expr} {es : List Expr} {to : TE} {t : TA} {name : Str} {apos cpos : Pos} {id : String} {r : V → List V → Hp → VK → Prop} (pa : PlainAttrs "dict") (slot : Slot "dict" name id) (hty : typeOf (.builtin id) = pure (.type "method_descriptor")) (hm : MtR X id r) (ho : PE X o to) (ha : PA X (e :: es) t)
    (hP : X.prog = P := by rfl) (hw : X.w = w := by rfl)
    (hbase : attributeBase o name X.env (eval o X.env) = eval o X.env := by rfl)
    (hfew : ((backTo cpos (starEach (e :: es) X.env)).all (fun x => !x.1) && (backToKw cpos (keywordEach [] X.env)).all (fun x => x.1.isSome)
      && decide ((e :: es).length + ([] : List Keyword).length + (if ([] : List Keyword).isEmpty then 0 else 1) < 30)) = true := by rfl)
    (hline : (apos.endLine == cpos.line) = true := by rfl) (hs : starEach (e :: es) X.env = (false, eval e X.env) :: starEach es X.env := by rfl) (hplain : (backTo cpos (starEach es X.env)).any (·.1) = false := by rfl) :
    PE X (.Call (.Attribute o name apos) (e :: es) [] cpos) (tBMN P w r to t) := by
  subst hP hw
  refine ⟨fun pins s σ H Q I h => ?_⟩
  refine wpAny_Call_method_late hbase hfew hline rfl (thn (ho.run pins s σ H _ I h) fun v s1 ⟨x, H1, I1, r1, ⟨d, ent, ex, D⟩, q1⟩ => ?_)
  subst ex
  obtain rfl : v = Value.ref d := r1
  obtain ⟨zs, m, p, hl, hsy⟩ := D.keyed I1.hok
  obtain ⟨oo, _, _, g, xx, _⟩ := m
  refine ⟨"dict", id, pa, slot, hty, ⟨oo, g, xx.1⟩, fun a e2 => ?_, ?_⟩
  · cases e2
    exact ⟨oo, g, xx.2.1⟩
  have hA := ha.run cpos pins s1 σ H1 _ I1 q1
  rw [hs] at hA ⊢
  refine Calls.callWith_builtin (by show (false || (backTo cpos (starEach es X.env)).any (·.1)) = false; rw [hplain] <;> rfl) (Calls.evalArgs_plain ?_)
  exact thn hA fun us s2 ⟨vs, H2, I2, r2, q2⟩ => hm pins s2 σ H2 (.ref d) vs (.ref d) us Q I2 rfl r2 q2
end
end DN
set_option Elab.async false
set_option linter.all false
set_option maxRecDepth 100000
set_option maxHeartbeats 4000000
namespace DN
open PySem PySem.Spec PyProof.Rows L2 CM RZ
/-! ### == and != of two dicts -/
section
variable {prog : Program} {w : World} {K : Type} [DecidableEq K] {knd : HeapKind prog w K} {A : Around} {E : Value → Shared → Prop} {s : Shared}
def hitN (ev : Value → Value → Bool) (kb : List (K × Addr × Value)) (z : K × Addr × Value) : Bool := match atKey kb z.1 with
  | none => false
  | some p => ev z.2.2 p.2
theorem same_pairsN {nm : String} {a b : Addr} {ka kb : List (K × Addr × Value)} {ev : Value → Value → Bool} {Q : Bool → Shared → Prop} (hr : knd.room A) (ha : (a == sysModules) = false) (hb : (b == sysModules) = false)
    (da : s.heap.DictOfH knd a ka) (db : s.heap.DictOfH knd b kb) (hits : ∀ z ∈ ka, ∀ p, atKey kb z.1 = some p → SeqAt.EqAt A s z.2.2 p.2 (ev z.2.2 p.2)) (h : Q (ka.length == kb.length && ka.all (hitN ev kb)) s) :
    wpAny (model prog w) A (Builtin.Dict.samePairs nm a b) Q E s := by
  have da' := da
  have db' := db
  obtain ⟨oa, es, ep, hoa, _, hda, hea, hka, hna⟩ := da
  obtain ⟨ob, es', ep', hob, _, hdb, heb, hkb, hnb⟩ := db
  have hla : es.size = ka.length := size_of_entries hea
  have hlb : es'.size = kb.length := size_of_entries heb
  unfold Builtin.Dict.samePairs Builtin.Dict.showsAll
  rw [if_neg (show ¬ (a == sysModules) = true by rw [ha]; exact Bool.false_ne_true), if_neg (show ¬ (b == sysModules) = true by rw [hb]; exact Bool.false_ne_true)]
  refine wpAny_bind (wpAny_pure (wpAny_bind (wpAny_pure ?_)))
  refine wpAny_bind (wpAny_dictEntries hoa hda ?_)
  dsimp only
  refine wpAny_bind (wpAny_dictEntries hob hdb ?_)
  by_cases hsz : es.size = es'.size
  case neg =>
    rw [if_pos (by simpa using hsz)]
    have hbf : (ka.length == kb.length) = false := by rw [← hla, ← hlb]; simpa using hsz
    rw [hbf, Bool.false_and] at h
    exact wpAny_bind (wpAny_rule (wpAny_pure h))
  case pos =>
    have hbt : (ka.length == kb.length) = true := by rw [← hla, ← hlb]; simpa using hsz
    rw [hbt, Bool.true_and] at h
    rw [if_neg (by rw [hsz]; simp)]
    refine wpAny_bind (wpAny_dictEpoch hoa hda ?_)
    refine wpAny_bind ?_
    rw [Std.Legacy.Range.forIn_eq_forIn_range']
    simp only [Std.Legacy.Range.size, Nat.sub_zero, Nat.add_sub_cancel, Nat.div_one]
    refine wpAny_forIn_list _
      (fun rest q s' => s' = s ∧ q = (none, ()) ∧ ∃ i, rest = List.range' i (es.size - i) ∧ i ≤ es.size ∧ ka.all (hitN ev kb) = (ka.drop i).all (hitN ev kb))
      _ ?_ ?_ _ _ ⟨rfl, rfl, 0, by simp, Nat.zero_le _, rfl⟩
    · rintro x rest q s' ⟨rfl, rfl, i, hr', hi, hpre⟩
      have hlt : i < es.size := by
        rcases Nat.lt_or_ge i es.size with h | h
        · exact h
        · rw [Nat.sub_eq_zero_of_le h] at hr'; simp at hr'
      obtain ⟨rfl, hrest⟩ : x = i ∧ rest = List.range' (i + 1) (es.size - (i + 1)) := by
        have e : es.size - i = (es.size - (i + 1)) + 1 := by omega
        rw [e, List.range'_succ] at hr'
        injection hr' with h1 h2
        exact ⟨h1, h2⟩
      refine wpAny_bind (wpAny_dictEntries hoa hda ?_)
      have hlt' : x < ka.length := by rw [← hla]; exact hlt
      have hx : es[x]? = some (entryOfKey knd ka[x]) := by rw [entry_at hea, List.getElem?_eq_getElem hlt']; rfl
      rw [hx]
      have hdrop : ka.drop x = ka[x] :: ka.drop (x + 1) := List.drop_eq_getElem_cons hlt'
      have hmem : ka[x] ∈ ka := List.getElem_mem hlt'
      show wpAny _ _ (holding [.ref ka[x].2.1, ka[x].2.2] _ >>= _) _ _ _
      refine wpAny_bind (wpAny_holding (wpAny_bind (wpAny_dictFind_heap hr (hka _ hmem) hob hdb heb hkb hnb (fun hn => ?_) fun j p hj => ?_)))
      · have hat : atKey kb ka[x].1 = none := by
          cases e : atKey kb ka[x].1 with
          | none => rfl
          | some p =>
            unfold atKey at e
            cases e2 : kb.find? (fun z => decide (z.1 = ka[x].1)) with
            | none => rw [e2] at e; cases e
            | some z =>
              have hz := List.find?_some e2
              obtain ⟨j, hj, ej⟩ := List.mem_iff_getElem.mp (List.mem_of_find?_eq_some e2)
              exact absurd (show kb[j]? = some (ka[x].1, z.2) by rw [List.getElem?_eq_getElem hj, ej]; rw [← of_decide_eq_true hz]) (hn j z.2)
        have hf : ka.all (hitN ev kb) = false := by
          rw [hpre, hdrop, List.all_cons]
          have : hitN ev kb ka[x] = false := by unfold hitN; rw [hat]
          rw [this, Bool.false_and]
        rw [hf] at h
        refine wpAny_pure ?_
        show wpAny _ _ (if (!false) = true then _ else _) _ _ _
        rw [if_pos (by decide)]
        exact wpAny_pure (wpAny_pure h)
      · have hat : atKey kb ka[x].1 = some p := atKey_of_get hnb hj
        have hjl : es'[j]? = some (entryOfKey knd (ka[x].1, p)) := by rw [entry_at heb, hj]; rfl
        refine wpAny_bind (wpAny_dictEntries hob hdb ?_)
        rw [hjl]
        have he := hits _ hmem p hat
        have hh : hitN ev kb ka[x] = ev ka[x].2.2 p.2 := by unfold hitN; rw [hat]
        refine wpAny_holding (he prog w _ _ ?_)
        cases ee : ev ka[x].2.2 p.2 with
        | false =>
          have hf : ka.all (hitN ev kb) = false := by rw [hpre, hdrop, List.all_cons, hh, ee, Bool.false_and]
          rw [hf] at h
          show wpAny _ _ (if (!false) = true then _ else _) _ _ _
          rw [if_pos (by decide)]
          exact wpAny_pure (wpAny_pure h)
        | true =>
          have hf : ka.all (hitN ev kb) = (ka.drop (x + 1)).all (hitN ev kb) := by rw [hpre, hdrop, List.all_cons, hh, ee, Bool.true_and]
          show wpAny _ _ (if (!true) = true then _ else _) _ _ _
          rw [if_neg (by decide)]
          refine wpAny_bind (wpAny_dictEpoch hoa hda ?_)
          rw [if_neg (by simp)]
          exact wpAny_pure ⟨rfl, rfl, x + 1, hrest, hlt, hf⟩
    · rintro q s' ⟨rfl, rfl, i, hr', hi, hpre⟩
      have hin : i = es.size := by
        rcases Nat.lt_or_ge i es.size with h | h
        · have e : es.size - i = (es.size - (i + 1)) + 1 := by omega
          rw [e, List.range'_succ] at hr'; exact nomatch hr'
        · exact Nat.le_antisymm hi h
      refine wpAny_pure ?_
      rw [hin, hla, List.drop_length, List.all_nil] at hpre
      rw [hpre] at h
      exact h
theorem eq_dictN {a b : Addr} {ka kb : List (K × Addr × Value)} {ev : Value → Value → Bool} {Q : Value → Shared → Prop} (hr : knd.room A.in1) (ha : (a == sysModules) = false) (hb : (b == sysModules) = false)
    (da : s.heap.DictOfH knd a ka) (db : s.heap.DictOfH knd b kb) (hu : A.units < cLine) (hits : ∀ z ∈ ka, ∀ p, atKey kb z.1 = some p → SeqAt.EqAt A.in1 s z.2.2 p.2 (ev z.2.2 p.2)) (h : Q (.bool (ka.length == kb.length && ka.all (hitN ev kb))) s) :
    wpAny (model prog w) A (compareOp .Eq (.ref a) (.ref b)) Q E s := by
  refine wpAny_richCompare_same_room (op := .Eq) da.typeIs db.typeIs PySem.F.slot_dict_eq (wpAny_call_entry PySem.F.slot_dict_eq da.typeIs PySem.F.entry_dict_eq ?_ (PySem.F.args_dict_eq_2 _ _)) hu
  show wpAny _ _ (Builtin.Dict.dictSlotArgs "__eq__" ⟨[.ref a, .ref b], []⟩ >>= _) _ _ s
  refine wpAny_bind ?_
  unfold Builtin.Dict.dictSlotArgs
  refine wpAny_bind (wpAny_notOrdered_dict da.typeIs ?_)
  show wpAny _ _ (pure (Value.ref a, Value.ref b)) _ _ s
  refine wpAny_pure ?_
  refine wpAny_bind (wpAny_isInstance (T := "dict") db.typeIs PySem.F.sub_dict_dict ?_)
  simp only [Bool.not_true, Bool.false_eq_true, if_false]
  refine wpAny_bind (wpAny_pure (wpAny_bind (wpAny_pure ?_)))
  refine wpAny_bind (same_pairsN hr ha hb da db hits ?_)
  refine wpAny_pure ⟨_, rfl, ?_, ?_⟩
  · exact fun x => nomatch x
  · generalize (ka.length == kb.length && ka.all (hitN ev kb)) = r at h
    cases r <;> exact h
theorem ne_dictN {a b : Addr} {ka kb : List (K × Addr × Value)} {ev : Value → Value → Bool} {Q : Value → Shared → Prop} (hr : knd.room A.in1) (ha : (a == sysModules) = false) (hb : (b == sysModules) = false)
    (da : s.heap.DictOfH knd a ka) (db : s.heap.DictOfH knd b kb) (hu : A.units < cLine) (hits : ∀ z ∈ ka, ∀ p, atKey kb z.1 = some p → SeqAt.EqAt A.in1 s z.2.2 p.2 (ev z.2.2 p.2)) (h : Q (.bool (!(ka.length == kb.length && ka.all (hitN ev kb)))) s) :
    wpAny (model prog w) A (compareOp .NotEq (.ref a) (.ref b)) Q E s := by
  refine wpAny_richCompare_same_room (op := .NotEq) da.typeIs db.typeIs PySem.F.slot_dict_ne (wpAny_call_entry PySem.F.slot_dict_ne da.typeIs PySem.F.entry_dict_ne ?_ (PySem.F.args_dict_ne_2 _ _)) hu
  show wpAny _ _ (Builtin.Dict.dictSlotArgs "__ne__" ⟨[.ref a, .ref b], []⟩ >>= _) _ _ s
  refine wpAny_bind ?_
  unfold Builtin.Dict.dictSlotArgs
  refine wpAny_bind (wpAny_notOrdered_dict da.typeIs ?_)
  show wpAny _ _ (pure (Value.ref a, Value.ref b)) _ _ s
  refine wpAny_pure ?_
  refine wpAny_bind (wpAny_isInstance (T := "dict") db.typeIs PySem.F.sub_dict_dict ?_)
  simp only [Bool.not_true, Bool.false_eq_true, if_false]
  refine wpAny_bind (wpAny_pure (wpAny_bind (wpAny_pure ?_)))
  refine wpAny_bind (same_pairsN hr ha hb da db hits ?_)
  refine wpAny_pure ⟨_, rfl, ?_, ?_⟩
  · exact fun x => nomatch x
  · generalize (ka.length == kb.length && ka.all (hitN ev kb)) = r at h
    cases r <;> exact h
end
/-! ### the same by values: flags, ints, texts, None -/
def fl4 : V → Bool
  | .bl _ | .int _ | .str _ | .non => true
  | _ => false
def flD : V → PyData
  | .bl b => .bool b
  | .int i => .int i
  | .str z => .str z
  | _ => .none
def vlD : Value → PyData
  | .bool b => .bool b
  | .int i _ => .int i
  | .str z _ => .str z
  | _ => .none
theorem fl_rel {v : V} {u : Value} {h : Heap} (f : fl4 v = true) (r : RelV v u) : vlD u = flD v ∧ Reads h u (flD v) [] ∧ (flD v).plain = true ∧ (flD v).depth ≤ 1 := by
  cases v with
  | bl b =>
    obtain rfl : u = .bool b := r
    exact ⟨rfl, .bool b, by simp only [flD, PyData.plain], by simp [flD, PyData.depth]⟩
  | int i =>
    obtain ⟨t, rfl⟩ := (show ∃ t, u = Value.int i t from r)
    exact ⟨rfl, .int i t, by simp only [flD, PyData.plain], by simp [flD, PyData.depth]⟩
  | str z =>
    obtain ⟨t, rfl⟩ := (show ∃ t, u = Value.str z t from r)
    exact ⟨rfl, .str z t, by simp only [flD, PyData.plain], by simp [flD, PyData.depth]⟩
  | non =>
    obtain rfl : u = .none := r
    exact ⟨rfl, .none, by simp only [flD, PyData.plain], by simp [flD, PyData.depth]⟩
  | _ => cases f
theorem fl_val {v : V} {u : Value} (f : fl4 v = true) (r : RelV v u) : vlD u = flD v := by
  cases v with
  | bl b =>
    obtain rfl : u = .bool b := r
    rfl
  | int i =>
    obtain ⟨t, rfl⟩ := (show ∃ t, u = Value.int i t from r)
    rfl
  | str z =>
    obtain ⟨t, rfl⟩ := (show ∃ t, u = Value.str z t from r)
    rfl
  | non =>
    obtain rfl : u = .none := r
    rfl
  | _ => cases f
def hitE (ys : List Ent) (x : Ent) : Bool := match at_ ys x.1 with
  | none => false
  | some v => PyData.eqv (flD x.2.2) (flD v)
def eqE (xs ys : List Ent) : Bool := xs.length == ys.length && xs.all (hitE ys)
def FlE (xs ys : List Ent) : Prop := ∀ x ∈ xs, ∀ v, at_ ys x.1 = some v → fl4 x.2.2 = true ∧ fl4 v = true
abbrev evV : Value → Value → Bool := fun u v => PyData.eqv (vlD u) (vlD v)
theorem alike_mem {xs : List Ent} {zs : List (NK × Addr × Value)} (p : Alike xs zs) : ∀ z ∈ zs, ∃ x ∈ xs, x.1 = z.1 ∧ RelV x.2.2 z.2.2 := by
  induction p with
  | nil =>
    intro z hz
    cases hz
  | @cons x z xs zs h t ih =>
    intro y hy
    rcases List.mem_cons.mp hy with rfl | hy
    · exact ⟨x, List.mem_cons_self .., h.1, h.2.2⟩
    · obtain ⟨x', m, r⟩ := ih y hy
      exact ⟨x', List.mem_cons_of_mem _ m, r⟩
theorem all_hits {xs ys : List Ent} {zs zt : List (NK × Addr × Value)} (p : Alike xs zs) (q : Alike ys zt) (f : FlE xs ys) : zs.all (hitN evV zt) = xs.all (hitE ys) := by
  induction p with
  | nil => rfl
  | @cons x z xs zs h t ih =>
    have f2 : FlE xs ys := fun x hx => f x (List.mem_cons_of_mem _ hx)
    rw [List.all_cons, List.all_cons, ih f2]
    congr 1
    unfold hitN hitE
    rw [← h.1]
    cases e : at_ ys x.1 with
    | none => rw [at_none q e]
    | some v =>
      obtain ⟨qq, e2, rr⟩ := at_some q e
      obtain ⟨f3, f4⟩ := f x (List.mem_cons_self ..) v e
      rw [e2]
      show PyData.eqv (vlD z.2.2) (vlD qq.2) = _
      rw [fl_val f3 h.2.2, fl_val f4 rr]
section
variable {X : Cx} {pins : List (Addr × Obj)} {σ : L2.St} {H : Hp} {s : Shared}
theorem hits_of {A : Around} {h : Heap} {xs ys : List Ent} {zs zt : List (NK × Addr × Value)} (p : Alike xs zs) (q : Alike ys zt) (f : FlE xs ys) (hu : A.units + 4 < cLine) : ∀ z ∈ zs, ∀ pp, atKey zt z.1 = some pp → SeqAt.EqAt A s z.2.2 pp.2 (evV z.2.2 pp.2) := by
  intro z hz pp hp
  obtain ⟨x, hx, e1, rx⟩ := alike_mem p z hz
  cases e : at_ ys x.1 with
  | none =>
    rw [← e1, at_none q e] at hp
    cases hp
  | some v =>
    obtain ⟨qq, e2, rr⟩ := at_some q e
    rw [← e1, e2] at hp
    cases hp
    obtain ⟨f3, f4⟩ := f x hx v e
    obtain ⟨a1, a2, a3, a4⟩ := fl_rel (h := s.heap) f3 rx
    obtain ⟨b1, b2, b3, b4⟩ := fl_rel (h := s.heap) f4 rr
    show SeqAt.EqAt A s z.2.2 pp.2 (PyData.eqv (vlD z.2.2) (vlD pp.2))
    rw [a1, b1]
    exact SeqAt.eqAt_plain _ _ A s _ _ _ _ a2 b2 a3 b3 (by omega)
def rEqN (P : Program) (w : World) (ne : Bool) : R2 := fun x y H Q => ∃ (a b : Addr) (xs ys : List Ent), x = .ref a ∧ y = .ref b ∧ Dct P w H a xs ∧ Dct P w H b ys ∧ FlE xs ys ∧ Q (.bl (if ne then !(eqE xs ys) else eqE xs ys)) H
theorem op_eqN {P : Program} {w : World} (hu : X.A.units + 64 < cLine) (hP : X.prog = P := by rfl) (hw : X.w = w := by rfl) : OpR X (compareOp .Eq) (rEqN P w false) := by
  subst hP hw
  intro pns s σ H x y v u Q I rx ry h
  obtain ⟨a, b, xs, ys, rfl, rfl, Da, Db, f, q⟩ := h
  cases (show v = Value.ref a from rx)
  cases (show u = Value.ref b from ry)
  obtain ⟨za, ma, pa, hla, hsa⟩ := Da.keyed I.hok
  obtain ⟨zb, mb, pb, hlb, hsb⟩ := Db.keyed I.hok
  refine eq_dictN (ev := evV) (room_in (by omega)) hsa hsb ma mb (by omega) (hits_of (h := s.heap) pa pb f (by show X.A.units + 1 + 4 < cLine; omega)) ⟨.bl _, H, I, rfl, ?_⟩
  rw [all_hits pa pb f, ← Alike.len pa, ← Alike.len pb]
  exact q
theorem op_neN {P : Program} {w : World} (hu : X.A.units + 64 < cLine) (hP : X.prog = P := by rfl) (hw : X.w = w := by rfl) : OpR X (compareOp .NotEq) (rEqN P w true) := by
  subst hP hw
  intro pns s σ H x y v u Q I rx ry h
  obtain ⟨a, b, xs, ys, rfl, rfl, Da, Db, f, q⟩ := h
  cases (show v = Value.ref a from rx)
  cases (show u = Value.ref b from ry)
  obtain ⟨za, ma, pa, hla, hsa⟩ := Da.keyed I.hok
  obtain ⟨zb, mb, pb, hlb, hsb⟩ := Db.keyed I.hok
  refine ne_dictN (ev := evV) (room_in (by omega)) hsa hsb ma mb (by omega) (hits_of (h := s.heap) pa pb f (by show X.A.units + 1 + 4 < cLine; omega)) ⟨.bl _, H, I, rfl, ?_⟩
  rw [all_hits pa pb f, ← Alike.len pa, ← Alike.len pb]
  exact q
end
end DN
set_option Elab.async false
set_option linter.all false
set_option maxRecDepth 100000
set_option maxHeartbeats 4000000
namespace OP
open PySem PySem.Spec PyProof.Rows L2 CM
/-! ### what a class says of an operator: its def nm at g -/
structure Own (K : PySem.W.Frag) (C : Addr) (nm : Str) (g : Addr) : Prop where
  at_ : PySem.W.findIn K (.ref C) nm = some (some (.ref g))
  fn : PySem.W.isFn K (.ref g) = true
  fi : PySem.W.fnIn K g = true
section
variable {X : Cx} {CX : CXT} {pins : List (Addr × Obj)} {σ : L2.St} {H : Hp} {s : Shared} {a C dx g : Addr} {fs : List (Str × V)} {nm : Str} {k : Nat} {sp : Sp} {E : XK}
theorem inst_of (I : Inv X pins σ H s) (h : H a = some (.ins C dx fs)) : ∃ ox od, PySem.W.InstAt s.heap a ox C od ∧ ox.data = .plain := StX.insC_at I (.inr ⟨dx, fs, h⟩)
/-- the def is called -/
theorem run_own {Q : VK} {us : List Value} {vs : List V} (F : FnR X.prog X.w X.K X.mg X.base CX k g sp) (hr : Room k X.A) (hx : Passes CX X E) (I : Inv X pins σ H s) (r : Vals vs us) (h : sp (.ref a :: vs) H Q E) :
    wpAny (model X.prog X.w) X.A (call (.ref g) (.ref a :: us)) (EP X pins σ Q) X.xe s :=
  wpAny_mono (wpAny_call (run_fnR (us := .ref a :: us) (vs := .ref a :: vs) F hr hx I (.cons rfl r) h)) (fun _ _ z => z) fun _ _ z => z
theorem run_own1 {Q : VK} {us : List Value} {vs : List V} (F : FnR X.prog X.w X.K X.mg X.base CX k g sp) (hr : Room (k + 1) X.A) (hx : Passes CX X E) (I : Inv X pins σ H s) (r : Vals vs us) (h : sp (.ref a :: vs) H Q E) :
    wpAny (model X.prog X.w) X.A.in1 (call (.ref g) (.ref a :: us)) (EP X pins σ Q) X.xe s :=
  wpAny_mono (wpAny_call (SlX.run_at (us := .ref a :: us) (ws := .ref a :: vs) F hr.in1 I.env0.in1 hx I (.cons rfl r) h)) (fun _ _ z => z) fun _ _ z => z
/-- o[i], o an instance of C -/
def tIxO (C : Addr) (sp : Sp) (E : XK) (ta ti : TE) : TE := fun σ H Q => ta σ H fun x H1 => ti σ H1 fun y H2 => ∃ a dx fs, x = .ref a ∧ H2 a = some (.ins C dx fs) ∧ sp [x, y] H2 Q E
theorem pe_ixO {value slice : Expr} {pos : Pos} {ta ti : TE} (o : Own X.K C "__getitem__" g) (F : FnR X.prog X.w X.K X.mg X.base CX k g sp) (hr : Room (k + 1) X.A) (hx : Passes CX X E) (ha : PE X value ta) (hi : PE X slice ti)
    (hsl : ∀ x i : Value, subscripted slice true x i = runValue (.builtin "lifetime.subscript" ⟨[x, i], []⟩) := by intro _ _; rfl) : PE X (.Subscript value slice pos) (tIxO C sp E ta ti) := by
  refine ⟨fun pins s σ H Q I h => ?_⟩
  refine Subscript_ (thn (ha.run pins s σ H _ I h) fun u s1 ⟨x, H1, I1, rx, q⟩ => thn (hi.run pins s1 σ H1 _ I1 q) fun iv s2 ⟨y, H2, I2, ry, a, dx, fs, ex, hins, q2⟩ => ?_)
  subst ex
  obtain rfl : u = Value.ref a := rx
  obtain ⟨ox, od, J, hd⟩ := inst_of I2 hins
  obtain ⟨m, hF⟩ := I2.fr
  exact PySem.W.sub_K hF I2.ok.mod.kin J o.at_ o.fi o.fn (run_own1 F hr hx I2 (.cons ry .nil) q2) (hsl _ _)
/-- o[i] = v -/
def rSetO (C : Addr) (sp : Sp) (E : XK) : TSet := fun o i v H Q => ∃ a dx fs, o = .ref a ∧ H a = some (.ins C dx fs) ∧ sp [o, i, v] H (fun _ H' => Q H') E
theorem set_own (o : Own X.K C "__setitem__" g) (hq : PySem.W.noSeq X.K C = true) (F : FnR X.prog X.w X.K X.mg X.base CX k g sp) (hr : Room k X.A) (hx : Passes CX X E) : PSet X (rSetO C sp E) := by
  intro pins s σ H x i v ov iv u Q I ro ri rv h
  obtain ⟨a, dx, fs, rfl, hins, q⟩ := h
  cases (show ov = Value.ref a from ro)
  obtain ⟨ox, od, J, hd⟩ := inst_of I hins
  obtain ⟨m, hF⟩ := I.fr
  refine PySem.W.ksp_setItem hF I.ok.mod.kin J hq o.at_ o.fn (wpAny_mono (run_own F hr hx I (.cons ri (.cons rv .nil)) q) (fun w s' z => ?_) fun _ _ z => z)
  obtain ⟨_, H', I', _, q'⟩ := z
  exact ⟨H', I', q'⟩
/-- v in o -/
def rInO (C : Addr) (neg : Bool) (sp : Sp) (E : XK) : R2 := fun x y H Q => ∃ a dx fs, y = .ref a ∧ H a = some (.ins C dx fs) ∧ sp [y, x] H (fun r H' => ∃ b, r = .bl b ∧ Q (.bl (if neg then !b else b)) H') E
theorem contains_own {Q : Bool → Shared → Prop} {c x : Value} {v : V} (o : Own X.K C "__contains__" g) (F : FnR X.prog X.w X.K X.mg X.base CX k g sp) (hr : Room k X.A) (hx : Passes CX X E) (I : Inv X pins σ H s) (hins : H a = some (.ins C dx fs)) (r : RelV v x)
    {q : Bool → Hp → Prop} (h : sp [.ref a, v] H (fun r H' => ∃ b, r = .bl b ∧ q b H') E) (fin : ∀ b H' s', Inv X pins σ H' s' → q b H' → Q b s') : wpAny (model X.prog X.w) X.A (contains (.ref a) x) Q X.xe s := by
  obtain ⟨ox, od, J, hd⟩ := inst_of I hins
  have sp1 : PySem.W.Looks (model X.prog X.w) s.heap (specialOf (.ref a) "__contains__") (some (.ref g)) := J.type.andThen (PySem.W.looks_findIn I.kIn o.at_)
  unfold contains
  refine wpAny_holding ?_
  have e0 : stdlibNamesSay? (.ref a) x = Option.none := by
    unfold stdlibNamesSay?
    rfl
  rw [e0]
  refine wpAny_bind (sp1.here ?_)
  have n1 : ¬ ((some (Value.ref g) == some Value.none) = true) := fun z => by cases (Option.some.inj (beq_iff_eq.mp z))
  have n2 : ¬ ((Value.ref g == Value.none) = true) := fun z => by cases (beq_iff_eq.mp z)
  rw [if_neg n1]
  refine wpAny_bind (m := callSpecialUnlessNone? _ _ _ _) ?_
  unfold callSpecialUnlessNone?
  refine wpAny_bind (sp1.here ?_)
  dsimp only
  refine wpAny_holding (wpAny_bind ((PySem.W.bind_fn I.kIn _ (beq_iff_eq.mp o.fn)).here ?_))
  dsimp only
  rw [if_neg n2]
  refine wpAny_bind (wpAny_mono (run_own F hr hx I (.cons r .nil) h) (fun w s' z => ?_) fun _ _ z => z)
  obtain ⟨_, H', I', rw, b, rfl, q'⟩ := z
  cases (show w = Value.bool b from rw)
  refine wpAny_pure ?_
  dsimp only
  unfold truthy
  exact wpAny_pure (fin b H' s' I' q')
theorem op_inO (o : Own X.K C "__contains__" g) (F : FnR X.prog X.w X.K X.mg X.base CX k g sp) (hr : Room k X.A) (hx : Passes CX X E) : OpR X (compareOp .In) (rInO C false sp E) := by
  intro pns s σ H x y v u Q I rx ry h
  obtain ⟨a, dx, fs, rfl, hins, q⟩ := h
  cases (show u = Value.ref a from ry)
  show wpAny _ _ (contains (.ref a) v >>= fun b => pure (Value.bool b)) _ _ _
  refine wpAny_bind (contains_own (c := .ref a) (q := fun b H' => Q (.bl b) H') o F hr hx I hins rx q fun b H' s' I' q' => wpAny_pure ?_)
  exact ⟨.bl b, H', I', rfl, q'⟩
theorem op_notInO (o : Own X.K C "__contains__" g) (F : FnR X.prog X.w X.K X.mg X.base CX k g sp) (hr : Room k X.A) (hx : Passes CX X E) : OpR X (compareOp .NotIn) (rInO C true sp E) := by
  intro pns s σ H x y v u Q I rx ry h
  obtain ⟨a, dx, fs, rfl, hins, q⟩ := h
  cases (show u = Value.ref a from ry)
  show wpAny _ _ (contains (.ref a) v >>= fun b => pure (Value.bool !b)) _ _ _
  refine wpAny_bind (contains_own (c := .ref a) (q := fun b H' => Q (.bl !b) H') o F hr hx I hins rx q fun b H' s' I' q' => wpAny_pure ?_)
  exact ⟨.bl !b, H', I', rfl, q'⟩
/-- len(o) -/
def rLenO (C : Addr) (sp : Sp) (E : XK) : List V → Hp → VK → Prop := fun xs H Q => ∃ a dx fs, xs = [V.ref a] ∧ H a = some (.ins C dx fs) ∧ sp [.ref a] H (fun r H' => ∃ n : Nat, r = .int n ∧ n < 2 ^ 60 ∧ Q (.int n) H') E
theorem cr_lenO (o : Own X.K C "__len__" g) (F : FnR X.prog X.w X.K X.mg X.base CX k g sp) (hr : Room (k + 1) X.A) (hx : Passes CX X E) : CallR X (.builtin "len") (rLenO C sp E) := by
  intro pins s σ H vs us Q I r h
  obtain ⟨a, dx, fs, rfl, hins, q⟩ := h
  rw [Vals.ref1 r]
  obtain ⟨ox, od, J, hd⟩ := inst_of I hins
  refine Calls.call_function_entry kind_len plain_len entry_len (args_len1 _) ?_
  unfold Builtin.«len»
  refine wpAny_bind (m := oneArg "len" _) (wpAny_pure ?_)
  refine wpAny_bind (m := callSpecial? (.ref a) (Str.ofString "__len__")) (PySem.W.special_fn I.kIn J o.at_ (beq_iff_eq.mp o.fn) (wpAny_mono (run_own1 F hr hx I .nil q) (fun w s' z => ?_) fun _ _ z => z))
  obtain ⟨_, H', I', rw, n, rfl, hn, q'⟩ := z
  obtain ⟨t, rfl⟩ := (show ∃ t, w = Value.int n t from rw)
  have hn2 : (n : Int) < 2 ^ 63 := by omega
  refine wpAny_bind (wpAny_holding (wpAny_pure ?_))
  refine wpAny_bind (wpAny_letGo ?_)
  show wpAny _ _ (if (n : Int) < 0 then _ else _) _ _ _
  rw [if_neg (by omega)]
  show wpAny _ _ (if (n : Int) ≥ 2 ^ 63 then _ else _) _ _ _
  rw [if_neg (by omega)]
  exact wpAny_bind (wpAny_mkInt (wpAny_pure ⟨_, rfl, ⟨.int n, H', I'.tok _, ⟨_, rfl⟩, q'⟩⟩))
end
end OP
set_option Elab.async false
set_option linter.all false
set_option maxRecDepth 100000
set_option maxHeartbeats 4000000
namespace OP
open PySem PySem.Spec PyProof.Rows L2 CM
section
variable {X : Cx} {CX : CXT} {pins : List (Addr × Obj)} {σ : L2.St} {H : Hp} {s : Shared} {a C dx g : Addr} {fs : List (Str × V)} {nm : Str} {k : Nat} {sp : Sp} {E : XK}
theorem Room.in2 (hr : Room (k + 2) X.A) : Room k X.A.in1.in1 := (show Room (k + 1) X.A.in1 from Room.in1 hr).in1
/-- bool(o) -/
theorem truthy_own2 {Q : Bool → Shared → Prop} {q : Bool → Hp → Prop} (o : Own X.K C "__bool__" g) (F : FnR X.prog X.w X.K X.mg X.base CX k g sp) (hr : Room (k + 2) X.A) (hx : Passes CX X E) (I : Inv X pins σ H s) (hins : H a = some (.ins C dx fs))
    (h : sp [.ref a] H (fun r H' => ∃ b, r = .bl b ∧ q b H') E) (fin : ∀ b H' s', Inv X pins σ H' s' → q b H' → Q b s') : wpAny (model X.prog X.w) X.A.in1.in1 (truthy (.ref a)) Q X.xe s := by
  obtain ⟨ox, od, J, hd⟩ := inst_of I hins
  have run : wpAny (model X.prog X.w) X.A.in1.in1 (call (.ref g) [.ref a]) (EP X pins σ fun r H' => ∃ b, r = .bl b ∧ q b H') X.xe s :=
    wpAny_mono (wpAny_call (SlX.run_at (us := [.ref a]) (ws := [.ref a]) F (Room.in2 hr) I.env0.in1.in1 hx I (.cons rfl .nil) h)) (fun _ _ z => z) fun _ _ z => z
  have sp1 : wpAny (model X.prog X.w) X.A.in1.in1 (callSpecial? (.ref a) (Str.ofString "__bool__")) (fun r s' => ∃ b, r = some (.bool b) ∧ Q b s') X.xe s :=
    PySem.W.special_fn I.kIn J o.at_ (beq_iff_eq.mp o.fn) (wpAny_mono run (fun w s' z => by
      obtain ⟨_, H', I', rw, b, rfl, q'⟩ := z
      cases (show w = Value.bool b from rw)
      exact ⟨b, rfl, fin b H' s' I' q'⟩) fun _ _ z => z)
  unfold truthy
  first
    | (refine wpAny_bind (m := callSpecial? (.ref a) (Str.ofString "__bool__")) (wpAny_mono sp1 (fun r s' hr => ?_) fun _ _ y => y))
    | (refine wpAny_bind (wpAny_pure ?_); refine wpAny_bind (m := callSpecial? (.ref a) (Str.ofString "__bool__")) (wpAny_mono sp1 (fun r s' hr => ?_) fun _ _ y => y))
  obtain ⟨b, rfl, hq⟩ := hr
  exact wpAny_pure hq
def rBoolO (C : Addr) (sp : Sp) (E : XK) : List V → Hp → VK → Prop := fun xs H Q => ∃ a dx fs, xs = [V.ref a] ∧ H a = some (.ins C dx fs) ∧ sp [.ref a] H (fun r H' => ∃ b, r = .bl b ∧ Q (.bl b) H') E
theorem cr_boolO (o : Own X.K C "__bool__" g) (F : FnR X.prog X.w X.K X.mg X.base CX k g sp) (hr : Room (k + 2) X.A) (hx : Passes CX X E) : CallR X (.type "bool") (rBoolO C sp E) := by
  intro pins s σ H vs us Q I r h
  obtain ⟨a, dx, fs, rfl, hins, q⟩ := h
  rw [Vals.ref1 r]
  exact DN.call_bool_of (truthy_own2 (q := fun b H' => Q (.bl b) H') o F hr hx I hins q fun b H' s' I' q' => ⟨.bl b, H', I', rfl, q'⟩)
/-- o(k = v, ..) -/
theorem callOK_of {M : Model} {A : Around} {E : Value → Shared → Prop} {s : Shared} {a : Addr} {pos : Pos} {Q : Value → Shared → Prop} {args : List (Bool × Sem Value)} {kws : List (Option Str × Sem Value)} (hplain : (args.any (·.1) || kws.any (·.1.isNone)) = false)
    (h : wpAny M A (evalArgs (.ref a) true args kws) (fun z s₁ => (∃ C ox od, PySem.W.InstAt s₁.heap a ox C od ∧ ox.data = .plain) ∧ wpAny M A (call (.ref a) ([] ++ z.pos) z.kw) Q E s₁) E s) : wpAny M A (callWith pos (.ref a) [] args kws) Q E s := by
  unfold callWith
  refine wpAny_bind (wpAny_holding (wpAny_mono h (fun z s₁ h₁ => wpAny_bind (wpAny_standAt ?_)) fun _ _ y => y))
  obtain ⟨⟨C, ox, od, J, hd⟩, h₁⟩ := h₁
  have L := PySem.W.kco_keeper (M := M) J hd
  simp only [hplain]
  refine wpAny_bind (L.here ?_)
  have tail : ∀ {t : Sem Value}, wpAny M A t Q E s₁ → wpAny M A (t >>= fun r => holding [r] point >>= fun _ => pure r) Q E s₁ :=
    fun ht => wpAny_bind (wpAny_mono ht (fun r s₂ hr => wpAny_bind (wpAny_holding (wpAny_point (wpAny_pure hr)))) fun _ _ y => y)
  exact tail (wpAny_operateT h₁)
def tCallOK (X : Cx) (C : Addr) (m : Nat) (sp : Sp) (gV : List V → List V → List V) (E : XK) (tf : TE) (tk : TA) : TE := fun σ H Q => tf σ H fun y H1 => ∃ a, y = V.ref a ∧ tk σ H1 fun zs H2 => zs.length = m ∧ (∃ dx fs, H2 a = some (.ins C dx fs)) ∧ sp (gV [.ref a] zs) H2 Q E
theorem pe_callOK {fe : Expr} {kws : List Keyword} {pos : Pos} {tf : TE} {tk : TA} {fd : FuncData} {ps ks : List Str} {gg : List Value → List Value → List Value} {gV : List V → List V → List V} (hf : PE X fe tf) (c : StX.CallO X.K C g)
    (F : FnOk X.prog X.w X.K X.mg X.base CX k g fd ps sp) (hb : KBn X.K fd ps 1 ks gg gV) (hr : Room k X.A) (hx : Passes CX X E) (hkw : PK X kws tk) (hall : (backToKw pos (keywordEach kws X.env)).all (·.1.isSome) = true := by rfl)
    (hks : (backToKw pos (keywordEach kws X.env)).filterMap (·.1) = ks := by rfl)
    (ht : eval (.Call fe [] kws pos) X.env = (do callWith pos (← eval fe X.env) [] (backTo pos (starEach [] X.env)) (backToKw pos (keywordEach kws X.env))) := by rfl)
    (hpl : ((backTo pos (starEach [] X.env)).any (·.1) || (backToKw pos (keywordEach kws X.env)).any (·.1.isNone)) = false := by rfl) : PE X (.Call fe [] kws pos) (tCallOK X C ks.length sp gV E tf tk) := by
  refine ⟨fun pins s σ H Q I h => ?_⟩
  rw [ht]
  refine wpAny_bind (thn (hf.run pins s σ H _ I h) fun u s1 ⟨y, H1, I1, ry, a, ey, q⟩ => ?_)
  subst ey
  obtain rfl : u = Value.ref a := ry
  refine callOK_of hpl (evalArgs_kw2_nil hall ?_)
  refine thn (hkw.run pos pins s1 σ H1 _ I1 q) fun ws s2 ⟨zs, H2, I2, rz, l2, ⟨dx, fs, hins⟩, q2⟩ => ?_
  obtain ⟨ox, od, J, hd⟩ := inst_of I2 hins
  refine ⟨⟨C, ox, od, J, hd⟩, ?_⟩
  rw [hks]
  have e2 : ws.length = ks.length := rz.length.symm.trans l2
  refine wpAny_call (PySem.W.kco_code (a := ⟨[], ks.zip ws⟩) I2.kIn J hd c.at_ c.fn c.fi (codeAny_mono (F.run X.A X.stack s2 H2 ⟨[.ref a], ks.zip ws⟩ (gg [.ref a] ws) (gV [.ref a] zs) Q E hr I2.env0 (hb.to s2 [.ref a] ws I2.kIn rfl e2) (hb.rel (vs := [V.ref a]) (us := [Value.ref a]) (.cons rfl .nil) rz) q2) fun r s' hq => ?_))
  cases r with
  | error e => exact hx pins σ H2 s2 e s' I2 hq
  | ok fl =>
    cases fl with
    | ret u => exact I2.after hq
    | next => exact False.elim hq
    | brk => exact False.elim hq
    | cont => exact False.elim hq
/-- keywords that stand for all parameters but the first -/
theorem kbn_all {x qual : Str} {params : Arguments} {body : List Stmt} {scope : Scope} {K : PySem.W.Frag} {f : Addr} {fd : FuncData} {ps ks : List Str} (F : FunD K x qual params body scope [] [] f fd) (n : Nat) (gg : {α : Type} → List α → List α → List α)
    (hrel : ∀ {vs zs : List V} {us ws : List Value}, Vals vs us → Vals zs ws → Vals (gg vs zs) (gg us ws))
    (h : ∀ (kV doc pm : Value) (an : Option Addr) (cdv ct : Value) (us ws : List Value), us.length = n → ws.length = ks.length → bindArgs (PySem.W.fnOf x qual params body scope .none kV doc pm an cdv ct) ⟨us, ks.zip ws⟩ = pure (ps.zip (gg us ws))) : KBn K fd ps n ks (fun us ws => gg us ws) (fun vs zs => gg vs zs) := by
  obtain ⟨oc, od, dV, kV, doc, pm, an, cdv, ct, osl, rfl, lk, hcd, hD, hK⟩ := F.ex
  rcases hD with ⟨_, rfl⟩ | ⟨e, _⟩
  · exact ⟨fun s us ws _ l1 l2 => .of_eq (h kV doc pm an cdv ct us ws l1 l2), fun r1 r2 => hrel r1 r2⟩
  · exact absurd rfl e
/-- o == v, o an instance of C, v of any type that is not below C -/
def rEqO (K : PySem.W.Frag) (C : Addr) (sp : Sp) (E : XK) : R2 := fun x y H Q => ∃ a dx fs t, x = .ref a ∧ H a = some (.ins C dx fs) ∧ TyX K H y t ∧ PySem.W.notFirst K C t = true ∧ sp [x, y] H (fun r H' => ∃ b, r = .bl b ∧ Q (.bl b) H') E
end
end OP
set_option Elab.async false
set_option linter.all false
set_option maxRecDepth 100000
set_option maxHeartbeats 4000000
namespace GR
open PySem PySem.Spec PyProof.Rows L2 CM RZ DN
theorem u40 {n m : Nat} (h : n + 64 < m) : n + 40 < m := by omega
/-! ### plain values -/
def leafB : V → Bool
  | .int _ => true
  | .str _ => true
  | .non => true
  | _ => false
/-- instances of this class are no data -/
structure InsK (K : PySem.W.Frag) (C : Addr) : Prop where
  cl : Cls K C
  ca : PySem.W.findIn K (.ref C) "__class__" = some (some (.builtin "object.__class__"))
  gs : PySem.W.specialIn K (.builtin "object.__class__") "__get__" = some (some (.builtin "getset_descriptor.__get__"))
  tk : PySem.W.takesIn K (.builtin "object.__class__") = some true
  mr : PySem.W.mroIn K C (.type "object") = some true
  ki : PySem.W.kitOne K (.ref C) (.type "int") = some false
  ks : PySem.W.kitOne K (.ref C) (.type "str") = some false
  kt : PySem.W.kitOne K (.ref C) (.type "tuple") = some false
/-- a flag, a list, a dict, an instance -/
def Odd (K : PySem.W.Frag) (H : Hp) (v : V) : Prop := (∃ b, v = .bl b) ∨ (∃ a xs, v = .ref a ∧ H a = some (.lst xs)) ∨ (∃ a kvs, v = .ref a ∧ H a = some (.dK kvs)) ∨ ∃ a C dx fs, v = .ref a ∧ H a = some (.ins C dx fs) ∧ InsK K C
/-- what is_plain_within says of a thing within n levels -/
def PN (K : PySem.W.Frag) (H : Hp) : Nat → V → Bool → Prop
  | 0, v, b => (leafB v = true ∧ b = true) ∨ (Odd K H v ∧ b = false) ∨ ∃ a xs, v = .ref a ∧ H a = some (.tup xs) ∧ b = xs.isEmpty
  | n + 1, v, b => (leafB v = true ∧ b = true) ∨ (Odd K H v ∧ b = false) ∨ ∃ a xs, v = .ref a ∧ H a = some (.tup xs) ∧
    ((b = true ∧ ∀ x ∈ xs, PN K H n x true) ∨ (b = false ∧ ∃ (i : Nat) (x : V), xs[i]? = some x ∧ PN K H n x false ∧ ∀ (j : Nat) (y : V), j < i → xs[j]? = some y → PN K H n y true))
theorem PN.leaf {K : PySem.W.Frag} {H : Hp} {v : V} (h : leafB v = true) : ∀ n : Nat, PN K H n v true
  | 0 => .inl ⟨h, rfl⟩
  | _ + 1 => .inl ⟨h, rfl⟩
theorem PN.odd {K : PySem.W.Frag} {H : Hp} {v : V} (h : Odd K H v) : ∀ n : Nat, PN K H n v false
  | 0 => .inr (.inl ⟨h, rfl⟩)
  | _ + 1 => .inr (.inl ⟨h, rfl⟩)
mutual
def dat : NK → PyData
  | .none => .none
  | .num i => .int i
  | .text z => .str z
  | .tup ks => .tuple (dats ks)
def dats : List NK → List PyData
  | [] => []
  | k :: ks => dat k :: dats ks
end
mutual
def plN : Nat → NK → Bool
  | _, .none => true
  | _, .num _ => true
  | _, .text _ => true
  | 0, .tup ks => ks.isEmpty
  | n + 1, .tup ks => plNs n ks
def plNs : Nat → List NK → Bool
  | _, [] => true
  | n, k :: ks => plN n k && plNs n ks
end
mutual
theorem key_shw {H : Hp} : ∀ {k : NK} {v : V}, KeyV H k v → Shw H v (dat k)
  | _, _, .non => by
    rw [dat]
    exact .non
  | _, _, .int i => by
    rw [dat]
    exact .int i
  | _, _, .str z => by
    rw [dat]
    exact .str z
  | _, _, .tup e h => by
    rw [dat]
    exact .tup e (keys_shw h)
theorem keys_shw {H : Hp} : ∀ {ks : List NK} {vs : List V}, KeysV H ks vs → ShwAll H vs (dats ks)
  | _, _, .nil => by
    rw [dats]
    exact .nil
  | _, _, .cons h t => by
    rw [dats]
    exact .cons (key_shw h) (keys_shw t)
end
mutual
theorem dat_depth : ∀ k : NK, (dat k).depth = k.depth
  | .none => by simp only [dat, PyData.depth, NestedKey.depth]
  | .num _ => by simp only [dat, PyData.depth, NestedKey.depth]
  | .text _ => by simp only [dat, PyData.depth, NestedKey.depth]
  | .tup ks => by simp only [dat, PyData.depth, NestedKey.depth, dats_depth ks]
theorem dats_depth : ∀ ks : List NK, PyData.depthAll (dats ks) = NestedKey.depthAll ks
  | [] => by simp only [dats, PyData.depthAll, NestedKey.depthAll]
  | k :: ks => by simp only [dats, PyData.depthAll, NestedKey.depthAll, dat_depth k, dats_depth ks]
end
section
variable {K : PySem.W.Frag}
mutual
theorem pn_key {H : Hp} : ∀ {n : Nat} {k : NK} {v : V}, KeyV H k v → plN n k = true → PN K H n v true
  | n, _, _, .non, _ => .leaf rfl n
  | n, _, _, .int i, _ => .leaf rfl n
  | n, _, _, .str z, _ => .leaf rfl n
  | 0, _, _, .tup (ks := ks) (vs := vs) e h, q => by
    refine .inr (.inr ⟨_, vs, rfl, e, ?_⟩)
    rw [plN] at q
    cases h with
    | nil => rfl
    | cons => cases q
  | n + 1, _, _, .tup (ks := ks) (vs := vs) e h, q => by
    rw [plN] at q
    exact .inr (.inr ⟨_, vs, rfl, e, .inl ⟨rfl, pns_key h q⟩⟩)
theorem pns_key {H : Hp} : ∀ {n : Nat} {ks : List NK} {vs : List V}, KeysV H ks vs → plNs n ks = true → ∀ x ∈ vs, PN K H n x true
  | _, _, _, .nil, _, x, hx => by cases hx
  | n, _, _, .cons h t, q, x, hx => by
    rw [plNs, Bool.and_eq_true] at q
    rcases List.mem_cons.mp hx with e | hx
    · rw [e]
      exact pn_key h q.1
    · exact pns_key t q.2 x hx
end
/-- a plain value -/
structure Pl (H : Hp) (v : V) (k : NK) : Prop where
  key : KeyV H k v
  pl : plN 4 k = true
  dep : k.depth ≤ 6
theorem Pl.same {H H' : Hp} {v : V} {k : NK} (h : Pl H v k) (s : ∀ a xs, H a = some (.tup xs) → H' a = some (.tup xs)) : Pl H' v k := ⟨h.key.same s, h.pl, h.dep⟩
theorem Pl.pn {H : Hp} {v : V} {k : NK} (h : Pl H v k) : PN K H 4 v true := pn_key h.key h.pl
theorem Pl.shw {H : Hp} {v : V} {k : NK} (h : Pl H v k) : Shw H v (dat k) := key_shw h.key
/-- a place: a tuple of two plain values -/
structure Plc (H : Hp) (p : Addr) (k : NK) : Prop where
  ex : ∃ v1 v2 k1 k2, H p = some (.tup [v1, v2]) ∧ Pl H v1 k1 ∧ Pl H v2 k2 ∧ k = .tup [k1, k2]
theorem Plc.key {H : Hp} {p : Addr} {k : NK} (h : Plc H p k) : KeyV H k (.ref p) ∧ k.depth ≤ 8 := by
  obtain ⟨v1, v2, k1, k2, e, h1, h2, rfl⟩ := h.ex
  refine ⟨.tup e (.cons h1.key (.cons h2.key .nil)), ?_⟩
  have a := h1.dep
  have b := h2.dep
  simp only [NestedKey.depth, NestedKey.depthAll]
  omega
theorem Plc.same {H H' : Hp} {p : Addr} {k : NK} (h : Plc H p k) (s : ∀ a xs, H a = some (.tup xs) → H' a = some (.tup xs)) : Plc H' p k := by
  obtain ⟨v1, v2, k1, k2, e, h1, h2, e2⟩ := h.ex
  exact ⟨v1, v2, k1, k2, s _ _ e, h1.same s, h2.same s, e2⟩
/-- a value of a grid: a flag, or a plain value -/
def Wr (H : Hp) : Bool → V → PyData → Prop
  | true, v, d => ∃ b, v = .bl b ∧ d = .bool b
  | false, v, d => ∃ k, Pl H v k ∧ d = dat k
theorem Wr.same {H H' : Hp} {fl : Bool} {v : V} {d : PyData} (h : Wr H fl v d) (s : ∀ a xs, H a = some (.tup xs) → H' a = some (.tup xs)) : Wr H' fl v d := by
  cases fl with
  | true => exact h
  | false =>
    obtain ⟨k, h1, h2⟩ := h
    exact ⟨k, h1.same s, h2⟩
theorem Wr.shw {H : Hp} {fl : Bool} {v : V} {d : PyData} (h : Wr H fl v d) : Shw H v d ∧ d.depth ≤ 6 := by
  cases fl with
  | true =>
    obtain ⟨b, rfl, rfl⟩ := h
    exact ⟨.bl b, by simp only [PyData.depth]; omega⟩
  | false =>
    obtain ⟨k, h1, rfl⟩ := h
    exact ⟨h1.shw, by rw [dat_depth]; exact h1.dep⟩
/-! ### types -/
def tyN : PyData → String
  | .none => "NoneType"
  | .bool _ => "bool"
  | .int _ => "int"
  | .str _ => "str"
  | .list _ => "list"
  | .tuple _ => "tuple"
  | .dict _ => "dict"
theorem shw_ty {H : Hp} {v : V} {d : PyData} (h : Shw H v d) : TyX K H v (.type (tyN d)) := by
  cases h with
  | non => exact .base .non
  | bl b => exact .base (.bl b)
  | int i => exact .base (.int i)
  | str z => exact .base (.str z)
  | lst e _ => exact .base (.lst e)
  | tup e _ => exact .base (.tup e)
theorem kit_bb {a b : String} {r : Bool} (h : L2.kitB a b = some r) : PySem.W.kitOne K (.type a) (.type b) = some r := kit_ty h
theorem Wr.bool {H : Hp} {fl : Bool} {v : V} {d : PyData} (h : Wr H fl v d) : PySem.W.kitOne K (.type (tyN d)) (.type "bool") = some fl := by
  cases fl with
  | true =>
    obtain ⟨b, rfl, rfl⟩ := h
    show PySem.W.kitOne K (.type "bool") (.type "bool") = some true
    exact kit_bb (by decide +kernel)
  | false =>
    obtain ⟨k, h1, rfl⟩ := h
    cases k <;> (simp only [dat, tyN]; exact kit_bb (by decide +kernel))
theorem Wr.tyIn {H : Hp} {fl : Bool} {v : V} {d : PyData} (h : Wr H fl v d) : tyN d ∈ ["bool", "NoneType", "int", "str", "tuple"] := by
  cases fl with
  | true =>
    obtain ⟨b, rfl, rfl⟩ := h
    show "bool" ∈ ["bool", "NoneType", "int", "str", "tuple"]
    decide
  | false =>
    obtain ⟨k, h1, rfl⟩ := h
    cases k <;> (simp only [dat, tyN]; decide)
/-! ### what a dict says, but for the addresses of its keys -/
def kv (x : Ent) : NK × V := (x.1, x.2.2)
theorem at_kv (xs : List Ent) (k : NK) : at_ xs k = ((xs.map kv).find? fun y => decide (y.1 = k)).map (·.2) := by
  unfold at_
  induction xs with
  | nil => rfl
  | cons x r ih =>
    rw [List.map_cons, List.find?_cons, List.find?_cons]
    show (match decide (x.1 = k) with | true => some x | false => r.find? fun x => decide (x.1 = k)).map (fun z : Ent => z.2.2) = (match decide (x.1 = k) with | true => some (kv x) | false => (r.map kv).find? fun y => decide (y.1 = k)).map (fun z : NK × V => z.2)
    cases decide (x.1 = k) with
    | true => rfl
    | false => exact ih
theorem at_congr {xs ys : List Ent} (h : xs.map kv = ys.map kv) (k : NK) : at_ xs k = at_ ys k := by rw [at_kv, at_kv, h]
theorem put_kv {xs ys : List Ent} (h : xs.map kv = ys.map kv) (k : NK) (a b : Addr) (v : V) : (putE xs k a v).map kv = (putE ys k b v).map kv := by
  have g : ∀ zs : List Ent, (zs.map fun x => if x.1 = k then (x.1, x.2.1, v) else x).map kv = (zs.map kv).map fun y => if y.1 = k then (y.1, v) else y := by
    intro zs
    rw [List.map_map, List.map_map]
    refine List.map_congr_left fun x _ => ?_
    show kv (if x.1 = k then (x.1, x.2.1, v) else x) = if x.1 = k then (x.1, v) else kv x
    split <;> rfl
  unfold putE
  rw [at_congr h k]
  split
  · rw [g, g, h]
  · rw [List.map_append, List.map_append, h]
    rfl
theorem drop_kv {xs ys : List Ent} (h : xs.map kv = ys.map kv) (k : NK) : (dropE xs k).map kv = (dropE ys k).map kv := by
  have g : ∀ zs : List Ent, (dropE zs k).map kv = (zs.map kv).filter fun y => decide (y.1 ≠ k) := by
    intro zs
    unfold dropE
    rw [List.filter_map]
    rfl
  rw [g, g, h]
theorem drop_none {xs : List Ent} {k : NK} (h : at_ xs k = none) : dropE xs k = xs := by
  unfold dropE
  rw [List.filter_eq_self]
  intro x hx
  refine decide_eq_true fun e => ?_
  unfold at_ at h
  rw [Option.map_eq_none_iff, List.find?_eq_none] at h
  exact h x hx (decide_eq_true e)
theorem len_kv {xs ys : List Ent} (h : xs.map kv = ys.map kv) : xs.length = ys.length := by
  have e := congrArg List.length h
  rw [List.length_map, List.length_map] at e
  exact e
theorem mem_put {xs : List Ent} {k : NK} {a : Addr} {v : V} {x : Ent} (h : x ∈ putE xs k a v) : (∃ y ∈ xs, y.1 = x.1 ∧ y.2.1 = x.2.1 ∧ (y.2.2 = x.2.2 ∨ x.2.2 = v)) ∨ x = (k, a, v) := by
  unfold putE at h
  split at h
  · obtain ⟨y, hy, e⟩ := List.mem_map.mp h
    refine .inl ⟨y, hy, ?_⟩
    subst e
    split
    · exact ⟨rfl, rfl, .inr rfl⟩
    · exact ⟨rfl, rfl, .inl rfl⟩
  · rcases List.mem_append.mp h with h | h
    · exact .inl ⟨x, h, rfl, rfl, .inl rfl⟩
    · exact .inr (List.mem_singleton.mp h)
theorem mem_drop {xs : List Ent} {k : NK} {x : Ent} (h : x ∈ dropE xs k) : x ∈ xs := (List.mem_filter.mp h).1
/-- a dict behind a store -/
theorem dct_put {P : Program} {w : World} {H : Hp} {d p : Addr} {xs : List Ent} {k : NK} {v : V} (D : Dct P w H d xs) (hk : KeyV H k (.ref p)) (hd : k.depth ≤ 8) : Dct P w (upd H d (dn P w d (putE xs k p v))) d (putE xs k p v) := by
  have s : ∀ a ys, H a = some (.tup ys) → (upd H d (dn P w d (putE xs k p v))) a = some (.tup ys) := fun a ys e => by
    have n : a ≠ d := fun z => by
      rw [z, D.1] at e
      exact dn_ne (Option.some.inj e)
    rw [upd_ne n]
    exact e
  refine ⟨upd_same, fun x hx => ?_⟩
  rcases mem_put hx with ⟨y, hy, e1, e2, _⟩ | rfl
  · obtain ⟨h1, h2⟩ := D.2 y hy
    rw [← e1, ← e2]
    exact ⟨h1.same s, h2⟩
  · exact ⟨hk.same s, hd⟩
theorem dct_drop {P : Program} {w : World} {H : Hp} {d : Addr} {xs : List Ent} {k : NK} (D : Dct P w H d xs) : Dct P w (upd H d (dn P w d (dropE xs k))) d (dropE xs k) := by
  have s : ∀ a ys, H a = some (.tup ys) → (upd H d (dn P w d (dropE xs k))) a = some (.tup ys) := fun a ys e => by
    have n : a ≠ d := fun z => by
      rw [z, D.1] at e
      exact dn_ne (Option.some.inj e)
    rw [upd_ne n]
    exact e
  refine ⟨upd_same, fun x hx => ?_⟩
  obtain ⟨h1, h2⟩ := D.2 x (mem_drop hx)
  exact ⟨h1.same s, h2⟩
/-- the keys as a list: what it shows -/
theorem keys_shown {P : Program} {w : World} {H : Hp} {d : Addr} {xs : List Ent} (D : Dct P w H d xs) : ShwAll H (keyRefs xs) (xs.map fun x => dat x.1) := by
  have h := D.2
  unfold keyRefs
  clear D
  induction xs with
  | nil => exact .nil
  | cons x r ih => exact .cons (key_shw (h x (List.mem_cons_self ..)).1) (ih fun y hy => h y (List.mem_cons_of_mem _ hy))
theorem keys_deep {xs : List Ent} (h : ∀ x ∈ xs, x.1.depth ≤ 8) : PyData.depthAll (xs.map fun x => dat x.1) ≤ 8 := by
  induction xs with
  | nil => simp [PyData.depthAll]
  | cons x r ih =>
    have a := h x (List.mem_cons_self ..)
    have b := ih fun y hy => h y (List.mem_cons_of_mem _ hy)
    rw [List.map_cons, PyData.depthAll, dat_depth]
    omega
theorem keys_same {xs ys : List Ent} (h : xs.map kv = ys.map kv) : (xs.map fun x => dat x.1) = ys.map fun x => dat x.1 := by
  have e : ∀ zs : List Ent, (zs.map fun x => dat x.1) = (zs.map kv).map fun y => dat y.1 := by
    intro zs
    rw [List.map_map]
    rfl
  rw [e, e, h]
theorem eqv_self {H : Hp} {v : V} {d : PyData} (h : Shw H v d) : PyData.eqv d d = true := SeqAt.eqv_refl_plain d (shw_plain h)
/-- a grid at g: its default, its dict -/
def Gd (P : Program) (w : World) (C : Addr) (H : Hp) (g : Addr) (dv : V) (e : Addr) (xs : List Ent) : Prop := (∃ dx, H g = some (.ins C dx [("default", dv), ("entries", .ref e)])) ∧ Dct P w H e xs
theorem Gd.same {P : Program} {w : World} {C g e : Addr} {H H' : Hp} {dv : V} {xs : List Ent} (h : Gd P w C H g dv e xs) (s : Same H H') : Gd P w C H' g dv e xs := let ⟨⟨dx, h1⟩, h2⟩ := h; ⟨⟨dx, s _ _ h1⟩, h2.same s⟩
theorem same_tup {H H' : Hp} (s : Same H H') : ∀ a xs, H a = some (.tup xs) → H' a = some (.tup xs) := fun a xs e => s a _ e
theorem Pl.int {H : Hp} (i : Int) : Pl H (.int i) (.num i) := ⟨.int i, by simp only [plN], by simp only [NestedKey.depth]; omega⟩
theorem Pl.str {H : Hp} (z : Str) : Pl H (.str z) (.text z) := ⟨.str z, by simp only [plN], by simp only [NestedKey.depth]; omega⟩
theorem Pl.non {H : Hp} : Pl H .non .none := ⟨.non, by simp only [plN], by simp only [NestedKey.depth]; omega⟩
theorem kp_tup {a : Addr} {H H' : Hp} {ys : List V} (h : H a = some (.lst ys)) (s : Kp a H H') : ∀ b xs, H b = some (.tup xs) → H' b = some (.tup xs) := fun b xs e => s b _ (fun z => by
  rw [z, h] at e
  cases e) e
/-- all but these objects stay -/
def Kps (S : List Addr) (H H' : Hp) : Prop := ∀ b o, b ∉ S → H b = some o → H' b = some o
theorem Kps.trans {S : List Addr} {H H1 H2 : Hp} (x : Kps S H H1) (y : Kps S H1 H2) : Kps S H H2 := fun b o n e => y b o n (x b o n e)
theorem Kps.mono {S S' : List Addr} {H H' : Hp} (h : Kps S H H') (m : ∀ b ∈ S, b ∈ S') : Kps S' H H' := fun b o n e => h b o (fun z => n (m b z)) e
theorem Kps.same {S : List Addr} {H H' : Hp} (s : Same H H') : Kps S H H' := fun b o _ e => s b o e
theorem Kps.kp {S : List Addr} {a : Addr} {H H' : Hp} (s : Kp a H H') (m : a ∈ S) : Kps S H H' := fun b o n e => s b o (fun z => n (z ▸ m)) e
theorem Kps.upd {S : List Addr} {a : Addr} {H : Hp} {o : HO} (m : a ∈ S) : Kps S H (upd H a o) := fun b u n e => by
  rw [upd_ne (fun z => n (by rw [z]; exact m))]
  exact e
/-- tuples stay -/
def TP (H H' : Hp) : Prop := ∀ a xs, H a = some (.tup xs) → H' a = some (.tup xs)
theorem TP.trans {H H1 H2 : Hp} (x : TP H H1) (y : TP H1 H2) : TP H H2 := fun a xs e => y a xs (x a xs e)
theorem TP.same {H H' : Hp} (s : Same H H') : TP H H' := same_tup s
theorem TP.kp {a : Addr} {H H' : Hp} {ys : List V} (h : H a = some (.lst ys)) (s : Kp a H H') : TP H H' := kp_tup h s
theorem tp_dct {P : Program} {w : World} {H : Hp} {d : Addr} {xs : List Ent} {o : HO} (D : Dct P w H d xs) : TP H (upd H d o) := fun a ys e => by
  have n : a ≠ d := fun z => by
    rw [z, D.1] at e
    exact dn_ne (Option.some.inj e)
  rw [upd_ne n]
  exact e
/-- a grid and the law's own dict of it -/
structure Two (P : Program) (w : World) (C : Addr) (H : Hp) (fl : Bool) (g e c : Addr) (dv : V) (xs ys : List Ent) : Prop where
  gd : Gd P w C H g dv e xs
  dc : Dct P w H c ys
  ne : e ≠ c
  wd : ∃ d, Wr H fl dv d
  vals : ∀ x ∈ xs, ∃ d, Wr H fl x.2.2 d
variable {P : Program} {w : World} {C g e c : Addr} {H H' : Hp} {fl : Bool} {dv : V} {xs ys : List Ent}
theorem dn_ins {d : Addr} {dx : Addr} {fs : List (Str × V)} : dn P w d xs ≠ .ins C dx fs := fun z => by
  unfold dn at z
  cases z
theorem dn_lst {d : Addr} {zs : List V} : dn P w d xs ≠ .lst zs := fun z => by
  unfold dn at z
  cases z
theorem Two.g_e (h : Two P w C H fl g e c dv xs ys) : g ≠ e := fun z => by
  obtain ⟨⟨dx, h1⟩, h2⟩ := h.gd
  rw [z, h2.1] at h1
  exact dn_ins (Option.some.inj h1)
theorem Two.g_c (h : Two P w C H fl g e c dv xs ys) : g ≠ c := fun z => by
  obtain ⟨⟨dx, h1⟩, h2⟩ := h.gd
  rw [z, h.dc.1] at h1
  exact dn_ins (Option.some.inj h1)
theorem Two.keep {S : List Addr} (h : Two P w C H fl g e c dv xs ys) (s : Kps S H H') (t : TP H H') (n1 : g ∉ S) (n2 : e ∉ S) (n3 : c ∉ S) : Two P w C H' fl g e c dv xs ys := by
  obtain ⟨⟨⟨dx, h1⟩, h2⟩, h3, h4, ⟨d, h5⟩, h6⟩ := h
  exact ⟨⟨⟨dx, s _ _ n1 h1⟩, h2.mono (s _ _ n2 h2.1) t⟩, h3.mono (s _ _ n3 h3.1) t, h4, ⟨d, h5.same t⟩, fun x hx => let ⟨d, hd⟩ := h6 x hx; ⟨d, hd.same t⟩⟩
theorem Two.same (h : Two P w C H fl g e c dv xs ys) (s : Same H H') : Two P w C H' fl g e c dv xs ys := h.keep (S := []) (Kps.same s) (same_tup s) (List.not_mem_nil) (List.not_mem_nil) (List.not_mem_nil)
theorem Two.at_lst {a : Addr} {zs : List V} (h : Two P w C H fl g e c dv xs ys) (ha : H a = some (.lst zs)) : g ≠ a ∧ e ≠ a ∧ c ≠ a := by
  obtain ⟨⟨⟨dx, h1⟩, h2⟩, h3, _⟩ := h
  refine ⟨fun z => ?_, fun z => ?_, fun z => ?_⟩
  · rw [z, ha] at h1
    cases h1
  · have := h2.1
    rw [z, ha] at this
    exact dn_lst (Option.some.inj this).symm
  · have := h3.1
    rw [z, ha] at this
    exact dn_lst (Option.some.inj this).symm
theorem Two.kp {a : Addr} {zs : List V} (h : Two P w C H fl g e c dv xs ys) (ha : H a = some (.lst zs)) (s : Kp a H H') : Two P w C H' fl g e c dv xs ys := by
  obtain ⟨n1, n2, n3⟩ := h.at_lst ha
  exact h.keep (S := [a]) (Kps.kp s (List.mem_singleton.mpr rfl)) (kp_tup ha s) (fun z => n1 (List.mem_singleton.mp z)) (fun z => n2 (List.mem_singleton.mp z)) (fun z => n3 (List.mem_singleton.mp z))
theorem Two.put_e {p : Addr} {k : NK} {v : V} {d : PyData} (h : Two P w C H fl g e c dv xs ys) (hk : KeyV H k (.ref p)) (hd : k.depth ≤ 8) (wv : Wr H fl v d) : Two P w C (upd H e (dn P w e (putE xs k p v))) fl g e c dv (putE xs k p v) ys := by
  have t : TP H (upd H e (dn P w e (putE xs k p v))) := tp_dct h.gd.2
  have ge := h.g_e
  obtain ⟨⟨⟨dx, h1⟩, h2⟩, h3, h4, ⟨dd, h5⟩, h6⟩ := h
  refine ⟨⟨⟨dx, by rw [upd_ne ge]; exact h1⟩, dct_put h2 hk hd⟩, h3.mono (by rw [upd_ne (Ne.symm h4)]; exact h3.1) t, h4, ⟨dd, h5.same t⟩, fun x hx => ?_⟩
  rcases mem_put hx with ⟨y, hy, _, _, ev⟩ | rfl
  · rcases ev with ev | ev
    · obtain ⟨d, hd⟩ := h6 y hy
      rw [← ev]
      exact ⟨d, hd.same t⟩
    · rw [ev]
      exact ⟨d, wv.same t⟩
  · exact ⟨d, wv.same t⟩
theorem Two.drop_e {k : NK} (h : Two P w C H fl g e c dv xs ys) : Two P w C (upd H e (dn P w e (dropE xs k))) fl g e c dv (dropE xs k) ys := by
  have t : TP H (upd H e (dn P w e (dropE xs k))) := tp_dct h.gd.2
  have ge := h.g_e
  obtain ⟨⟨⟨dx, h1⟩, h2⟩, h3, h4, ⟨dd, h5⟩, h6⟩ := h
  refine ⟨⟨⟨dx, by rw [upd_ne ge]; exact h1⟩, dct_drop h2⟩, h3.mono (by rw [upd_ne (Ne.symm h4)]; exact h3.1) t, h4, ⟨dd, h5.same t⟩, fun x hx => ?_⟩
  obtain ⟨d, hd⟩ := h6 x (mem_drop hx)
  exact ⟨d, hd.same t⟩
theorem Two.put_c {p : Addr} {k : NK} {v : V} (h : Two P w C H fl g e c dv xs ys) (hk : KeyV H k (.ref p)) (hd : k.depth ≤ 8) : Two P w C (upd H c (dn P w c (putE ys k p v))) fl g e c dv xs (putE ys k p v) := by
  have t : TP H (upd H c (dn P w c (putE ys k p v))) := tp_dct h.dc
  have gc := h.g_c
  obtain ⟨⟨⟨dx, h1⟩, h2⟩, h3, h4, ⟨dd, h5⟩, h6⟩ := h
  exact ⟨⟨⟨dx, by rw [upd_ne gc]; exact h1⟩, h2.mono (by rw [upd_ne h4]; exact h2.1) t⟩, dct_put h3 hk hd, h4, ⟨dd, h5.same t⟩, fun x hx => let ⟨d, hd⟩ := h6 x hx; ⟨d, hd.same t⟩⟩
theorem Two.drop_c {k : NK} (h : Two P w C H fl g e c dv xs ys) : Two P w C (upd H c (dn P w c (dropE ys k))) fl g e c dv xs (dropE ys k) := by
  have t : TP H (upd H c (dn P w c (dropE ys k))) := tp_dct h.dc
  have gc := h.g_c
  obtain ⟨⟨⟨dx, h1⟩, h2⟩, h3, h4, ⟨dd, h5⟩, h6⟩ := h
  exact ⟨⟨⟨dx, by rw [upd_ne gc]; exact h1⟩, h2.mono (by rw [upd_ne h4]; exact h2.1) t⟩, dct_drop h3, h4, ⟨dd, h5.same t⟩, fun x hx => let ⟨d, hd⟩ := h6 x hx; ⟨d, hd.same t⟩⟩
theorem at_mem {k : NK} {u : V} (h : at_ xs k = some u) : ∃ x ∈ xs, x.2.2 = u := by
  unfold at_ at h
  obtain ⟨x, hx, e⟩ := Option.map_eq_some_iff.mp h
  exact ⟨x, List.mem_of_find?_eq_some hx, e⟩
theorem Two.worth (h : Two P w C H fl g e c dv xs ys) (k : NK) : ∃ d, Wr H fl ((at_ xs k).getD dv) d := by
  cases ha : at_ xs k with
  | none => exact h.wd
  | some u =>
    obtain ⟨x, hx, ex⟩ := at_mem ha
    obtain ⟨d, hd⟩ := h.vals x hx
    rw [ex] at hd
    exact ⟨d, hd⟩
/-- a grid that is as its dict, of no more than n -/
def Slt (P : Program) (w : World) (C : Addr) (H : Hp) (n : Nat) (fl : Bool) (g e c : Addr) (dv : V) : Prop := ∃ xs ys, Two P w C H fl g e c dv xs ys ∧ xs.map kv = ys.map kv ∧ xs.length ≤ n
theorem Slt.keep {n : Nat} {S : List Addr} (h : Slt P w C H n fl g e c dv) (s : Kps S H H') (t : TP H H') (n1 : g ∉ S) (n2 : e ∉ S) (n3 : c ∉ S) : Slt P w C H' n fl g e c dv := let ⟨xs, ys, T, h1, h2⟩ := h; ⟨xs, ys, T.keep s t n1 n2 n3, h1, h2⟩
theorem Slt.same {n : Nat} (h : Slt P w C H n fl g e c dv) (s : Same H H') : Slt P w C H' n fl g e c dv := let ⟨xs, ys, T, h1, h2⟩ := h; ⟨xs, ys, T.same s, h1, h2⟩
theorem Slt.kp {n : Nat} {a : Addr} {zs : List V} (h : Slt P w C H n fl g e c dv) (ha : H a = some (.lst zs)) (s : Kp a H H') : Slt P w C H' n fl g e c dv := let ⟨xs, ys, T, h1, h2⟩ := h; ⟨xs, ys, T.kp ha s, h1, h2⟩
theorem Slt.le {n m : Nat} (h : Slt P w C H n fl g e c dv) (l : n ≤ m) : Slt P w C H m fl g e c dv := let ⟨xs, ys, T, h1, h2⟩ := h; ⟨xs, ys, T, h1, Nat.le_trans h2 l⟩
section
variable {X : Cx}
/-- {}, told by P and w -/
theorem pe_dnewP {pos : Pos} (hP : X.prog = P := by rfl) (hw : X.w = w := by rfl) : PE X (.Dict [] [] pos) (tDNewN P w) := by
  subst hP hw
  exact pe_dnewN
end
/-! ### what a class says of its operators, as a Boolean -/
def ownB (K : PySem.W.Frag) (C : Addr) (nm : Str) : Bool := He.eqO (PySem.W.findIn K (.ref C) nm) (some (some (.ref (He.ma K C nm)))) && (PySem.W.isFn K (.ref (He.ma K C nm)) && PySem.W.fnIn K (He.ma K C nm))
theorem ownB_ok {C : Addr} {nm : Str} (h : ownB K C nm = true) : OP.Own K C nm (He.ma K C nm) := by
  obtain ⟨h1, h⟩ := He.ba h
  obtain ⟨h2, h3⟩ := He.ba h
  exact ⟨He.eqO_ok h1, h2, h3⟩
theorem ownB_call {C : Addr} (h : ownB K C "__call__" = true) : StX.CallO K C (He.ma K C "__call__") := by
  obtain ⟨h1, h⟩ := He.ba h
  obtain ⟨h2, h3⟩ := He.ba h
  exact ⟨He.eqO_ok h1, h2, h3⟩
def notB (K : PySem.W.Frag) (C : Addr) : Bool := ["bool", "NoneType", "int", "str", "tuple"].all fun T => decide (PySem.W.kitOne K (.type T) (.ref C) = some false)
theorem notB_ok {C : Addr} (h : notB K C = true) : ∀ T ∈ ["bool", "NoneType", "int", "str", "tuple"], PySem.W.kitOne K (.type T) (.ref C) = some false := fun T hT => of_decide_eq_true (List.all_eq_true.mp h T hT)
/-- every parameter is given -/
theorem raw0 {mg : Str → Option Value} {base : Heap} {k : Nat} {f : Addr} {fd : FuncData} {ps : List Str} {sp : Sp} (G : FnOk P w K mg base CX0 k f fd ps sp) (b : Binds K fd ps []) : FnR P w K mg base CX0 k f sp :=
  (FnOk.raw G b .nil).imp fun vs H Q E h => by
    rw [List.append_nil]
    exact h
end
end GR
set_option Elab.async false
set_option linter.all false
set_option maxRecDepth 100000
set_option maxHeartbeats 4000000
/-! own == and != of instances, against any value; isinstance of dicts by nested keys -/
namespace OP
open PySem PySem.Spec PyProof.Rows L2 CM DN
inductive TyN (P : Program) (w : World) (K : PySem.W.Frag) (H : Hp) : V → Value → Prop where
  | x {v : V} {t : Value} (h : TyX K H v t) : TyN P w K H v t
  | dct {d : Addr} {xs : List Ent} (h : Dct P w H d xs) : TyN P w K H (.ref d) (.type "dict")
theorem TyN.same {P : Program} {w : World} {K : PySem.W.Frag} {H H' : Hp} {v : V} {t : Value} (h : TyX K H' v t) : TyN P w K H' v t := .x h
section
variable {X : Cx} {CX : CXT} {pins : List (Addr × Obj)} {σ : L2.St} {H : Hp} {s : Shared} {C g : Addr} {k : Nat} {sp : Sp} {E : XK}
theorem kit_ofN {P : Program} {w : World} {x : V} {u t : Value} (I : Inv X pins σ H s) (rx : RelV x u) (ty : TyN P w X.K H x t) (hP : X.prog = P := by rfl) (hw : X.w = w := by rfl) : ∃ Pp : Heap → Prop, PySem.W.KitX X.K u t Pp ∧ Pp s.heap ∧ u ≠ .builtin "__main__.__loader__#opaque" := by
  subst hP hw
  cases ty with
  | x h => exact kit_of I rx h
  | @dct d xs D =>
    cases (show u = Value.ref d from rx)
    obtain ⟨⟨us, _, _, _, _, o, es, ep, h1, h2, _⟩, _⟩ := (show ObjOk X.prog X.w H s.heap d (dn X.prog X.w d xs) from I.hok d _ D.1)
    exact ⟨_, PySem.W.kitx_dict, ⟨o, h1, h2.1⟩, fun z => nomatch z⟩
def rIsiN (P : Program) (w : World) (K : PySem.W.Frag) : List V → Hp → VK → Prop := fun xs H Q => ∃ (x c : V) (t u : Value) (b : Bool), xs = [x, c] ∧ ClsV c u ∧ TyN P w K H x t ∧ PySem.W.kitOne K t u = some b ∧ Q (.bl b) H
theorem call_isiN {P : Program} {w : World} (hP : X.prog = P := by rfl) (hw : X.w = w := by rfl) : CallR X (.builtin "isinstance") (rIsiN P w X.K) := by
  subst hP hw
  intro pins s σ H xs us Q I r h
  obtain ⟨x, c, t, u, b, rfl, k, ty, e, q⟩ := h
  obtain ⟨u1, u2, rfl, r1, r2⟩ := vals2 r
  have e2 := k.eq r2
  subst e2
  obtain ⟨Pp, Z, p, hx⟩ := kit_ofN I r1 ty
  exact PySem.W.kia_one Z I.kIn p e hx fun tk => ⟨.bl b, H, I.tok tk, rfl, q⟩
/-- o == v, o an instance of C, v of any type that is not below C -/
def rEqP (P : Program) (w : World) (K : PySem.W.Frag) (C : Addr) (sp : Sp) (E : XK) : R2 := fun x y H Q => ∃ a dx fs t, x = .ref a ∧ H a = some (.ins C dx fs) ∧ TyN P w K H y t ∧ PySem.W.notFirst K C t = true ∧ sp [x, y] H (fun r H' => ∃ b, r = .bl b ∧ Q (.bl b) H') E
theorem op_eqO {P : Program} {w : World} (o : Own X.K C "__eq__" g) (F : FnR X.prog X.w X.K X.mg X.base CX k g sp) (hr : Room k X.A) (hx : Passes CX X E) (hP : X.prog = P := by rfl) (hw : X.w = w := by rfl) : OpR X (compareOp .Eq) (rEqP P w X.K C sp E) := by
  subst hP hw
  intro pins s σ H x y v u Q I rx ry h
  obtain ⟨a, dx, fs, t, rfl, ha, ty, hn, q⟩ := h
  cases (show v = Value.ref a from rx)
  obtain ⟨ox, od, J, _⟩ := inst_of I ha
  obtain ⟨m, hF⟩ := I.fr
  obtain ⟨Pp, Z, p, _⟩ := kit_ofN I ry ty
  show wpAny _ X.A (richCompare .Eq (.ref a) u) _ _ s
  refine PySem.W.cmp_K (op := .Eq) (tb := t) hr.units0 hF I.ok.mod.kin J (Z.ty _ _ I.kIn p) hn o.at_ o.fn ?_
  refine wpAny_mono (wpAny_call (run_fnR (us := [.ref a, u]) (vs := [.ref a, y]) F hr hx I (.cons rfl (.cons ry .nil)) q)) (fun w s' z => ?_) fun _ _ x => x
  obtain ⟨z', H', I', rz, b, ez, qz⟩ := z
  subst ez
  cases rz
  exact ⟨.bl b, H', I', rfl, qz⟩
/-- the same, K told: for comprehensions -/
theorem op_eqOK {P : Program} {w : World} {K : PySem.W.Frag} (o : Own K C "__eq__" g) (F : FnR P w K X.mg X.base CX k g sp) (hr : Room k X.A) (hx : Passes CX X E) (hK : X.K = K := by rfl) (hP : X.prog = P := by rfl) (hw : X.w = w := by rfl) : OpR X (compareOp .Eq) (rEqP P w K C sp E) := by
  subst hP hw hK
  exact op_eqO o F hr hx
end
/-! ### != by the own == -/
section
variable {prog : Program} {w : World} {A : Around} {E : Value → Shared → Prop} {s : Shared} {K : PySem.W.Frag} {x C L f : Addr} {h₀ : Heap} {m : Str → Option Value} {ox : Obj} {od : Option Obj} {b tb : Value}
theorem ne_slot : Slot "object" "__ne__" "object.__ne__" := .of (owner := "object") (n := "__ne__") (by rw [typeLookup_type, builtinLookup_eq_fast]; kernel_rfl) (by decide +kernel) (by decide +kernel) (by decide +kernel) (.inl (by decide +kernel)) (by rw [isSubtype_type]; kernel_rfl)
theorem ifBound_ne {M : Model} {args : List Value} {Q : Option Value → Shared → Prop} (X : K.In s.heap) (I : PySem.W.InstAt s.heap x ox C od) (hs : PySem.W.findIn K (.ref C) "__ne__" = some (some (.builtin "object.__ne__")))
    (h : wpAny M A (call (.builtin "object.__ne__") (.ref x :: args)) (fun v => Q (some v)) E s) : wpAny M A (callSpecialIfBound? (.ref x) "__ne__" args) Q E s := by
  simp only [callSpecialIfBound?, bindSpecialIfBound?]
  refine wpAny_holding (wpAny_bind (wpAny_bind (wpAny_bind (I.type.here ((PySem.W.looks_findIn X hs).here ?_)))))
  simp only [ne_slot.bind]
  refine wpAny_bind (wpAny_askSetting (wpAny_ite ?_))
  have fin : wpAny M A (call (.builtin "object.__ne__") ([.ref x] ++ args) >>= fun v => pure (some v)) Q E s := wpAny_bind (wpAny_mono h (fun v s' h' => wpAny_pure h') fun _ _ h' => h')
  split
  · exact wpAny_bind (wpAny_pure (wpAny_pure fin))
  · exact wpAny_tryCatch (wpAny_bind (wpAny_pure (wpAny_pure fin)))
theorem entry_ne {Q : Fin → Shared → Prop} (X : K.In s.heap) (I : PySem.W.InstAt s.heap x ox C od) (hs : PySem.W.findIn K (.ref C) "__eq__" = some (some (.ref f))) (hf : PySem.W.isFn K (.ref f) = true) (hu : A.units < cLine)
    (hcall : wpAny (model prog w) A (call (.ref f) [.ref x, b]) (fun v s' => ∃ c, v = .bool c ∧ Q (.done (.ret (.bool (!c)))) s') E s) : wpAny (model prog w) A (Builtin.«object.__ne__» ⟨[.ref x, b], []⟩) Q E s := by
  unfold Builtin.«object.__ne__»
  repeat (first
    | with_reducible refine wpAny_cRoomFor hu ?_
    | (refine wpAny_bind (m := callSpecialIfBound? (.ref x) (Str.ofString "__eq__") [b])
        (PySem.W.ifBound_K X I hs hf (wpAny_mono hcall (fun r s' hr => by
          obtain ⟨c, rfl, hq⟩ := hr
          repeat (first | exact hq | exact wpAny_pure hq | exact wpAny_truthy_bool hq | (refine wpAny_bind (m := truthy (.bool _)) (wpAny_truthy_bool ?_)) | wp_step)) fun _ _ e => e)))
    | wp_step)
theorem cmp_ne {Q : Value → Shared → Prop} (hu : A.units + 1 < cLine) (F : PyProof.Rows.Fr h₀ L s.heap m) (X₀ : K.In h₀) (I : PySem.W.InstAt s.heap x ox C od) (hb : PySem.W.Looks (model prog w) s.heap (typeOf b) tb) (hn : PySem.W.notFirst K C tb = true)
    (hs : PySem.W.findIn K (.ref C) "__eq__" = some (some (.ref f))) (hf : PySem.W.isFn K (.ref f) = true) (hne : PySem.W.findIn K (.ref C) "__ne__" = some (some (.builtin "object.__ne__"))) (hm : PySem.W.mroIn K C (.type "object") = some true)
    (h : wpAny (model prog w) A.in1 (call (.ref f) [.ref x, b]) (fun v s' => ∃ c, v = .bool c ∧ Q (.bool (!c)) s') E s) : wpAny (model prog w) A (richCompare .NotEq (.ref x) b) Q E s := by
  have X := X₀.keeps F.keep
  have hu1 : A.in1.units < cLine := by
    have : A.in1.units = A.units + 1 := rfl
    omega
  have one : wpAny (model prog w) A (tryCompare (.ref x) "__ne__" b) (fun r s' => ∃ v, r = some v ∧ Q v s') E s := by
    unfold tryCompare
    refine wpAny_bind (ifBound_ne X I hne (wpAny_call (codeAny_call_builtin ne_slot.plain PySem.F.cmpEntry_ne (PySem.W.check_slot PySem.F.cmpKind_ne PySem.F.cmpSplit_ne (I.type.andThen (PySem.W.looks_mroIn X hm)) (PySem.F.cmpArgs_ne _ _)
      (entry_ne X I hs hf hu1 (wpAny_mono h (fun v s' hv => ?_) fun _ _ e => e))))))
    obtain ⟨c, rfl, hq⟩ := hv
    first | exact ⟨c, rfl, wpAny_pure ⟨_, rfl, hq⟩⟩ | exact ⟨c, rfl, wpAny_pure (wpAny_pure ⟨_, rfl, hq⟩)⟩
  unfold richCompare
  simp only [oneThing_ref]
  refine wpAny_holding (wpAny_bind (wpAny_cRoomFor (Nat.lt_of_succ_lt hu) ?_))
  refine wpAny_bind (I.type.here (wpAny_bind (hb.here ?_)))
  split
  · rename_i q
    have e : PySem.W.subIn K tb (.ref C) = some false := by
      rcases Bool.or_eq_true_iff.mp hn with e | e
      · rw [beq_iff_eq.mp e] at q; simp at q
      · exact beq_iff_eq.mp e
    refine wpAny_bind ((PySem.W.looks_subIn X e).here ?_)
    simp only [Bool.false_eq_true, if_false]
    refine wpAny_bind (wpAny_mono one (fun r s' z => ?_) fun _ _ e => e)
    obtain ⟨v, rfl, hq⟩ := z
    exact wpAny_pure hq
  · refine wpAny_bind (wpAny_pure ?_)
    simp only [Bool.false_eq_true, if_false]
    refine wpAny_bind (wpAny_mono one (fun r s' z => ?_) fun _ _ e => e)
    obtain ⟨v, rfl, hq⟩ := z
    exact wpAny_pure hq
end
section
variable {X : Cx} {CX : CXT} {pins : List (Addr × Obj)} {σ : L2.St} {H : Hp} {s : Shared} {C g : Addr} {k : Nat} {sp : Sp} {E : XK}
structure OwnNe (K : PySem.W.Frag) (C : Addr) : Prop where
  ne : PySem.W.findIn K (.ref C) "__ne__" = some (some (.builtin "object.__ne__"))
  mr : PySem.W.mroIn K C (.type "object") = some true
def rNeP (P : Program) (w : World) (K : PySem.W.Frag) (C : Addr) (sp : Sp) (E : XK) : R2 := fun x y H Q => ∃ a dx fs t, x = .ref a ∧ H a = some (.ins C dx fs) ∧ TyN P w K H y t ∧ PySem.W.notFirst K C t = true ∧ sp [x, y] H (fun r H' => ∃ b, r = .bl b ∧ Q (.bl (!b)) H') E
theorem op_neO {P : Program} {w : World} (o : Own X.K C "__eq__" g) (n : OwnNe X.K C) (F : FnR X.prog X.w X.K X.mg X.base CX k g sp) (hr : Room (k + 1) X.A) (hx : Passes CX X E) (hP : X.prog = P := by rfl) (hw : X.w = w := by rfl) : OpR X (compareOp .NotEq) (rNeP P w X.K C sp E) := by
  subst hP hw
  intro pins s σ H x y v u Q I rx ry h
  obtain ⟨a, dx, fs, t, rfl, ha, ty, hn, q⟩ := h
  cases (show v = Value.ref a from rx)
  obtain ⟨ox, od, J, _⟩ := inst_of I ha
  obtain ⟨m, hF⟩ := I.fr
  obtain ⟨Pp, Z, p, _⟩ := kit_ofN I ry ty
  show wpAny _ X.A (richCompare .NotEq (.ref a) u) _ _ s
  refine cmp_ne (tb := t) (by have := hr.units; omega) hF I.ok.mod.kin J (Z.ty _ _ I.kIn p) hn o.at_ o.fn n.ne n.mr ?_
  refine wpAny_mono (run_own1 (us := [u]) (vs := [y]) F hr hx I (.cons ry .nil) q) (fun w s' z => ?_) fun _ _ x => x
  obtain ⟨z', H', I', rz, b, ez, qz⟩ := z
  subst ez
  cases rz
  exact ⟨b, rfl, .bl (!b), H', I', rfl, qz⟩
end
end OP
namespace DN
open PySem PySem.Spec PyProof.Rows L2 CM
section
variable {X : Cx}
/-- d[k] -/
def rIxN (P : Program) (w : World) : R2 := fun x y H Q => ∃ (d a : Addr) (es : List Ent) (k : NK) (v : V), x = .ref d ∧ y = .ref a ∧ Dct P w H d es ∧ KeyV H k (.ref a) ∧ k.depth ≤ 8 ∧ at_ es k = some v ∧ Q v H
theorem ix_dctN {P : Program} {w : World} (hu : X.A.units + 40 < cLine) (hP : X.prog = P := by rfl) (hw : X.w = w := by rfl) : IxR X (rIxN P w) := by
  subst hP hw
  intro value slice pins s σ H x y v u Q I rx ry h hs
  obtain ⟨d, a, es, k, r, rfl, rfl, D, hk, hd, e, q⟩ := h
  cases (show v = Value.ref d from rx)
  cases (show u = Value.ref a from ry)
  obtain ⟨zs, m, p, hl, hsm⟩ := D.keyed I.hok
  obtain ⟨q', e2, rr⟩ := at_some p e
  exact tail_any m.typeIs slot_dict_getitem.lookup (wpAny_getItem_heap (room_in hu) (key_is I hk hd) m e2 ⟨r, H, I.tok _, rr, q⟩) hs
end
end DN
set_option Elab.async false
set_option linter.all false
set_option maxRecDepth 100000
set_option maxHeartbeats 4000000
/-! dicts by nested keys as maps: what is read behind a store, which are equal -/
namespace GR
open PySem PySem.Spec PyProof.Rows L2 CM RZ DN
def ks (xs : List Ent) : List NK := xs.map (·.1)
theorem at_cons {x : Ent} {xs : List Ent} {k : NK} : at_ (x :: xs) k = if x.1 = k then some x.2.2 else at_ xs k := by
  unfold at_
  rw [List.find?_cons]
  by_cases h : x.1 = k
  · rw [decide_eq_true h, if_pos h]
    rfl
  · rw [decide_eq_false h, if_neg h]
theorem at_nil {k : NK} : at_ [] k = none := rfl
theorem at_isSome {xs : List Ent} {k : NK} : (at_ xs k).isSome = true ↔ k ∈ ks xs := by
  induction xs with
  | nil => simp [at_nil, ks]
  | cons x r ih =>
    rw [at_cons]
    show _ ↔ k ∈ x.1 :: ks r
    rw [List.mem_cons]
    by_cases h : x.1 = k
    · rw [if_pos h]
      exact ⟨fun _ => .inl h.symm, fun _ => rfl⟩
    · rw [if_neg h, ih]
      exact ⟨.inr, fun z => z.elim (fun e => absurd e.symm h) id⟩
theorem at_none_iff {xs : List Ent} {k : NK} : at_ xs k = none ↔ k ∉ ks xs := by
  rw [← at_isSome]
  cases at_ xs k <;> simp
theorem at_mem_nd {xs : List Ent} (nd : (ks xs).Nodup) {x : Ent} (h : x ∈ xs) : at_ xs x.1 = some x.2.2 := by
  induction xs with
  | nil => cases h
  | cons y r ih =>
    have nd2 : (y.1 :: ks r).Nodup := nd
    rw [List.nodup_cons] at nd2
    rw [at_cons]
    rcases List.mem_cons.mp h with rfl | h
    · rw [if_pos rfl]
    · by_cases e : y.1 = x.1
      · exact absurd (List.mem_map.mpr ⟨x, h, e.symm⟩) nd2.1
      · rw [if_neg e]
        exact ih nd2.2 h
theorem at_append {xs ys : List Ent} {k : NK} : at_ (xs ++ ys) k = (at_ xs k).or (at_ ys k) := by
  induction xs with
  | nil => rfl
  | cons x r ih =>
    rw [List.cons_append, at_cons, at_cons, ih]
    split <;> rfl
theorem at_put {xs : List Ent} {k j : NK} {a : Addr} {v : V} : at_ (putE xs k a v) j = if j = k then some v else at_ xs j := by
  unfold putE
  by_cases h : (at_ xs k).isSome = true
  · rw [if_pos h]
    have g : ∀ zs : List Ent, at_ (zs.map fun x => if x.1 = k then (x.1, x.2.1, v) else x) j = if j = k then (if k ∈ ks zs then some v else none) else at_ zs j := by
      intro zs
      induction zs with
      | nil => simp [at_nil, ks]
      | cons z r ih =>
        rw [List.map_cons, at_cons, ih, at_cons]
        show _ = if j = k then (if k ∈ z.1 :: ks r then some v else none) else _
        by_cases e : z.1 = k
        · rw [if_pos e]
          by_cases e2 : j = k
          · subst e2
            simp [e]
          · have e3 : ¬ z.1 = j := fun q => e2 (q.symm.trans e)
            simp [e2, e3]
        · rw [if_neg e]
          by_cases e2 : j = k
          · subst e2
            simp [e, Ne.symm e]
          · simp [e2]
    rw [g]
    split
    · rw [if_pos (at_isSome.mp h)]
    · rfl
  · rw [if_neg h, at_append, at_cons, at_nil]
    by_cases e : j = k
    · subst e
      have n : at_ xs j = none := by
        cases q : at_ xs j with
        | none => rfl
        | some u => rw [q] at h; exact absurd rfl h
      rw [n]
      simp
    · have e3 : ¬ k = j := fun q => e q.symm
      simp [e, e3]
theorem at_drop {xs : List Ent} {k j : NK} : at_ (dropE xs k) j = if j = k then none else at_ xs j := by
  unfold dropE
  induction xs with
  | nil => simp [at_nil]
  | cons x r ih =>
    rw [List.filter_cons]
    by_cases e : x.1 = k
    · rw [decide_eq_false (fun n => n e), if_neg Bool.false_ne_true, ih, at_cons]
      by_cases e2 : j = k
      · simp [e2]
      · have e3 : ¬ x.1 = j := fun q => e2 (q.symm.trans e)
        simp [e2, e3]
    · rw [decide_eq_true e, if_pos rfl, at_cons, ih, at_cons]
      by_cases e2 : j = k
      · subst e2
        simp [e]
      · simp [e2]
theorem nd_put {xs : List Ent} (nd : (ks xs).Nodup) (k : NK) (a : Addr) (v : V) : (ks (putE xs k a v)).Nodup := by
  unfold putE
  by_cases h : (at_ xs k).isSome = true
  · rw [if_pos h]
    have e : ks (xs.map fun x => if x.1 = k then (x.1, x.2.1, v) else x) = ks xs := by
      unfold ks
      rw [List.map_map]
      refine List.map_congr_left fun x _ => ?_
      show (if x.1 = k then (x.1, x.2.1, v) else x).1 = x.1
      split <;> rfl
    rw [e]
    exact nd
  · rw [if_neg h]
    unfold ks
    rw [List.map_append]
    refine List.nodup_append.mpr ⟨nd, by simp, fun x hx y hy e => ?_⟩
    have ey : y = k := by simpa using hy
    rw [e, ey] at hx
    exact h (at_isSome.mpr hx)
theorem nd_drop {xs : List Ent} (nd : (ks xs).Nodup) (k : NK) : (ks (dropE xs k)).Nodup := by
  unfold ks dropE
  exact List.Nodup.sublist (List.Sublist.map _ (List.filter_sublist ..)) nd
theorem len_sub {α : Type} [DecidableEq α] : ∀ {l m : List α}, l.Nodup → (∀ x ∈ l, x ∈ m) → l.length ≤ m.length
  | [], m, _, _ => Nat.zero_le _
  | a :: l, m, nd, h => by
    rw [List.nodup_cons] at nd
    have ha := h a (List.mem_cons_self ..)
    have := len_sub (l := l) (m := m.erase a) nd.2 fun x hx => (List.mem_erase_of_ne (fun e => nd.1 (by rw [← e]; exact hx))).mpr (h x (List.mem_cons_of_mem _ hx))
    rw [List.length_erase_of_mem ha] at this
    have hp : 0 < m.length := List.length_pos_of_mem ha
    rw [List.length_cons]
    omega
theorem ks_len {xs : List Ent} : (ks xs).length = xs.length := List.length_map ..
/-- no more entries than the other, if all keys stand there -/
theorem len_le {xs ys : List Ent} (nx : (ks xs).Nodup) (h : ∀ k, at_ ys k = none → at_ xs k = none) : xs.length ≤ ys.length := by
  rw [← ks_len, ← ks_len]
  refine len_sub nx fun k hk => ?_
  cases e : at_ ys k with
  | none =>
    have := h k e
    rw [at_none_iff] at this
    exact absurd hk this
  | some v => exact at_isSome.mp (by rw [e]; rfl)
theorem len_eq {xs ys : List Ent} (nx : (ks xs).Nodup) (ny : (ks ys).Nodup) (h : ∀ k, at_ xs k = at_ ys k) : xs.length = ys.length :=
  Nat.le_antisymm (len_le nx fun k e => by rw [h]; exact e) (len_le ny fun k e => by rw [← h]; exact e)
theorem eqv_fl {v : V} (h : fl4 v = true) : PyData.eqv (flD v) (flD v) = true := by
  cases v <;> first | (simp [flD, PyData.eqv]; done) | (cases h; done) | simp [fl4] at h
theorem eqE_true {xs ys : List Ent} (nx : (ks xs).Nodup) (ny : (ks ys).Nodup) (h : ∀ k, at_ xs k = at_ ys k) (f : ∀ x ∈ xs, fl4 x.2.2 = true) : eqE xs ys = true := by
  unfold eqE
  rw [Bool.and_eq_true, beq_iff_eq, List.all_eq_true]
  refine ⟨len_eq nx ny h, fun x hx => ?_⟩
  unfold hitE
  rw [← h, at_mem_nd nx hx]
  exact eqv_fl (f x hx)
theorem eqE_len {xs ys : List Ent} (h : xs.length ≠ ys.length) : eqE xs ys = false := by
  unfold eqE
  rw [show (xs.length == ys.length) = false from by simpa using h]
  rfl
theorem ks_kv {xs ys : List Ent} (h : xs.map kv = ys.map kv) : ks xs = ks ys := by
  have e : ∀ zs : List Ent, ks zs = (zs.map kv).map (·.1) := fun zs => by
    unfold ks
    rw [List.map_map]
    rfl
  rw [e, e, h]
theorem len_drop_lt {xs : List Ent} {k : NK} {u : V} (h : at_ xs k = some u) : (dropE xs k).length < xs.length := by
  obtain ⟨x, hx, e⟩ := List.mem_map.mp (at_isSome.mp (by rw [h]; rfl) : k ∈ ks xs)
  unfold dropE
  refine Nat.lt_of_le_of_ne (List.length_filter_le _ _) fun q => ?_
  have := (List.filter_eq_self.mp (List.Sublist.eq_of_length (List.filter_sublist ..) q)) x hx
  exact absurd e (of_decide_eq_true this)
theorem len_put_new {xs : List Ent} {k : NK} {a : Addr} {v : V} (h : at_ xs k = none) : (putE xs k a v).length = xs.length + 1 := by
  unfold putE
  rw [h, if_neg (by simp), List.length_append, List.length_singleton]
end GR
set_option Elab.async false
set_option linter.all false
set_option maxRecDepth 100000
set_option maxHeartbeats 4000000
/-! repr of data with dicts in it -/
namespace SY
open PySem PySem.Spec PyProof.Rows L2 CM
def keyD : L2.Key → PyData
  | .inl i => .int i
  | .inr z => .str z
mutual
inductive SayD (H : Hp) : V → PyData → Prop
  | non : SayD H .non .none
  | bl (b : Bool) : SayD H (.bl b) (.bool b)
  | int (i : Int) : SayD H (.int i) (.int i)
  | str (z : Str) : SayD H (.str z) (.str z)
  | lst {a : Addr} {xs : List V} {ds : List PyData} : H a = some (.lst xs) → SayAll H xs ds → SayD H (.ref a) (.list ds)
  | tup {a : Addr} {xs : List V} {ds : List PyData} : H a = some (.tup xs) → SayAll H xs ds → SayD H (.ref a) (.tuple ds)
  | dct {a : Addr} {kvs : List (L2.Key × V)} {ds : List (PyData × PyData)} : H a = some (.dK kvs) → SayKv H kvs ds → SayD H (.ref a) (.dict ds)
inductive SayAll (H : Hp) : List V → List PyData → Prop
  | nil : SayAll H [] []
  | cons {v : V} {vs : List V} {d : PyData} {ds : List PyData} : SayD H v d → SayAll H vs ds → SayAll H (v :: vs) (d :: ds)
inductive SayKv (H : Hp) : List (L2.Key × V) → List (PyData × PyData) → Prop
  | nil : SayKv H [] []
  | cons {k : L2.Key} {v : V} {r : List (L2.Key × V)} {d : PyData} {ds : List (PyData × PyData)} : SayD H v d → SayKv H r ds → SayKv H ((k, v) :: r) ((keyD k, d) :: ds)
end
/-- all that is told but the tables stays -/
def Stay (H H' : Hp) : Prop := ∀ b o, H b = some o → (∀ ps, o ≠ .tbl ps) → H' b = some o
mutual
theorem SayD.stay {H H' : Hp} (s : Stay H H') : ∀ {v : V} {d : PyData}, SayD H v d → SayD H' v d
  | _, _, .non => .non
  | _, _, .bl b => .bl b
  | _, _, .int i => .int i
  | _, _, .str z => .str z
  | _, _, .lst e h => .lst (s _ _ e fun _ z => by cases z) (h.stay s)
  | _, _, .tup e h => .tup (s _ _ e fun _ z => by cases z) (h.stay s)
  | _, _, .dct e h => .dct (s _ _ e fun _ z => by cases z) (h.stay s)
theorem SayAll.stay {H H' : Hp} (s : Stay H H') : ∀ {vs : List V} {ds : List PyData}, SayAll H vs ds → SayAll H' vs ds
  | _, _, .nil => .nil
  | _, _, .cons h t => .cons (h.stay s) (t.stay s)
theorem SayKv.stay {H H' : Hp} (s : Stay H H') : ∀ {vs : List (L2.Key × V)} {ds : List (PyData × PyData)}, SayKv H vs ds → SayKv H' vs ds
  | _, _, .nil => .nil
  | _, _, .cons h t => .cons (h.stay s) (t.stay s)
end
mutual
theorem SayD.reads {P : Program} {w : World} {H : Hp} {h : Heap} (ok : HOk P w H h) : ∀ {v : V} {d : PyData}, SayD H v d → ∀ {u : Value}, RelV v u → ∃ as, Reads h u d as ∧ ∀ x ∈ as, ∃ o, H x = some o
  | _, _, .non, u, r => by
    obtain rfl : u = Value.none := r
    exact ⟨_, .none, fun _ z => by cases z⟩
  | _, _, .bl b, u, r => by
    obtain rfl : u = Value.bool b := r
    exact ⟨_, .bool b, fun _ z => by cases z⟩
  | _, _, .int i, u, r => by
    obtain ⟨t, rfl⟩ := r
    exact ⟨_, .int i t, fun _ z => by cases z⟩
  | _, _, .str z, u, r => by
    obtain ⟨t, rfl⟩ := r
    exact ⟨_, .str z t, fun _ z => by cases z⟩
  | _, _, .lst (a := a) e hs, u, r => by
    obtain rfl : u = Value.ref a := r
    obtain ⟨_, its, n, rv, g⟩ := (show ObjOk P w H h a (.lst _) from ok a _ e)
    obtain ⟨as, ra, al⟩ := hs.reads ok rv
    refine ⟨_, .list g rfl rfl (by simpa using ra), fun x hx => ?_⟩
    rcases List.mem_cons.mp hx with rfl | hx
    · exact ⟨_, e⟩
    · exact al x hx
  | _, _, .tup (a := a) e hs, u, r => by
    obtain rfl : u = Value.ref a := r
    obtain ⟨_, its, rv, o, g, hc, n, hd⟩ := (show ObjOk P w H h a (.tup _) from ok a _ e)
    obtain ⟨as, ra, al⟩ := hs.reads ok rv
    exact ⟨_, .tuple g hc hd (by simpa using ra), al⟩
  | _, _, .dct (a := a) e hs, u, r => by
    obtain rfl : u = Value.ref a := r
    obtain ⟨_, _, vs, kv, o, es, ep, g, hc, hd1, _, he, _⟩ := (show ObjOk P w H h a (.dK _) from ok a _ e)
    obtain ⟨as, bs, ra, rb, eas, al⟩ := hs.reads ok kv he
    refine ⟨_, .dict g hc.1 hd1 ra rb, fun x hx => ?_⟩
    rw [eas] at hx
    rcases List.mem_cons.mp hx with rfl | hx
    · exact ⟨_, e⟩
    · exact al x (by simpa using hx)
theorem SayAll.reads {P : Program} {w : World} {H : Hp} {h : Heap} (ok : HOk P w H h) : ∀ {vs : List V} {ds : List PyData}, SayAll H vs ds → ∀ {us : List Value}, Vals vs us → ∃ as, ReadsAll h us ds as ∧ ∀ x ∈ as, ∃ o, H x = some o
  | _, _, .nil, _, .nil => ⟨_, .nil, fun _ z => by cases z⟩
  | _, _, .cons h1 t1, _, .cons r1 r2 => by
    obtain ⟨a1, e1, l1⟩ := h1.reads ok r1
    obtain ⟨a2, e2, l2⟩ := t1.reads ok r2
    exact ⟨_, .cons e1 e2, fun x hx => (List.mem_append.mp hx).elim (l1 x) (l2 x)⟩
theorem SayKv.reads {P : Program} {w : World} {H : Hp} {h : Heap} (ok : HOk P w H h) : ∀ {kvs : List (L2.Key × V)} {ds : List (PyData × PyData)}, SayKv H kvs ds → ∀ {vs : List (L2.Key × Value)} {es : List DictEntry}, KV kvs vs → Pairs (mixKind P w) es vs →
    ∃ as bs, ReadsAll h (es.map (·.key)) (ds.map (·.1)) as ∧ ReadsAll h (es.map (·.val)) (ds.map (·.2)) bs ∧ as = [] ∧ ∀ x ∈ bs, ∃ o, H x = some o
  | _, _, .nil, _, _, .nil, .nil => ⟨_, _, .nil, .nil, rfl, fun _ z => by cases z⟩
  | _, _, .cons (k := kk) h1 t1, _, _, .cons ⟨e1, r1⟩ r2, .cons (e := e) k1 k2 k3 => by
    obtain ⟨as, bs, ra, rb, ea, al⟩ := t1.reads ok r2 k3
    obtain ⟨b1, q1, l1⟩ := h1.reads ok r1
    subst ea
    refine ⟨[] ++ [], b1 ++ bs, ?_, ?_, rfl, fun x hx => (List.mem_append.mp hx).elim (l1 x) (al x)⟩
    · refine .cons ?_ ra
      rcases keyIs_shape k1 with ⟨i, t, ek, ev⟩ | ⟨x, t, ek, ev⟩
      · show Reads h e.key (keyD _) []
        rw [ev, show kk = Sum.inl i from e1.trans ek]
        exact .int i t
      · show Reads h e.key (keyD _) []
        rw [ev, show kk = Sum.inr x from e1.trans ek]
        exact .str x t
    · refine .cons ?_ rb
      show Reads h e.val _ b1
      rw [k2]
      exact q1
end
section
variable {X : Cx}
theorem sys_none {pins : List (Addr × Obj)} {σ : L2.St} {H : Hp} {s : Shared} (hs : (X.K.lookup sysModules).isSome = true) (I : Inv X pins σ H s) : H sysModules = none := by
  obtain ⟨o, ho⟩ := Option.isSome_iff_exists.mp hs
  exact (I.bs _ _ (I.mod.kin _ _ ho)).2
/-- repr(x) -/
def rReprE : List V → Hp → VK → Prop := fun xs H Q => ∃ v d, xs = [v] ∧ SayD H v d ∧ d.showable = true ∧ d.depth ≤ 80 ∧ d.shown.length ≤ sizeLine ∧ Q (.str d.shown) H
theorem call_reprE (hy : (X.K.lookup sysModules).isSome = true) (gd : X.A.guards = some []) (hu : X.A.units + 90 < cLine) : CallR X (.builtin "repr") rReprE := by
  intro pins s σ H xs us Q I r h
  obtain ⟨v, d, rfl, hs, hz, hd, hl, q⟩ := h
  obtain ⟨u, rfl, ru⟩ := r.one
  obtain ⟨as, ra, al⟩ := hs.reads I.hok ru
  have hsm : d.hasDict = true → sysModules ∉ as := fun _ m => by
    obtain ⟨o, ho⟩ := al _ m
    rw [sys_none hy I] at ho
    cases ho
  have fin : ∀ h' uu tk, (∀ b o, s.heap.get? b = some o → h'.get? b = some o) → EP X pins σ Q (.str d.shown uu) { s with heap := h', toks := tk } := fun h' uu tk k => ⟨.str d.shown, H, I.kept k, ⟨_, rfl⟩, q⟩
  cases ra with
  | none =>
    simp only [PyData.shown] at fin
    exact PySem.P.repr_of_none (fin s.heap _ _ fun _ _ e => e)
  | bool b =>
    simp only [PyData.shown] at fin
    exact PySem.P.repr_of_bool (fin s.heap _ _ fun _ _ e => e)
  | int i t =>
    simp only [PyData.shown] at fin
    exact PySem.P.repr_of_int (by simpa [PyData.showable] using hz) (fin s.heap _ _ fun _ _ e => e)
  | str x t =>
    simp only [PyData.shown] at fin
    exact PySem.P.repr_of_str (fin s.heap _ _ fun _ _ e => e) (by simpa only [PyData.shown] using hl)
  | list h1 h2 h3 h4 => exact repr_of_reads' (.list h1 h2 h3 h4) hz hsm gd (by omega) (fun _ _ e => e) (fun h' uu tk k => fin h' uu tk k) hl
  | tuple h1 h2 h3 h4 => exact repr_of_reads' (.tuple h1 h2 h3 h4) hz hsm gd (by omega) (fun _ _ e => e) (fun h' uu tk k => fin h' uu tk k) hl
  | dict h1 h2 h3 h4 h5 => exact repr_of_reads' (.dict h1 h2 h3 h4 h5) hz hsm gd (by omega) (fun _ _ e => e) (fun h' uu tk k => fin h' uu tk k) hl
end
section
variable {P : Program} {w : World} {K : PySem.W.Frag} {mg : Str → Option Value} {base : Heap} {CX : CXT} {k : Nat} {fd : FuncData} {ps : List Str} {sp : Sp} {x qual : Str} {params : Arguments} {body : List Stmt} {scope : Scope} {dvs : List V} {kws : List (Str × V)}
/-- a def whose code object is told, called where no repr runs -/
theorem okCG {N : List Str} {p : He.Defn} (F : FunD K x qual params body scope dvs kws (He.fAd K p) fd) (S : FnScope N ps scope) (len : ∀ vs H Q E, sp vs H Q E → vs.length = ps.length)
    (hbody : ∀ (A : Around) (outer : List Env) (s : Shared) (H : Hp) (vs : List V) (Q : VK) (E : XK), Room k (A.deeper (envOfC qual scope s.heap.objs.size (He.fAd K p) (.ref (He.codeOf K p)))) → A.guards = some [] → sp vs H Q E →
      ∃ t, PSs (cxOf CX P w K mg base N qual scope (He.fAd K p) (.ref (He.codeOf K p)) A outer s H E) body t ∧ t { nx := fun _ H' => Q .non H', rt := Q } (L2.start N vs) H) : GD.FnG P w K mg base CX (k + 1) (He.fAd K p) fd ps sp := by
  obtain ⟨oc, od, dV, kV, doc, pm, an, cdv, ct, osl, rfl, lk, hcd, _, _⟩ := F.ex
  obtain ⟨c, rfl⟩ := He.codeIn_ref hcd
  have e : He.codeOf K p = c := He.codeOf_eq lk rfl
  rw [e] at hbody
  refine ⟨len, fun A outer s0 H args us vs Q E room gd e0 bt rv asked => ?_⟩
  have old : ∀ b o, base.get? b = some o → s0.heap.get? b = some o := fun b o e => (e0.bs b o e).1
  refine codeAny_call_function room.depth (e0.mod.kin.keeps old _ _ lk) rfl S.co S.gen rfl (PySem.W.codeRec_of (e0.mod.kin.keeps old) hcd) (bt _ _ _ _ (wpAny_newFunctionEnv_cells S.kind (fun y hy => ?_) fun env he t x => ?_))
  · exact (S.par y.1 (List.of_mem_zip (show (y.1, y.2) ∈ ps.zip us from hy)).1).elim .inl fun q => .inr ⟨q, PySem.W.cellsFrom_some _ _ _ (.inl q)⟩
  · subst he
    obtain ⟨tt, ht, rd⟩ := hbody A outer s0 H vs Q E (room.deeper _) gd asked
    have J : Inv (cxOf CX P w K mg base N qual scope (He.fAd K p) (.ref c) A outer s0 H E) [] (L2.start N vs) H t := inv_start S room.hd e0 (len _ _ _ _ asked) rv x
    refine ⟨(e0.mod.nolimit.keeps old).keeps x.toInCall.keep, codeAny_func (wpAny_mono (ht.run [] t (L2.start N vs) H _ J rd) (fun fl t2 got => ?_) fun _ _ got => got)⟩
    cases fl with
    | ret u => obtain ⟨v, σ2, H2, J2, r2, q2⟩ := got; exact ⟨v, H2, J2.os, J2.bare, J2.base, J2.hok, r2, q2⟩
    | next => obtain ⟨σ2, H2, J2, q2⟩ := got; exact ⟨V.non, H2, J2.os, J2.bare, J2.base, J2.hok, rfl, q2⟩
    | brk =>
      obtain ⟨_, _, _, z⟩ := got
      exact False.elim z
    | cont =>
      obtain ⟨_, _, _, z⟩ := got
      exact False.elim z
end
end SY
set_option Elab.async false
set_option linter.all false
set_option maxRecDepth 100000
set_option maxHeartbeats 4000000
/-! readings that do not name the context: for use inside of a lambda -/
namespace CPL
open PySem PySem.Spec PyProof.Rows L2 CM
def tCallP (C : Addr) (sp : Sp) (E : XK) (tf : TE) (t : TA) : TE := fun σ H Q => tf σ H fun y H1 => ∃ a, y = V.ref a ∧ t σ H1 fun vs H2 => ((∃ dx vs, SlX.Slt H2 a C dx vs) ∨ ∃ dx fs, H2 a = some (.ins C dx fs)) ∧ sp (V.ref a :: vs) H2 Q E
section
variable {X : Cx} {CX : CXT} {k : Nat} {C g : Addr} {sp : Sp} {E : XK} {fe e : Expr} {es : List Expr} {pos : Pos} {tf : TE} {t : TA}
/-- o(..), o an instance of a class with __call__ -/
theorem pe_callP (hf : PE X fe tf) (c : StX.CallO X.K C g) (F : FnR X.prog X.w X.K X.mg X.base CX k g sp) (hr : Room k X.A) (hx : Passes CX X E) (ha : PA X (e :: es) t)
    (ht : eval (.Call fe (e :: es) [] pos) X.env = (do callWith pos (← eval fe X.env) [] (backTo pos (starEach (e :: es) X.env)) (backToKw pos (keywordEach [] X.env))) := by rfl)
    (he : starEach (e :: es) X.env = (false, eval e X.env) :: starEach es X.env := by rfl) (hpl : (backTo pos (starEach es X.env)).any (·.1) = false := by rfl) : PE X (.Call fe (e :: es) [] pos) (tCallP C sp E tf t) :=
  StX.pe_callO hf c F hr hx ha ht he hpl
end
end CPL
set_option Elab.async false
set_option linter.all false
set_option maxRecDepth 100000
set_option maxHeartbeats 4000000
/-! values that are called: functions made in a def, held in attributes, called from anywhere -/
namespace CLO
open PySem PySem.Spec PyProof.Rows L2 CM
/-- at f stands a function (true), or an instance that may be called -/
def Callee (h : Heap) (f : Addr) : Bool → Prop
  | true => PySem.W.FnAt f h
  | false => ∃ C ox od, PySem.W.InstAt h f ox C od ∧ ox.data = .plain
/-- what is promised of f(vs) in the heap H -/
def CallsTo (P : Program) (w : World) (K : PySem.W.Frag) (mg : Str → Option Value) (base : Heap) (CX : CXT) (n : Nat) (b : Bool) (f : Addr) (vs : List V) (H : Hp) (Q : VK) (E : XK) : Prop :=
  ∀ (A : Around) (outer : List Env) (s : Shared) (us : List Value), Room n A → Env0 P w K mg base A outer s H → Vals vs us →
    Callee s.heap f b ∧ wpAny (model P w) A (call (.ref f) us) (fun u s' => CE outer P w H s Q u s') (fun e s' => CX outer H s E e s') s
/-- the object at f is known to be a function -/
def Fnk (H : Hp) (f : Addr) : Prop := ∃ φ, H f = some (.ext φ) ∧ ∀ h, φ h → PySem.W.FnAt f h
theorem Fnk.at_ {P : Program} {w : World} {H : Hp} {h : Heap} {f : Addr} (hok : HOk P w H h) (k : Fnk H f) : PySem.W.FnAt f h := by
  obtain ⟨φ, e, q⟩ := k
  exact q h (hok f _ e).1
section
variable {P : Program} {w : World} {K : PySem.W.Frag} {mg : Str → Option Value} {base : Heap} {CX : CXT} {n m : Nat} {b : Bool} {f : Addr} {vs : List V} {H : Hp} {Q : VK} {E : XK}
theorem CallsTo.mono (c : CallsTo P w K mg base CX n b f vs H Q E) (h : n ≤ m) : CallsTo P w K mg base CX m b f vs H Q E := fun A outer s us hr => c A outer s us (hr.mono h)
/-- an instance whose class has __call__ -/
theorem own_calls {C dx g : Addr} {fs : List (Str × V)} {sp : Sp} (c : StX.CallO K C g) (F : FnR P w K mg base CX n g sp) (e : H f = some (.ins C dx fs)) (q : sp (.ref f :: vs) H Q E) : CallsTo P w K mg base CX n false f vs H Q E := by
  intro A outer s us hr e0 r
  obtain ⟨mA, O, _⟩ := ins_get e0.hok e
  obtain ⟨od, J, _⟩ := O.look
  have KX : K.In s.heap := e0.mod.kin.keeps fun b o z => (e0.bs b o z).1
  refine ⟨⟨C, _, _, J, rfl⟩, wpAny_call (PySem.W.kco_code KX J rfl c.at_ c.fn c.fi ?_)⟩
  refine codeAny_mono (F A outer s H (.ref f :: us) (.ref f :: vs) Q E hr e0 (.cons rfl r) q) fun z s' hq => ?_
  cases z with
  | error e => exact hq
  | ok fl => cases fl with
    | ret u => exact hq
    | next => exact hq
    | brk => exact hq
    | cont => exact hq
end
section
variable {X : Cx} {pins : List (Addr × Obj)} {σ : L2.St} {H : Hp} {s : Shared} {A : Around} {Ex : Value → Shared → Prop} {a C dx : Addr} {fs : List (Str × V)} {CX : CXT} {E : XK}
theorem run_calls {n : Nat} {b : Bool} {f : Addr} {us : List Value} {vs : List V} {Q : VK} (c : CallsTo X.prog X.w X.K X.mg X.base CX n b f vs H Q E) (hr : Room n X.A) (hx : Passes CX X E) (I : Inv X pins σ H s) (r : Vals vs us) :
    Callee s.heap f b ∧ wpAny (model X.prog X.w) X.A (call (.ref f) us) (EP X pins σ Q) X.xe s := by
  obtain ⟨h1, h2⟩ := c X.A X.stack s us hr I.env0 r
  exact ⟨h1, wpAny_mono h2 (fun u s' q => I.after q) fun e s' q => hx pins σ H s e s' I q⟩
theorem getfn_ok {m : Str} {f : Addr} {pl : Sem Bool} {Q : Value × List Value → Shared → Prop} (I : Inv X pins σ H s) (e : H a = some (.ins C dx fs)) (c : Cls X.K C) (n : NoAttr X.K C m) (l : fs.lookup m = some (.ref f))
    (h : ∀ s', Inv X pins σ H s' → Q (.ref f, []) s') : wpAny (model X.prog X.w) A (getMethod (.ref a) m pl) Q Ex s := by
  obtain ⟨mA, O, _⟩ := ins_get I.hok e
  obtain ⟨od, J, _⟩ := O.look
  refine PySem.W.method_usual (r := none) I.kIn J (PySem.W.plainGet_of (c.get m)).1 (PySem.W.plainGet_of (c.get m)).2 n rfl ?_
  refine getattr_ok I e c n l fun u s' I' ru => ?_
  obtain rfl : u = Value.ref f := ru
  exact h s' I'
theorem with_callee {b : Bool} {f : Addr} {pos : Pos} {env : Env} {e : Expr} {rest : List Expr} {Q : Value → Shared → Prop} {M : Model} (h0 : b = true → PySem.W.FnAt f s.heap)
    (h : wpAny M A (spliced (backTo pos (starEach (e :: rest) env))) (fun vs s₁ => Callee s₁.heap f b ∧ wpAny M A (call (.ref f) vs) Q Ex s₁) Ex s)
    (he : starEach (e :: rest) env = (false, eval e env) :: starEach rest env) (hpl : (backTo pos (starEach rest env)).any (·.1) = false) : wpAny M A (callWith pos (.ref f) [] (backTo pos (starEach (e :: rest) env)) []) Q Ex s := by
  cases b with
  | true => exact PySem.W.callWith_F (first := []) (h0 rfl) h he hpl
  | false => exact StX.callO_with h he hpl
end
/-- o.f(..), f an attribute of o that holds something to be called -/
def tFCall (P : Program) (w : World) (K : PySem.W.Frag) (mg : Str → Option Value) (base : Heap) (CX : CXT) (n : Nat) (m : Str) (E : XK) (ta : TE) (t : TA) : TE := fun σ H Q => ta σ H fun x H1 => ∃ a C dx fs f b, x = .ref a ∧ H1 a = some (.ins C dx fs) ∧ Cls K C ∧ NoAttr K C m ∧ fs.lookup m = some (.ref f) ∧
  (b = true → Fnk H1 f) ∧ t σ H1 fun vs H2 => CallsTo P w K mg base CX n b f vs H2 Q E
/-- g(..), g an expression that gives something to be called -/
def tVCall (P : Program) (w : World) (K : PySem.W.Frag) (mg : Str → Option Value) (base : Heap) (CX : CXT) (n : Nat) (E : XK) (tf : TE) (t : TA) : TE := fun σ H Q => tf σ H fun x H1 => ∃ f b, x = .ref f ∧ (b = true → Fnk H1 f) ∧ t σ H1 fun vs H2 => CallsTo P w K mg base CX n b f vs H2 Q E
section
variable {X : Cx} {P : Program} {w : World} {K : PySem.W.Frag} {mg : Str → Option Value} {base : Heap} {CX : CXT} {n : Nat} {E : XK} {o e fe : Expr} {es : List Expr} {m : Str} {pos apos : Pos} {ta tf : TE} {t : TA} {pl : Sem Bool}
theorem pe_fcall (he : PE X o ta) (hr : Room n X.A) (hx : Passes CX X E) (ha : PA X (e :: es) t)
    (hst : starEach (e :: es) X.env = (false, eval e X.env) :: starEach es X.env := by rfl) (hpl : (backTo pos (starEach es X.env)).any (·.1) = false := by rfl)
    (ht : eval (.Call (.Attribute o m apos) (e :: es) [] pos) X.env = (do
      let ov ← eval o X.env
      standAt apos.atName
      let (f, first) ← holding [ov] (getMethod ov m pl)
      callWith pos f first (backTo pos (starEach (e :: es) X.env)) (backToKw pos (keywordEach [] X.env))) := by rfl)
    (h1 : X.prog = P := by rfl) (h2 : X.w = w := by rfl) (h3 : X.K = K := by rfl) (h4 : X.mg = mg := by rfl) (h5 : X.base = base := by rfl) :
    PE X (.Call (.Attribute o m apos) (e :: es) [] pos) (tFCall P w K mg base CX n m E ta t) := by
  subst h1 h2 h3 h4 h5
  refine ⟨fun pins s σ H Q I h => ?_⟩
  refine PySem.W.methodCall_KW (pl := pl) (thn (he.run pins s σ H _ I h) fun u s1 ⟨x, H1, I1, rx, a, C, dx, fs, f, b, ex, ea, c, n, l, hb, q⟩ => ?_) ht
  subst ex
  obtain rfl : u = Value.ref a := rx
  refine getfn_ok I1 ea c n l fun s1' I1' => ?_
  refine with_callee (b := b) (fun z => (hb z).at_ I1'.hok) (thn (ha.run pos pins s1' σ H1 _ I1' q) fun us s2 ⟨vs, H2, I2, r, q2⟩ => ?_) hst hpl
  exact run_calls q2 hr hx I2 r
theorem pe_vcall (hf : PE X fe tf) (hr : Room n X.A) (hx : Passes CX X E) (ha : PA X (e :: es) t)
    (ht : eval (.Call fe (e :: es) [] pos) X.env = (do callWith pos (← eval fe X.env) [] (backTo pos (starEach (e :: es) X.env)) (backToKw pos (keywordEach [] X.env))) := by rfl)
    (hst : starEach (e :: es) X.env = (false, eval e X.env) :: starEach es X.env := by rfl) (hpl : (backTo pos (starEach es X.env)).any (·.1) = false := by rfl)
    (h1 : X.prog = P := by rfl) (h2 : X.w = w := by rfl) (h3 : X.K = K := by rfl) (h4 : X.mg = mg := by rfl) (h5 : X.base = base := by rfl) :
    PE X (.Call fe (e :: es) [] pos) (tVCall P w K mg base CX n E tf t) := by
  subst h1 h2 h3 h4 h5
  refine ⟨fun pins s σ H Q I h => ?_⟩
  refine Call_ (thn (hf.run pins s σ H _ I h) fun u s1 ⟨x, H1, I1, rx, f, b, ex, hb, q⟩ => ?_) ht
  subst ex
  obtain rfl : u = Value.ref f := rx
  refine with_callee (b := b) (fun z => (hb z).at_ I1.hok) (thn (ha.run pos pins s1 σ H1 _ I1 q) fun us s2 ⟨vs, H2, I2, r, q2⟩ => ?_) hst hpl
  exact run_calls q2 hr hx I2 r
end
end CLO
set_option Elab.async false
set_option linter.all false
set_option maxRecDepth 100000
set_option maxHeartbeats 4000000
/-! functions made in a def and kept: lambdas as values, what their cells hold behind the def's end -/
namespace CLO
open PySem PySem.Spec PyProof.Rows L2 CM LamX NdefX
/-! ### a method of an instance, whatever its class -/
def RunsTo (P : Program) (w : World) (K : PySem.W.Frag) (mg : Str → Option Value) (base : Heap) (CX : CXT) (n : Nat) (f : Addr) (vs : List V) (H : Hp) (Q : VK) (E : XK) : Prop := ∃ (sp : Sp) (Q0 : VK), FnR P w K mg base CX n f sp ∧ sp vs H Q0 E ∧ ∀ v H', Q0 v H' → Q v H'
section
variable {P : Program} {w : World} {K : PySem.W.Frag} {mg : Str → Option Value} {base : Heap} {CX : CXT} {n m : Nat} {f : Addr} {vs : List V} {H : Hp} {Q Q' : VK} {E : XK} {sp : Sp}
theorem RunsTo.mk (F : FnR P w K mg base CX n f sp) (q : sp vs H Q E) : RunsTo P w K mg base CX n f vs H Q E := ⟨sp, Q, F, q, fun _ _ z => z⟩
theorem RunsTo.imp (c : RunsTo P w K mg base CX n f vs H Q E) (h : ∀ v H', Q v H' → Q' v H') : RunsTo P w K mg base CX n f vs H Q' E := let ⟨sp, Q0, F, q, hQ⟩ := c; ⟨sp, Q0, F, q, fun v H' z => h v H' (hQ v H' z)⟩
theorem RunsTo.mono (c : RunsTo P w K mg base CX n f vs H Q E) (h : n ≤ m) : RunsTo P w K mg base CX m f vs H Q E := let ⟨sp, Q0, F, q, hQ⟩ := c; ⟨sp, Q0, F.mono h, q, hQ⟩
theorem CallsTo.imp {b : Bool} (c : CallsTo P w K mg base CX n b f vs H Q E) (h : ∀ v H', Q v H' → Q' v H') : CallsTo P w K mg base CX n b f vs H Q' E := fun A outer s us hr e0 r =>
  let ⟨h1, h2⟩ := c A outer s us hr e0 r
  ⟨h1, wpAny_mono h2 (fun u s' ⟨v, H', o1, o2, o3, o4, o5, q⟩ => ⟨v, H', o1, o2, o3, o4, o5, h v H' q⟩) fun _ _ z => z⟩
end
def tMethV (P : Program) (w : World) (K : PySem.W.Frag) (mg : Str → Option Value) (base : Heap) (CX : CXT) (n : Nat) (m : Str) (E : XK) (ta : TE) (t : TA) : TE := fun σ H Q => ta σ H fun x H1 => ∃ a C dx fs f, x = .ref a ∧ H1 a = some (.ins C dx fs) ∧ fs.lookup m = none ∧ Cls K C ∧ Meth K C m f ∧
  t σ H1 fun vs H2 => RunsTo P w K mg base CX n f (.ref a :: vs) H2 Q E
section
variable {X : Cx} {P : Program} {w : World} {K : PySem.W.Frag} {mg : Str → Option Value} {base : Heap} {CX : CXT} {n : Nat} {E : XK} {o e fe : Expr} {es : List Expr} {m : Str} {pos apos : Pos} {ta tf : TE} {t : TA} {pl : Sem Bool}
theorem run_runs {pins : List (Addr × Obj)} {σ : L2.St} {H : Hp} {s : Shared} {Q : VK} {f : Addr} {us : List Value} {vs : List V} (c : RunsTo X.prog X.w X.K X.mg X.base CX n f vs H Q E) (hr : Room n X.A) (hx : Passes CX X E) (I : Inv X pins σ H s) (r : Vals vs us) :
    wpAny (model X.prog X.w) X.A (call (.ref f) us) (EP X pins σ Q) X.xe s := by
  obtain ⟨sp, Q0, F, q, hQ⟩ := c
  exact wpAny_mono (wpAny_call (run_fnR F hr hx I r q)) (fun _ _ ⟨v, H', J, rv, z⟩ => ⟨v, H', J, rv, hQ v H' z⟩) fun _ _ z => z
theorem pe_methV (he : PE X o ta) (hr : Room n X.A) (hx : Passes CX X E) (ha : PA X (e :: es) t)
    (hst : starEach (e :: es) X.env = (false, eval e X.env) :: starEach es X.env := by rfl) (hpl : (backTo pos (starEach es X.env)).any (·.1) = false := by rfl)
    (ht : eval (.Call (.Attribute o m apos) (e :: es) [] pos) X.env = (do
      let ov ← eval o X.env
      standAt apos.atName
      let (f, first) ← holding [ov] (getMethod ov m pl)
      callWith pos f first (backTo pos (starEach (e :: es) X.env)) (backToKw pos (keywordEach [] X.env))) := by rfl)
    (h1 : X.prog = P := by rfl) (h2 : X.w = w := by rfl) (h3 : X.K = K := by rfl) (h4 : X.mg = mg := by rfl) (h5 : X.base = base := by rfl) :
    PE X (.Call (.Attribute o m apos) (e :: es) [] pos) (tMethV P w K mg base CX n m E ta t) := by
  subst h1 h2 h3 h4 h5
  refine ⟨fun pins s σ H Q I h => ?_⟩
  refine PySem.W.methodCall_KW (pl := pl) (thn (he.run pins s σ H _ I h) fun u s1 ⟨x, H1, I1, rx, a, C, dx, fs, f, ex, ea, l, c, hm, q⟩ => ?_) ht
  subst ex
  obtain rfl : u = Value.ref a := rx
  refine getmeth_ok I1 ea c hm l ?_
  refine PySem.W.callWith_K (first := [.ref a]) (h₀ := X.base) I.ok.mod.kin hm.kp (thn (ha.run pos pins s1 σ H1 _ I1 q) fun us s2 ⟨vs, H2, I2, r, q2⟩ => ⟨I2.kIn, ?_⟩) hst hpl
  exact run_runs (us := .ref a :: us) (vs := .ref a :: vs) q2 hr hx I2 (.cons rfl r)
end
/-! ### a lambda as a value -/
/-- the object at f is the lambda: F tells all but its body -/
def LamO (f : Addr) (F : NF) (b : Expr) : HO := .ext fun h => ∃ pm ctv : Value, h.get? f = some (PySem.W.kla_obj "<lambda>" F.qual F.params b F.scope F.cl pm F.c ctv)
theorem lamO_ne {f : Addr} {F : NF} {b : Expr} (ps : Array Value) : LamO f F b ≠ .tbl ps := fun z => by
  unfold LamO at z
  cases z
theorem lamO_fnk {H : Hp} {f : Addr} {F : NF} {b : Expr} (e : H f = some (LamO f F b)) : Fnk H f := ⟨_, e, fun h ⟨pm, ctv, z⟩ => ⟨_, _, _, _, z⟩⟩
theorem fnO_fnk {H : Hp} {f : Addr} {F : NF} (e : H f = some (FnO f F)) : Fnk H f := ⟨_, e, fun h ⟨od, sl, d, p, t, z⟩ => ⟨_, od, _, sl, z⟩⟩
abbrev lamF (X : Cx) (params : Arguments) (scope : Scope) (c' : Addr) : NF := ⟨"<lambda>", X.env.qual ++ "<lambda>", params, [], scope, cloFrom X.env.cells scope.names [], c'⟩
section
variable {X : Cx} {pins : List (Addr × Obj)} {σ : L2.St} {H : Hp} {s : Shared}
theorem inv_lam {F : NF} {b : Expr} {t' : Nat} {pm ctv : Value} (I : Inv X pins σ H s) :
    Inv X pins σ (upd H s.heap.objs.size (LamO s.heap.objs.size F b)) { s with heap := s.heap.push (PySem.W.kla_obj "<lambda>" F.qual F.params b F.scope F.cl pm F.c ctv), toks := t' } := by
  refine I.laid (a := s.heap.objs.size) (fun b u e => Heap.get?_push_of_some _ e) (Nat.le_refl _) ?_
  have e : (s.heap.push (PySem.W.kla_obj "<lambda>" F.qual F.params b F.scope F.cl pm F.c ctv)).get? s.heap.objs.size = some (PySem.W.kla_obj "<lambda>" F.qual F.params b F.scope F.cl pm F.c ctv) := Heap.get?_push_size _ rfl
  exact ⟨⟨pm, ctv, e⟩, ⟨_, e⟩, fun h1 h2 ⟨p, t, z⟩ st => ⟨p, t, st _ z⟩⟩
theorem lam_make3 {T : List (Addr × Str)} {c P : Addr} {params : Arguments} {body : Expr} {scope : Scope} {pos : Pos} {E Q : Value → Shared → Prop} (I : Inv X pins σ H s) (TB : TabB X.base X.mg c P) (hcode : X.env.code = .ref c)
    (hm : (P, X.env.qual ++ "<lambda>") ∈ T) (hu : ∀ p ∈ T, p.1 = P → p.2 = X.env.qual ++ "<lambda>") (hT : Tabs T H) (hdef : defaultsOf params X.env = ([], [])) (hfree : ∀ y ∈ scope.names, y.2 = .free → ∃ c, X.env.cells.lookup y.1 = some c)
    (h : ∀ (f c' : Addr) (H1 : Hp) (s' : Shared), Inv X pins σ H1 s' → ExtN H H1 → (∀ b, H1 b = Option.none → H b = Option.none) → Tabs T H1 → H f = Option.none → H1 f = some (LamO f (lamF X params scope c') body) → H1 c' = some (CodeO c' (X.env.qual ++ "<lambda>")) → Q (.ref f) s') :
    wpAny (model X.prog X.w) X.A (eval (.Lambda params body scope pos) X.env) Q E s := by
  obtain ⟨ps, hP, ht, ha⟩ := hT _ hm
  refine PySem.W.kla_eval hdef ?_
  have bP : s.heap.BuiltinsAt X.mg P := TB.bm.keeps I.bk
  have hP' : s.heap.get? P = some { cls := .none, data := .fields ps } := I.hok P _ hP
  cases hc : codeAmong pos ps.toList with
  | none =>
    refine PySem.W.kla_makeFunction (mg := X.mg) (c := c) (P := P) (ps := ps) (closure_ok hfree) I.ok.glob (I.mod.glob.keeps I.bk) hcode
      (TB.code.keeps I.bk) hP' ht hc TB.gP bP fun c' ctv h' tk hx hge hlt hrec htb => ?_
    obtain ⟨_, oc, vs, t, e2, hoc, hd, hv⟩ := hrec
    cases e2
    have nC : H c' = Option.none := I.hok.fresh hge
    have I1 := inv_table (t' := tk) (more := #[rawInt pos.line, rawInt pos.col, .ref c']) (h' := h') I hP hx htb hge ⟨oc, vs, t, hoc, hd, hv⟩
    have hE : ExtN H (upd (upd H P (.tbl (ps ++ #[rawInt pos.line, rawInt pos.col, .ref c']))) c' (CodeO c' (X.env.qual ++ "<lambda>"))) := fun b o e nt => by
      have bP : b ≠ P := fun z => nt ps (Option.some.inj (e.symm.trans (by rw [z]; exact hP)))
      rw [upd_ne (ne_of_none e nC), upd_ne bP]
      exact e
    have eL : (ps ++ #[rawInt pos.line, rawInt pos.col, .ref c']).toList = ps.toList ++ [rawInt pos.line, rawInt pos.col, .ref c'] := by simp
    have T1 : Tabs T (upd (upd H P (.tbl (ps ++ #[rawInt pos.line, rawInt pos.col, .ref c']))) c' (CodeO c' (X.env.qual ++ "<lambda>"))) := fun p hp => by
      by_cases hb : p.1 = P
      · rw [hu p hp hb, hb]
        refine ⟨_, by rw [upd_ne (ne_of_none hP nC), upd_same], by rw [eL]; exact PySem.TriplesOk_snoc _ _ _ _ ht, fun p' cv hcv => ?_⟩
        rw [eL] at hcv
        rcases among_app _ ht hcv with z | z
        · obtain ⟨c0, q1, q2⟩ := ha p' cv z
          exact ⟨c0, q1, hE _ _ q2 codeO_ne⟩
        · exact ⟨c', z, upd_same⟩
      · obtain ⟨ps', q1, q2, q3⟩ := hT p hp
        refine ⟨ps', ?_, q2, fun p' cv hcv => ?_⟩
        · rw [upd_ne (ne_of_none q1 nC), upd_ne hb]
          exact q1
        · obtain ⟨c0, r1, r2⟩ := q3 p' cv hcv
          exact ⟨c0, r1, hE _ _ r2 codeO_ne⟩
    have nF := I1.hok.fresh (Nat.le_refl _)
    have I2 := inv_lam (F := lamF X params scope c') (b := body) (t' := tk) (pm := (X.mg "__name__").getD .none) (ctv := ctv) I1
    refine h h'.objs.size c' _ _ I2 (fun b o e nt => ?_) (fun b e => upd_none (upd_none (upd_none e))) (T1.ext fun b o e => ?_) (I.hok.fresh (Nat.le_trans hge (Nat.le_of_lt hlt))) upd_same ?_
    · exact (upd_ne (ne_of_none (hE b o e nt) nF)).trans (hE b o e nt)
    · exact (upd_ne (ne_of_none e nF)).trans e
    · exact (upd_ne (Nat.ne_of_lt hlt)).trans upd_same
  | some cv =>
    obtain ⟨c', e, hco⟩ := ha pos cv hc
    subst e
    refine PySem.W.kla_makeFunctionHit (mg := X.mg) (c := c) (P := P) (ps := ps) (closure_ok hfree) I.ok.glob (I.mod.glob.keeps I.bk) hcode
      (TB.code.keeps I.bk) hP' ht hc bP fun ctv h' tk hx hsz => ?_
    have I1 : Inv X pins σ H { s with heap := h', toks := tk } := I.kept hx
    have nF : H h'.objs.size = Option.none := I1.hok.fresh (Nat.le_refl _)
    have I2 := inv_lam (F := lamF X params scope c') (b := body) (t' := tk) (pm := (X.mg "__name__").getD .none) (ctv := ctv) I1
    refine h h'.objs.size c' _ _ I2 (fun b o e nt => ?_) (fun b e => upd_none e) (hT.ext fun b o e => ?_) nF upd_same ?_
    · exact (upd_ne (ne_of_none e nF)).trans e
    · exact (upd_ne (ne_of_none e nF)).trans e
    · exact (upd_ne (ne_of_none hco nF)).trans hco
end
/-- the reading of «lambda ..: ..»: a new function object; b the body -/
def tLamV (T : List (Addr × Str)) (mk : Addr → NF) (b : Expr) : TE := fun σ H Q => Tabs T H ∧ ∀ (f c' : Addr) (H1 : Hp), ExtN H H1 → (∀ b, H1 b = Option.none → H b = Option.none) → Tabs T H1 → H f = Option.none → H1 f = some (LamO f (mk c') b) → H1 c' = some (CodeO c' (mk c').qual) → Q (.ref f) H1
theorem pe_lamV {X : Cx} {T : List (Addr × Str)} {c P : Addr} {params : Arguments} {body : Expr} {scope : Scope} {pos : Pos} {mk : Addr → NF} (TB : TabB X.base X.mg c P) (hcode : X.env.code = .ref c) (hm : (P, X.env.qual ++ "<lambda>") ∈ T) (hu : ∀ p ∈ T, p.1 = P → p.2 = X.env.qual ++ "<lambda>")
    (hdef : defaultsOf params X.env = ([], []) := by rfl) (hfree : ∀ y ∈ scope.names, y.2 = .free → X.env.scope.names.lookup y.1 = some .cell ∨ X.env.scope.names.lookup y.1 = some .free) (hmk : mk = lamF X params scope := by rfl) : PE X (.Lambda params body scope pos) (tLamV T mk body) := by
  refine ⟨fun pins s σ H Q I h => ?_⟩
  obtain ⟨hT, h⟩ := h
  subst hmk
  refine lam_make3 I TB hcode hm hu hT hdef (fun y hy e => (hfree y hy e).elim (fun z => I.ok.has _ (.inl z)) fun z => I.ok.has _ (.inr z)) fun f c' H1 s' I1 eN nn T1 f0 f1 c1 => ?_
  exact ⟨.ref f, H1, I1, rfl, h f c' H1 eN nn T1 f0 f1 c1⟩
end CLO
set_option Elab.async false
set_option linter.all false
set_option maxRecDepth 100000
set_option maxHeartbeats 4000000
/-! a lambda is called: its cells stand in the heap, frozen -/
namespace CLO
open PySem PySem.Spec PyProof.Rows L2 CM LamX NdefX
/-- a cell that nobody writes any more -/
def CelO (ob : Obj) : HO := .frz ob (.ext fun _ => True)
def CelAt (H : Hp) (c : Addr) (v : V) : Prop := ∃ (ob : Obj) (u : Value), H c = some (CelO ob) ∧ ob.data = .cell (some u) ∧ RelV v u
def hide (H : Hp) (cl : List (Str × Addr)) : Hp := fun b => if b ∈ cl.map (·.2) then Option.none else H b
def back (H : Hp) (cl : List (Str × Addr)) (H' : Hp) : Hp := fun b => if b ∈ cl.map (·.2) then H b else H' b
/-- all its cells are frozen -/
def Cels (H : Hp) (cl : List (Str × Addr)) : Prop := ∀ p ∈ cl, ∃ (ob : Obj) (v : Option Value), H p.2 = some (CelO ob) ∧ ob.data = .cell v
section
variable {H H' : Hp} {cl : List (Str × Addr)} {a b : Addr} {o : HO}
theorem hide_in (h : b ∈ cl.map (·.2)) : hide H cl b = Option.none := if_pos h
theorem hide_out (h : b ∉ cl.map (·.2)) : hide H cl b = H b := if_neg h
theorem back_in (h : b ∈ cl.map (·.2)) : back H cl H' b = H b := if_pos h
theorem back_out (h : b ∉ cl.map (·.2)) : back H cl H' b = H' b := if_neg h
theorem back_hide : back H cl (hide H cl) = H := by
  funext b
  by_cases h : b ∈ cl.map (·.2)
  · rw [back_in h]
  · rw [back_out h, hide_out h]
theorem hide_nil : hide H [] = H := by
  funext b
  exact hide_out (by simp)
theorem back_nil : back H [] H' = H' := by
  funext b
  exact back_out (by simp)
theorem Cels.out (C : Cels H cl) (e : H b = some o) (n : ∀ ob, o ≠ CelO ob) : b ∉ cl.map (·.2) := fun hb => by
  obtain ⟨p, hp, rfl⟩ := List.mem_map.mp hb
  obtain ⟨ob, v, h1, _⟩ := C p hp
  exact n ob (Option.some.inj (e.symm.trans h1))
theorem Cels.keep (C : Cels H cl) (e : H b = some o) (n : ∀ ob, o ≠ CelO ob) : hide H cl b = some o := (hide_out (C.out e n)).trans e
theorem hide_sub : Same (hide H cl) H := fun b o e => by
  by_cases h : b ∈ cl.map (·.2)
  · rw [hide_in h] at e
    cases e
  · rw [hide_out h] at e
    exact e
theorem same_back (s : Same (hide H cl) H') : Same H (back H cl H') := fun b o e => by
  by_cases h : b ∈ cl.map (·.2)
  · rw [back_in h]
    exact e
  · rw [back_out h]
    exact s b o (by rw [hide_out h]; exact e)
theorem ext_back (s : ExtN (hide H cl) H') : ExtN H (back H cl H') := fun b o e n => by
  by_cases h : b ∈ cl.map (·.2)
  · rw [back_in h]
    exact e
  · rw [back_out h]
    exact s b o (by rw [hide_out h]; exact e) n
theorem kp_back (s : Kp a (hide H cl) H') : Kp a H (back H cl H') := fun b o n e => by
  by_cases h : b ∈ cl.map (·.2)
  · rw [back_in h]
    exact e
  · rw [back_out h]
    exact s b o n (by rw [hide_out h]; exact e)
theorem at_back (e : H' b = some o) (h : b ∉ cl.map (·.2)) : back H cl H' b = some o := (back_out h).trans e
end
section
variable {P : Program} {w : World} {K : PySem.W.Frag} {mg : Str → Option Value} {base : Heap} {H H1 : Hp} {h h1 : Heap} {cl : List (Str × Addr)} {A : Around} {outer : List Env} {s s' : Shared} {Q : VK} {u : Value}
theorem hok_hide (ok : HOk P w H h) (C : Cels H cl) : HOk P w (hide H cl) h := fun a o e => by
  have e' := hide_sub _ _ e
  refine (ok a o e').stay (fun b q _ z => z) (fun b q => C.keep q fun ob z => ?_) fun b xs q => C.keep q fun ob z => ?_
  · unfold CelO at z
    cases z
  · unfold CelO at z
    cases z
theorem env_hide (e0 : Env0 P w K mg base A outer s H) (C : Cels H cl) : Env0 P w K mg base A outer s (hide H cl) := by
  refine ⟨e0.frames, e0.mod, fun b o e => ⟨(e0.bs b o e).1, ?_⟩, e0.bsz, e0.funs, fun b hb => ?_, hok_hide e0.hok C, e0.bare⟩
  · by_cases q : b ∈ cl.map (·.2)
    · exact hide_in q
    · rw [hide_out q]
      exact (e0.bs b o e).2
  · by_cases q : b ∈ cl.map (·.2)
    · exact hide_in q
    · rw [hide_out q]
      exact e0.frf b hb
/-- behind a call in the hidden heap -/
theorem ce_back (e0 : Env0 P w K mg base A outer s H) (C : Cels H cl) (c : CE outer P w (hide H cl) s (fun v H' => (∀ b ∈ cl.map (·.2), H' b = Option.none) → Q v (back H cl H')) u s') : CE outer P w H s Q u s' := by
  obtain ⟨v, H1, os, bare, un, hok, r, q⟩ := c
  have cell : ∀ b ∈ cl.map (·.2), ∃ ob, H b = some (CelO ob) ∧ s.heap.get? b = some ob ∧ s'.heap.get? b = some ob ∧ H1 b = Option.none := fun b hb => by
    obtain ⟨p, hp, rfl⟩ := List.mem_map.mp hb
    obtain ⟨ob, v, h1, _⟩ := C p hp
    have g : s.heap.get? p.2 = some ob := (e0.hok p.2 _ h1).1
    have nf : p.2 ∉ frs outer := fun z => by
      have := e0.frf p.2 z
      rw [h1] at this
      cases this
    exact ⟨ob, h1, g, un.keep _ _ g (hide_in hb) nf (by simp), un.free _ _ g (hide_in hb) (by simp)⟩
  have q := q fun b hb => let ⟨_, _, _, _, z⟩ := cell b hb; z
  refine ⟨v, back H cl H1, os, bare, ⟨fun b o e n => ?_, fun b o e n => ?_, fun b o e n => ?_, un.there, fun b xs e => ?_, fun b o z e => ?_, fun b ps e => ?_⟩, fun b o e => ?_, r, q⟩
  · refine un.keep b o e ?_
    by_cases hb : b ∈ cl.map (·.2)
    · exact hide_in hb
    · rw [hide_out hb]
      exact n
  · refine un.slot b o e ?_
    by_cases hb : b ∈ cl.map (·.2)
    · exact hide_in hb
    · rw [hide_out hb]
      exact n
  · intro nx
    have hb : b ∉ cl.map (·.2) := fun hb => by
      obtain ⟨ob, h1, _⟩ := cell b hb
      rw [n] at h1
      cases h1
    rw [back_out hb]
    exact un.free b o e (by rw [hide_out hb]; exact n) nx
  · have hb := C.out e fun ob z => by
      unfold CelO at z
      cases z
    rw [back_out hb]
    exact un.tups b xs (by rw [hide_out hb]; exact e)
  · by_cases hb : b ∈ cl.map (·.2)
    · rw [back_in hb]
      exact e
    · rw [back_out hb]
      exact un.frzs b o z (by rw [hide_out hb]; exact e)
  · have hb := C.out e fun ob z => by
      unfold CelO at z
      cases z
    rw [back_out hb]
    exact un.tbls b ps (by rw [hide_out hb]; exact e)
  · by_cases hb : b ∈ cl.map (·.2)
    · rw [back_in hb] at e
      obtain ⟨ob, h1, g, g', _⟩ := cell b hb
      rw [e] at h1
      cases h1
      exact ⟨g', True.intro, ⟨ob, g'⟩, fun _ _ _ _ => True.intro⟩
    · rw [back_out hb] at e
      refine (hok b o e).stay (fun c q _ z => z) (fun c z => ?_) fun c xs z => ?_
      · rw [back_out fun hc => ?_]
        · exact z
        · obtain ⟨_, _, _, _, n⟩ := cell c hc
          rw [z] at n
          cases n
      · rw [back_out fun hc => ?_]
        · exact z
        · obtain ⟨_, _, _, _, n⟩ := cell c hc
          rw [z] at n
          cases n
end
/-- a lambda that is known, with what its cells hold -/
structure Clo (H : Hp) (f : Addr) (F : NF) (b : Expr) (fr : List Str) (ws : List V) : Prop where
  fn : H f = some (LamO f F b)
  co : H F.c = some (CodeO F.c F.qual)
  cels : Cels H F.cl
  inj : ∀ x y c, F.cl.lookup x = some c → F.cl.lookup y = some c → x = y
  len : ws.length = fr.length
  has : ∀ (i : Nat) (y : Str), fr[i]? = some y → ∃ c v, F.cl.lookup y = some c ∧ ws[i]? = some v ∧ CelAt H c v
theorem Clo.ext {H H' : Hp} {f : Addr} {F : NF} {b : Expr} {fr : List Str} {ws : List V} (C : Clo H f F b fr ws) (s : ExtN H H') : Clo H' f F b fr ws := by
  refine ⟨s _ _ C.fn fun ps => lamO_ne ps, s _ _ C.co fun ps => codeO_ne ps, fun p hp => ?_, C.inj, C.len, fun i y hi => ?_⟩
  · obtain ⟨ob, v, h1, h2⟩ := C.cels p hp
    exact ⟨ob, v, s _ _ h1 (fun ps z => by unfold CelO at z; cases z), h2⟩
  · obtain ⟨c, v, h1, h2, ob, u, h3, h4⟩ := C.has i y hi
    exact ⟨c, v, h1, h2, ob, u, s _ _ h3 (fun ps z => by unfold CelO at z; cases z), h4⟩
section
variable {P : Program} {w : World} {K : PySem.W.Frag} {mg : Str → Option Value} {base : Heap} {N ps fr : List Str} {F : NF} {f : Addr} {k : Nat} {b : Expr} {H : Hp} {ws vs : List V} {Q : VK} {E : XK}
theorem lam_calls (S : NScope N ps fr F.scope) (C : Clo H f F b fr ws) (hl : vs.length = ps.length)
    (hb : ∀ (pm ctv : Value) (us : List Value), us.length = ps.length → bindArgs (PySem.W.kla_fn "<lambda>" F.qual F.params b F.scope F.cl pm (.ref F.c) ctv) ⟨us, []⟩ = pure (ps.zip us))
    (hbody : ∀ (A : Around) (outer : List Env) (s : Shared), Room k (A.deeper (envF F f s.heap.objs.size)) →
      ∃ t, PE (ncx C8.CX0 P w K mg base N F f A outer s (hide H F.cl) E) b t ∧ t (startF N vs (ws.map some)) (hide H F.cl) (fun v H' => (∀ b ∈ F.cl.map (·.2), H' b = Option.none) → Q v (back H F.cl H'))) :
    CallsTo P w K mg base C8.CX0 (k + 1) true f vs H Q E := by
  intro A outer s us hr e0 r
  obtain ⟨pm, ctv, ho⟩ := (e0.hok f _ C.fn).1
  refine ⟨⟨_, _, _, _, ho⟩, wpAny_call ?_⟩
  have e1 := env_hide e0 C.cels
  have lim : s.heap.NoLimit := e0.mod.nolimit.keeps fun b o e => (e0.bs b o e).1
  have CA : CellsAt F.cl fr (ws.map some) s.heap (hide H F.cl) := by
    refine ⟨by rw [List.length_map]; exact C.len, fun y c e => ?_, C.inj, fun i y hi => ?_⟩
    · have hp := PySem.mem_of_lookup e
      obtain ⟨ob, v, h1, h2⟩ := C.cels _ hp
      exact ⟨hide_in (List.mem_map.mpr ⟨_, hp, rfl⟩), v, ob, (e0.hok c _ h1).1, h2⟩
    · obtain ⟨c, v, h1, h2, ob, u, h3, h4, h5⟩ := C.has i y hi
      refine ⟨c, h1, fun v' ev => ?_⟩
      rw [List.getElem?_map, h2] at ev
      cases ev
      exact ⟨u, h5, ob, (e0.hok c _ h3).1, h4⟩
  refine PySem.W.kla_callFunE hr.depth ho rfl S.co S.gen rfl (codeO_at e0.hok C.co) ?_
  rw [hb pm ctv us (by rw [← r.length]; exact hl)]
  refine wpAny_pure (wpAny_newFunctionEnv S.nocell (fun ⟨n, _⟩ hy => S.par n (List.of_mem_zip hy).1) (fun h₁ hns hsb => ⟨lim.fresh _ hsb, ?_⟩) S.kind)
  show codeAny _ _ (.expr b (envF F f s.heap.objs.size)) _ _
  have kp : ∀ b o, s.heap.get? b = some o → h₁.get? b = some o := fun b o e => hsb.extBut b o (Nat.ne_of_lt (Heap.lt_size e)) (Heap.get?_push_of_some _ e)
  obtain ⟨t, ht, hq⟩ := hbody A outer s (hr.deeper _)
  have J : Inv (ncx C8.CX0 P w K mg base N F f A outer s (hide H F.cl) E) [] (startF N vs (ws.map some)) (hide H F.cl) { s with heap := h₁, toks := s.toks + (ps.zip us).length } := inv_startN S hr.hd e1 hl r CA hns kp
  refine PySem.W.kla_codeExpr (wpAny_mono (ht.run [] _ _ _ _ J hq) (fun v s' hs => ?_) fun e s' hs => hs)
  obtain ⟨v', H', J', rv, q⟩ := hs
  exact ce_back e0 C.cels ⟨v', H', J'.os, J'.bare, J'.base, J'.hok, rv, q⟩
end
end CLO
set_option Elab.async false
set_option linter.all false
set_option maxRecDepth 100000
set_option maxHeartbeats 4000000
/-! a def that makes functions: behind its end its cells stand frozen -/
namespace CLO
open PySem PySem.Spec PyProof.Rows L2 CM LamX NdefX
/-- a suite that ends in one return; what is wanted there may speak of the names -/
structure PSZ (X : Cx) (ss : List Stmt) (t : (L2.St → VK) → L2.St → Hp → Prop) : Prop where
  run : ∀ (pins : List (Addr × Obj)) (s : Shared) (σ : L2.St) (H : Hp) (R : L2.St → VK), Inv X pins σ H s → t R σ H → wpAny (model X.prog X.w) X.A (execs ss X.env) (fun fl s' => ∃ u v σ' H', fl = .ret u ∧ Inv X pins σ' H' s' ∧ RelV v u ∧ R σ' v H') X.xe s
section
variable {X : Cx} {st : Stmt} {rest : List Stmt} {t : TS} {u : (L2.St → VK) → L2.St → Hp → Prop} {e : Expr} {te : TE} {pos : Pos}
theorem psz_cons (h1 : PS X st t) (h2 : PSZ X rest u) : PSZ X (st :: rest) (fun R σ H => t { nx := fun σ' H' => u R σ' H', rt := fun _ _ => False } σ H) := by
  refine ⟨fun pins s σ H R I h => ?_⟩
  refine wpAny_execs_cons (thn (h1.run pins s σ H _ I h) fun f s1 q => ?_)
  cases f with
  | next =>
    obtain ⟨σ', H', I', q⟩ := q
    exact h2.run pins s1 σ' H' R I' q
  | ret v =>
    obtain ⟨_, _, _, _, _, z⟩ := q
    exact z.elim
  | brk =>
    obtain ⟨_, _, _, z⟩ := q
    exact False.elim z
  | cont =>
    obtain ⟨_, _, _, z⟩ := q
    exact False.elim z
theorem psz_ret (he : PE X e te) : PSZ X [.Return (some e) pos] (fun R σ H => te σ H (R σ)) := by
  refine ⟨fun pins s σ H R I h => ?_⟩
  refine wpAny_execs_cons (wpAny_Return_some (thn (he.run pins s σ H _ I h) fun v s1 ⟨x, H1, I1, r1, q1⟩ => ?_))
  exact ⟨v, x, σ, H1, rfl, I1, r1, q1⟩
end
/-- Hz: the heap H with the frame's cells, frozen; what they hold by the names' slots σ -/
structure Frz (sc : Scope) (cells : List (Str × Addr)) (N : List Str) (σ : L2.St) (H Hz : Hp) : Prop where
  same : Same H Hz
  cel : ∀ y c, cells.lookup y = some c → ∃ (ob : Obj) (v : Option Value), Hz c = some (CelO ob) ∧ ob.data = .cell v
  val : ∀ (y : Str) (c : Addr) (i : Nat) (v : V), cells.lookup y = some c → sc.names.lookup y = some .cell → N[i]? = some y → σ[i]? = some (some v) → CelAt Hz c v
  inj : ∀ x y c, cells.lookup x = some c → cells.lookup y = some c → x = y
  has : ∀ y, sc.names.lookup y = some .cell → ∃ c, cells.lookup y = some c
theorem cells_ge : ∀ (l : List (Str × NameKind)) (n : Nat) (acc : List (Str × Addr)) (m : Nat), m ≤ n → (∀ p ∈ acc, m ≤ p.2) → ∀ p ∈ cellsFrom n l acc, m ≤ p.2
  | [], n, acc, m, h, ha, p, hp => ha p hp
  | (y, k) :: r, n, acc, m, h, ha, p, hp => by
    unfold cellsFrom at hp
    split at hp
    · exact cells_ge r (n + 1) _ m (by omega) (fun q hq => (List.mem_cons.mp hq).elim (fun z => by rw [z]; exact h) (ha q)) p hp
    · exact cells_ge r n acc m h ha p hp
open Classical in
noncomputable def frzH (cells : List (Str × Addr)) (h : Heap) (H : Hp) : Hp := fun b => if ∃ y, cells.lookup y = some b then (h.get? b).map CelO else H b
section
variable {X : Cx} {pins : List (Addr × Obj)} {σ : L2.St} {H : Hp} {s : Shared}
theorem frz_of (I : Inv X pins σ H s) : Frz X.env.scope X.env.cells X.N σ H (frzH X.env.cells s.heap H) := by
  have at_ : ∀ {y c}, X.env.cells.lookup y = some c → frzH X.env.cells s.heap H c = (s.heap.get? c).map CelO := fun {y c} e => if_pos ⟨y, e⟩
  refine ⟨fun b o e => ?_, fun y c e => ?_, fun y c i v e k hi hσ => ?_, I.ok.inj, fun y k => I.ok.has y (.inl k)⟩
  · have n : ¬ ∃ y, X.env.cells.lookup y = some b := fun ⟨y, z⟩ => by
      rw [I.freeC y b z] at e
      cases e
    exact (if_neg n).trans e
  · obtain ⟨v, ob, h1, h2⟩ := I.cell y c e
    exact ⟨ob, v, by rw [at_ e, h1]; rfl, h2⟩
  · obtain ⟨m, hn, hl⟩ := I.loc
    obtain ⟨u, r, l⟩ := hl i y v hi hσ (.inr (.inl k))
    rcases l with ⟨z, _⟩ | ⟨_, a', ha', ob, h1, h2⟩
    · have z' : X.env.scope.names.lookup y = some .local := z
      rw [k] at z'
      cases z'
    · rw [e] at ha'
      cases ha'
      exact ⟨ob, u, by rw [at_ e, h1]; rfl, h2, r⟩
end
section
variable {P : Program} {w : World} {K : PySem.W.Frag} {mg : Str → Option Value} {base : Heap} {CX : CXT} {k : Nat} {fd : FuncData} {ps N : List Str} {sp : Sp} {x qual : Str} {params : Arguments} {body : List Stmt} {scope : Scope} {dvs : List V} {kws : List (Str × V)}
theorem okZ {p : He.Defn} (F : FunD K x qual params body scope dvs kws (He.fAd K p) fd) (S : FnScope N ps scope) (len : ∀ vs H Q E, sp vs H Q E → vs.length = ps.length)
    (hbody : ∀ (A : Around) (outer : List Env) (s : Shared) (H : Hp) (vs : List V) (Q : VK) (E : XK), Room k (A.deeper (envOfC qual scope s.heap.objs.size (He.fAd K p) (.ref (He.codeOf K p)))) → sp vs H Q E →
      ∃ t, PSZ (cxOf CX P w K mg base N qual scope (He.fAd K p) (.ref (He.codeOf K p)) A outer s H E) body t ∧ t (fun σ v H' => ∀ Hz, Frz scope (cellsFrom (s.heap.objs.size + 1) scope.names []) N σ H' Hz → Q v Hz) (L2.start N vs) H) :
    FnOk P w K mg base CX (k + 1) (He.fAd K p) fd ps sp := by
  obtain ⟨oc, od, dV, kV, doc, pm, an, cdv, ct, osl, rfl, lk, hcd, _, _⟩ := F.ex
  obtain ⟨c, rfl⟩ := He.codeIn_ref hcd
  have e : He.codeOf K p = c := He.codeOf_eq lk rfl
  rw [e] at hbody
  refine ⟨len, fun A outer s0 H args us vs Q E room e0 bt rv asked => ?_⟩
  have old : ∀ b o, base.get? b = some o → s0.heap.get? b = some o := fun b o e => (e0.bs b o e).1
  refine codeAny_call_function room.depth (e0.mod.kin.keeps old _ _ lk) rfl S.co S.gen rfl (PySem.W.codeRec_of (e0.mod.kin.keeps old) hcd) (bt _ _ _ _ (wpAny_newFunctionEnv_cells S.kind (fun y hy => ?_) fun env he t x => ?_))
  · exact (S.par y.1 (List.of_mem_zip (show (y.1, y.2) ∈ ps.zip us from hy)).1).elim .inl fun q => .inr ⟨q, PySem.W.cellsFrom_some _ _ _ (.inl q)⟩
  · subst he
    obtain ⟨tt, ht, rd⟩ := hbody A outer s0 H vs Q E (room.deeper _) asked
    have J : Inv (cxOf CX P w K mg base N qual scope (He.fAd K p) (.ref c) A outer s0 H E) [] (L2.start N vs) H t := inv_start S room.hd e0 (len _ _ _ _ asked) rv x
    refine ⟨(e0.mod.nolimit.keeps old).keeps x.toInCall.keep, codeAny_func (wpAny_mono (ht.run [] t (L2.start N vs) H _ J rd) (fun fl t2 got => ?_) fun _ _ got => got)⟩
    obtain ⟨u, v, σ2, H2, rfl, J2, r2, q2⟩ := got
    have fz := frz_of J2
    have big : ∀ y c, (cellsFrom (s0.heap.objs.size + 1) scope.names []).lookup y = some c → s0.heap.objs.size < c := fun y c z => cells_ge _ _ [] (s0.heap.objs.size + 1) (Nat.le_refl _) (fun _ q => by cases q) _ (PySem.mem_of_lookup z)
    have out : ∀ {b : Addr}, (∀ y, (cellsFrom (s0.heap.objs.size + 1) scope.names []).lookup y ≠ some b) → frzH (cellsFrom (s0.heap.objs.size + 1) scope.names []) t2.heap H2 b = H2 b := fun {b} z => if_neg fun ⟨y, q⟩ => z y q
    have oldc : ∀ {b : Addr} {o : Obj}, s0.heap.get? b = some o → ∀ y, (cellsFrom (s0.heap.objs.size + 1) scope.names []).lookup y ≠ some b := fun {b o} e y z => by
      exact Nat.lt_irrefl _ (Nat.lt_trans (big y b z) (Heap.lt_size e))
    refine ⟨v, frzH (cellsFrom (s0.heap.objs.size + 1) scope.names []) t2.heap H2, J2.os, J2.bare, ?_, fun b o e => ?_, r2, q2 _ fz⟩
    · have un : Un (frs outer) [] H H2 s0.heap t2.heap := J2.base
      exact ⟨un.keep, un.slot, fun b o e n nx => by rw [out (oldc e)]; exact un.free b o e n nx, un.there, fun b xs e => fz.same _ _ (un.tups b xs e), fun b o z e => fz.same _ _ (un.frzs b o z e), fun b ps e => let ⟨more, q⟩ := un.tbls b ps e; ⟨more, fz.same _ _ q⟩⟩
    · by_cases hb : ∃ y, (cellsFrom (s0.heap.objs.size + 1) scope.names []).lookup y = some b
      · obtain ⟨y, hy⟩ := hb
        obtain ⟨v', ob, h1, h2⟩ := J2.cell y b hy
        have e2 : frzH (cellsFrom (s0.heap.objs.size + 1) scope.names []) t2.heap H2 b = some (CelO ob) := (if_pos ⟨y, hy⟩).trans (by rw [h1]; rfl)
        rw [e2] at e
        cases e
        exact ⟨h1, True.intro, ⟨ob, h1⟩, fun _ _ _ _ => True.intro⟩
      · rw [out fun y z => hb ⟨y, z⟩] at e
        exact (J2.hok b o e).stay (fun c q _ z => z) (fun c z => fz.same _ _ z) fun c xs z => fz.same _ _ z
end
/-- a lambda made in the def, seen behind its end -/
theorem clo_of {sc lsc : Scope} {cells : List (Str × Addr)} {N fr : List Str} {σ : L2.St} {H Hz : Hp} {f c' : Addr} {qual : Str} {params : Arguments} {b : Expr} {js : List Nat} {ws : List V} (fz : Frz sc cells N σ H Hz)
    (e1 : Hz f = some (LamO f ⟨"<lambda>", qual, params, [], lsc, cloFrom cells lsc.names [], c'⟩ b)) (e2 : Hz c' = some (CodeO c' qual)) (hfree : ∀ y ∈ lsc.names, y.2 = .free → sc.names.lookup y.1 = some .cell) (hfr : ∀ y ∈ fr, (y, NameKind.free) ∈ lsc.names)
    (hjs : js.map (fun j => N[j]?) = fr.map some) (hws : js.map (slotAt σ) = ws.map some) : Clo Hz f ⟨"<lambda>", qual, params, [], lsc, cloFrom cells lsc.names [], c'⟩ b fr ws := by
  have hf : ∀ y ∈ lsc.names, y.2 = .free → ∃ c, cells.lookup y.1 = some c := fun y hy e => fz.has _ (hfree y hy e)
  have lj : js.length = fr.length := by
    have q := congrArg List.length hjs
    rw [List.length_map, List.length_map] at q
    exact q
  have lw : js.length = ws.length := by
    have q := congrArg List.length hws
    rw [List.length_map, List.length_map] at q
    exact q
  refine ⟨e1, e2, fun p hp => ?_, fun x y c h1 h2 => fz.inj x y c (clo_cm hf h1) (clo_cm hf h2), by omega, fun i y hi => ?_⟩
  · rcases cloFrom_mem (show (p.1, p.2) ∈ _ from hp) with hm | ⟨h1, h2⟩
    · cases hm
    · obtain ⟨c1, hc⟩ := hf _ h1 rfl
      have hc : cells.lookup p.1 = some c1 := hc
      have e2 : p.2 = c1 := by
        rw [h2, hc] <;> rfl
      rw [e2]
      exact fz.cel _ _ hc
  · have hy := hfr y (List.mem_of_getElem? hi)
    have k := hfree _ hy rfl
    obtain ⟨c, hc⟩ := fz.has y k
    have ej : (js.map fun j => N[j]?)[i]? = some (some y) := by
      rw [hjs, List.getElem?_map, hi] <;> rfl
    rw [List.getElem?_map] at ej
    cases hj : js[i]? with
    | none =>
      rw [hj] at ej
      cases ej
    | some j =>
      rw [hj] at ej
      have hN : N[j]? = some y := Option.some.inj ej
      have ew : (ws.map some)[i]? = some (slotAt σ j) := by
        rw [← hws, List.getElem?_map, hj] <;> rfl
      rw [List.getElem?_map] at ew
      cases hw : ws[i]? with
      | none =>
        rw [hw] at ew
        cases ew
      | some v =>
        rw [hw] at ew
        have hv : slotAt σ j = some v := (Option.some.inj ew).symm
        exact ⟨c, v, clo_has hf hy hc, rfl, fz.val y c j v hc k hN (slotAt_some hv)⟩
end CLO
set_option Elab.async false
set_option linter.all false
set_option maxRecDepth 100000
set_option maxHeartbeats 4000000
/-! calls out of a def whose own functions are called on the way: its cells stand frozen meanwhile -/
namespace CLO
open PySem PySem.Spec PyProof.Rows L2 CM LamX NdefX
open Classical in
noncomputable def unfz (cells : List (Str × Addr)) (H : Hp) : Hp := fun b => if ∃ y, cells.lookup y = some b then Option.none else H b
section
variable {cells : List (Str × Addr)} {sc : Scope} {N : List Str} {σ : L2.St} {H Hz H' : Hp} {b : Addr} {o : HO}
theorem unfz_in (h : ∃ y, cells.lookup y = some b) : unfz cells H b = Option.none := if_pos h
theorem unfz_out (h : ¬ ∃ y, cells.lookup y = some b) : unfz cells H b = H b := if_neg h
theorem Frz.not_cell (f : Frz sc cells N σ H Hz) (e : Hz b = some o) (n : ∀ ob, o ≠ CelO ob) : ¬ ∃ y, cells.lookup y = some b := fun ⟨y, z⟩ => by
  obtain ⟨ob, v, h1, _⟩ := f.cel y b z
  exact n ob (Option.some.inj (e.symm.trans h1))
/-- what was told of H stays told behind the call -/
theorem Frz.unfz (f : Frz sc cells N σ H Hz) (hc : ∀ y c, cells.lookup y = some c → H c = Option.none) (s : ExtN Hz H') : ExtN H (unfz cells H') := fun b o e n => by
  have nb : ¬ ∃ y, cells.lookup y = some b := fun ⟨y, z⟩ => by
    rw [hc y b z] at e
    cases e
  rw [unfz_out nb]
  exact s b o (f.same b o e) n
end
section
variable {X : Cx} {pins : List (Addr × Obj)} {σ : L2.St} {H : Hp} {s s' : Shared} {CX : CXT} {n : Nat} {Q : VK} {E : XK} {u : Value}
/-- the frame's cells are younger than its entry -/
def Young (X : Cx) : Prop := ∀ y c, X.env.cells.lookup y = some c → X.s_0.heap.objs.size < c
theorem young_of {CX : CXT} {P : Program} {w : World} {K : PySem.W.Frag} {mg : Str → Option Value} {base : Heap} {N : List Str} {qual : Str} {scope : Scope} {f : Addr} {cd : Value} {A : Around} {outer : List Env} {s : Shared} {H : Hp} {E : XK} :
    Young (cxOf CX P w K mg base N qual scope f cd A outer s H E) := fun y c z => cells_ge _ _ [] (s.heap.objs.size + 1) (Nat.le_refl _) (fun _ q => by cases q) _ (PySem.mem_of_lookup z)
theorem hok_frz (I : Inv X pins σ H s) : HOk X.prog X.w (frzH X.env.cells s.heap H) s.heap := fun b o e => by
  have fz := frz_of I
  by_cases hb : ∃ y, X.env.cells.lookup y = some b
  · obtain ⟨y, hy⟩ := hb
    obtain ⟨v', ob, h1, h2⟩ := I.cell y b hy
    have e2 : frzH X.env.cells s.heap H b = some (CelO ob) := (if_pos ⟨y, hy⟩).trans (by rw [h1]; rfl)
    rw [e2] at e
    cases e
    exact ⟨h1, True.intro, ⟨ob, h1⟩, fun _ _ _ _ => True.intro⟩
  · have e2 : frzH X.env.cells s.heap H b = H b := if_neg hb
    rw [e2] at e
    exact (I.hok b o e).stay (fun c q _ z => z) (fun c z => fz.same _ _ z) fun c xs z => fz.same _ _ z
theorem env_frz (hy : Young X) (I : Inv X pins σ H s) : Env0 X.prog X.w X.K X.mg X.base X.A X.stack s (frzH X.env.cells s.heap H) := by
  have e0 := I.env0
  have no : ∀ b, (∀ y, X.env.cells.lookup y ≠ some b) → H b = Option.none → frzH X.env.cells s.heap H b = Option.none := fun b h1 h2 => (if_neg fun ⟨y, z⟩ => h1 y z).trans h2
  refine ⟨e0.frames, e0.mod, fun b o e => ⟨(e0.bs b o e).1, no b (fun y z => ?_) (e0.bs b o e).2⟩, e0.bsz, e0.funs, fun b hb => no b (fun y z => ?_) (e0.frf b hb), hok_frz I, e0.bare⟩
  · exact Nat.lt_irrefl _ (Nat.lt_trans (Nat.lt_of_le_of_lt I.ok.bsz (hy y b z)) (Heap.lt_size e))
  · rcases List.mem_cons.mp (I.stkSub _ hb) with q | q
    · exact I.cne y b z q
    · obtain ⟨_, o, ho, _⟩ := I.ok.funs.mem q
      exact Nat.lt_irrefl _ (Nat.lt_trans (hy y b z) (Heap.lt_size ho))
/-- behind the call -/
theorem ce_unfz (I : Inv X pins σ H s) (c : CE X.stack X.prog X.w (frzH X.env.cells s.heap H) s (fun v H' => Q v (unfz X.env.cells H')) u s') : CE X.stack X.prog X.w H s Q u s' := by
  obtain ⟨v, H1, os, bare, un, hok, r, q⟩ := c
  have at_ : ∀ {b}, ¬ (∃ y, X.env.cells.lookup y = some b) → frzH X.env.cells s.heap H b = H b := fun {b} h => if_neg h
  have cel : ∀ {b}, (∃ y, X.env.cells.lookup y = some b) → ∃ ob, s.heap.get? b = some ob ∧ H b = Option.none ∧ H1 b = some (CelO ob) ∧ s'.heap.get? b = some ob := fun {b} ⟨y, hy⟩ => by
    obtain ⟨v', ob, h1, h2⟩ := I.cell y b hy
    have e2 : frzH X.env.cells s.heap H b = some (CelO ob) := (if_pos ⟨y, hy⟩).trans (by rw [h1]; rfl)
    have e3 := un.frzs b _ _ e2
    exact ⟨ob, h1, I.freeC y b hy, e3, (hok b _ e3).1⟩
  refine ⟨v, unfz X.env.cells H1, os, bare, ⟨fun b o e n => ?_, fun b o e n nf nx => ?_, fun b o e n nx => ?_, un.there, fun b xs e => ?_, fun b o z e => ?_, fun b ps e => ?_⟩, fun b o e => ?_, r, q⟩
  · by_cases hb : ∃ y, X.env.cells.lookup y = some b
    · obtain ⟨ob, h1, _, _, h2⟩ := cel hb
      intro _ _
      rw [h1] at e
      cases e
      exact h2
    · exact un.keep b o e (by rw [at_ hb]; exact n)
  · by_cases hb : ∃ y, X.env.cells.lookup y = some b
    · obtain ⟨ob, h1, _, _, h2⟩ := cel hb
      rw [h1] at e
      cases e
      exact ⟨_, h2⟩
    · exact un.slot b o e (by rw [at_ hb]; exact n) nf nx
  · by_cases hb : ∃ y, X.env.cells.lookup y = some b
    · exact unfz_in hb
    · rw [unfz_out hb]
      exact un.free b o e (by rw [at_ hb]; exact n) nx
  · have hb : ¬ ∃ y, X.env.cells.lookup y = some b := fun hb => by
      obtain ⟨_, _, n, _⟩ := cel hb
      rw [n] at e
      cases e
    rw [unfz_out hb]
    exact un.tups b xs (by rw [at_ hb]; exact e)
  · have hb : ¬ ∃ y, X.env.cells.lookup y = some b := fun hb => by
      obtain ⟨_, _, n, _⟩ := cel hb
      rw [n] at e
      cases e
    rw [unfz_out hb]
    exact un.frzs b o z (by rw [at_ hb]; exact e)
  · have hb : ¬ ∃ y, X.env.cells.lookup y = some b := fun hb => by
      obtain ⟨_, _, n, _⟩ := cel hb
      rw [n] at e
      cases e
    rw [unfz_out hb]
    exact un.tbls b ps (by rw [at_ hb]; exact e)
  · have hb : ¬ ∃ y, X.env.cells.lookup y = some b := fun hb => by
      rw [unfz_in hb] at e
      cases e
    rw [unfz_out hb] at e
    refine (hok b o e).stay (fun c q _ z => z) (fun c z => ?_) fun c xs z => ?_
    · rw [unfz_out fun hc => ?_]
      · exact z
      · obtain ⟨_, _, _, h1, _⟩ := cel hc
        rw [z] at h1
        unfold CelO at h1
        cases h1
    · rw [unfz_out fun hc => ?_]
      · exact z
      · obtain ⟨_, _, _, h1, _⟩ := cel hc
        rw [z] at h1
        unfold CelO at h1
        cases h1
theorem run_frz {f : Addr} {us : List Value} {vs : List V} (hy : Young X) (hr : Room n X.A) (I : Inv X pins σ H s) (r : Vals vs us)
    (h : ∀ Hz, Frz X.env.scope X.env.cells X.N σ H Hz → RunsTo X.prog X.w X.K X.mg X.base C8.CX0 n f vs Hz (fun v H' => Q v (unfz X.env.cells H')) E) : wpAny (model X.prog X.w) X.A (call (.ref f) us) (EP X pins σ Q) X.xe s := by
  obtain ⟨sp, Q0, F, q, hQ⟩ := h _ (frz_of I)
  refine wpAny_call (codeAny_mono (F X.A X.stack s _ us vs _ E hr (env_frz hy I) r q) fun z s' hq => ?_)
  cases z with
  | error e => exact (show False from hq).elim
  | ok fl => cases fl with
    | ret u =>
      obtain ⟨v, H', o1, o2, o3, o4, o5, q'⟩ := hq
      exact I.after (ce_unfz I ⟨v, H', o1, o2, o3, o4, o5, hQ v H' q'⟩)
    | next => exact False.elim hq
    | brk => exact False.elim hq
    | cont => exact False.elim hq
end
/-- o.m(..), the frame's cells frozen meanwhile -/
def tMethZ (P : Program) (w : World) (K : PySem.W.Frag) (mg : Str → Option Value) (base : Heap) (sc : Scope) (cells : List (Str × Addr)) (N : List Str) (n : Nat) (m : Str) (E : XK) (ta : TE) (t : TA) : TE := fun σ H Q => ta σ H fun x H1 => ∃ a C dx fs f, x = .ref a ∧ H1 a = some (.ins C dx fs) ∧ fs.lookup m = none ∧ Cls K C ∧ Meth K C m f ∧
  t σ H1 fun vs H2 => ∀ Hz, (∀ y c, cells.lookup y = some c → H2 c = Option.none) → Frz sc cells N σ H2 Hz → RunsTo P w K mg base C8.CX0 n f (.ref a :: vs) Hz (fun v H' => Q v (unfz cells H')) E
section
variable {X : Cx} {n : Nat} {E : XK} {o e : Expr} {es : List Expr} {m : Str} {pos apos : Pos} {ta : TE} {t : TA} {pl : Sem Bool}
theorem pe_methZ (hy : Young X) (he : PE X o ta) (hr : Room n X.A) (ha : PA X (e :: es) t)
    (hst : starEach (e :: es) X.env = (false, eval e X.env) :: starEach es X.env := by rfl) (hpl : (backTo pos (starEach es X.env)).any (·.1) = false := by rfl)
    (ht : eval (.Call (.Attribute o m apos) (e :: es) [] pos) X.env = (do
      let ov ← eval o X.env
      standAt apos.atName
      let (f, first) ← holding [ov] (getMethod ov m pl)
      callWith pos f first (backTo pos (starEach (e :: es) X.env)) (backToKw pos (keywordEach [] X.env))) := by rfl) :
    PE X (.Call (.Attribute o m apos) (e :: es) [] pos) (tMethZ X.prog X.w X.K X.mg X.base X.env.scope X.env.cells X.N n m E ta t) := by
  refine ⟨fun pins s σ H Q I h => ?_⟩
  refine PySem.W.methodCall_KW (pl := pl) (thn (he.run pins s σ H _ I h) fun u s1 ⟨x, H1, I1, rx, a, C, dx, fs, f, ex, ea, l, c, hm, q⟩ => ?_) ht
  subst ex
  obtain rfl : u = Value.ref a := rx
  refine getmeth_ok I1 ea c hm l ?_
  refine PySem.W.callWith_K (first := [.ref a]) (h₀ := X.base) I.ok.mod.kin hm.kp (thn (ha.run pos pins s1 σ H1 _ I1 q) fun us s2 ⟨vs, H2, I2, r, q2⟩ => ⟨I2.kIn, ?_⟩) hst hpl
  exact run_frz (us := .ref a :: us) (vs := .ref a :: vs) hy hr I2 (.cons rfl r) fun Hz fz => q2 Hz I2.freeC fz
end
end CLO
set_option Elab.async false
set_option linter.all false
set_option maxRecDepth 100000
set_option maxHeartbeats 4000000
/-! a nested def that is handed on: its cells stand in the heap, frozen -/
namespace CLO
open PySem PySem.Spec PyProof.Rows L2 CM LamX NdefX
/-- a nested def that is known, with what its cells hold -/
structure CloN (H : Hp) (f : Addr) (F : NF) (fr : List Str) (ws : List V) : Prop where
  fn : H f = some (FnO f F)
  co : H F.c = some (CodeO F.c F.qual)
  cels : Cels H F.cl
  inj : ∀ x y c, F.cl.lookup x = some c → F.cl.lookup y = some c → x = y
  len : ws.length = fr.length
  has : ∀ (i : Nat) (y : Str), fr[i]? = some y → ∃ c v, F.cl.lookup y = some c ∧ ws[i]? = some v ∧ CelAt H c v
theorem fnO_ne2 {f : Addr} {F : NF} (ob : Obj) : FnO f F ≠ CelO ob := fun z => by
  unfold FnO CelO at z
  cases z
theorem codeO_ne2 {c : Addr} {q : Str} (ob : Obj) : CodeO c q ≠ CelO ob := fun z => by
  unfold CodeO CelO at z
  cases z
theorem CloN.ext {H H' : Hp} {f : Addr} {F : NF} {fr : List Str} {ws : List V} (C : CloN H f F fr ws) (s : ExtN H H') : CloN H' f F fr ws := by
  refine ⟨s _ _ C.fn fun ps => fnO_ne ps, s _ _ C.co fun ps => codeO_ne ps, fun p hp => ?_, C.inj, C.len, fun i y hi => ?_⟩
  · obtain ⟨ob, v, h1, h2⟩ := C.cels p hp
    exact ⟨ob, v, s _ _ h1 (fun ps z => by unfold CelO at z; cases z), h2⟩
  · obtain ⟨c, v, h1, h2, ob, u, h3, h4⟩ := C.has i y hi
    exact ⟨c, v, h1, h2, ob, u, s _ _ h3 (fun ps z => by unfold CelO at z; cases z), h4⟩
section
variable {P : Program} {w : World} {K : PySem.W.Frag} {mg : Str → Option Value} {base : Heap} {ps fr : List Str} {F : NF} {f : Addr} {k : Nat} {H : Hp} {ws vs : List V} {Q : VK} {E : XK} {sp : List (Option V) → Sp}
theorem fn_calls (N : NOk P w K mg base C8.CX0 k f F ps fr sp) (C : CloN H f F fr ws) (q : sp (ws.map some) vs (hide H F.cl) (fun v H' => (∀ b ∈ F.cl.map (·.2), H' b = Option.none) → Q v (back H F.cl H')) E) :
    CallsTo P w K mg base C8.CX0 k true f vs H Q E := by
  intro A outer s us hr e0 r
  obtain ⟨od, sl, doc, pm, ctv, ho⟩ := (e0.hok f _ C.fn).1
  refine ⟨⟨_, _, _, _, ho⟩, wpAny_call ?_⟩
  have CA : CellsAt F.cl fr (ws.map some) s.heap (hide H F.cl) := by
    refine ⟨by rw [List.length_map]; exact C.len, fun y c e => ?_, C.inj, fun i y hi => ?_⟩
    · have hp := PySem.mem_of_lookup e
      obtain ⟨ob, v, h1, h2⟩ := C.cels _ hp
      exact ⟨hide_in (List.mem_map.mpr ⟨_, hp, rfl⟩), v, ob, (e0.hok c _ h1).1, h2⟩
    · obtain ⟨c, v, h1, h2, ob, u, h3, h4, h5⟩ := C.has i y hi
      refine ⟨c, h1, fun v' ev => ?_⟩
      rw [List.getElem?_map, h2] at ev
      cases ev
      exact ⟨u, h5, ob, (e0.hok c _ h3).1, h4⟩
  refine codeAny_mono (N.run A outer s (hide H F.cl) us vs (ws.map some) _ E hr (env_hide e0 C.cels) (C.cels.keep C.fn fnO_ne2) (C.cels.keep C.co codeO_ne2) CA r q) fun z s' hq => ?_
  cases z with
  | error e => exact hq
  | ok fl => cases fl with
    | ret u => exact ce_back e0 C.cels hq
    | next => exact hq
    | brk => exact hq
    | cont => exact hq
end
/-- a nested def made in the def, seen behind its end -/
theorem cloN_of {sc : Scope} {cells : List (Str × Addr)} {N fr : List Str} {σ : L2.St} {H Hz : Hp} {f : Addr} {F : NF} {js : List Nat} {ws : List V} (fz : Frz sc cells N σ H Hz) (ecl : F.cl = cloFrom cells F.scope.names [])
    (e1 : Hz f = some (FnO f F)) (e2 : Hz F.c = some (CodeO F.c F.qual)) (hfree : ∀ y ∈ F.scope.names, y.2 = .free → sc.names.lookup y.1 = some .cell) (hfr : ∀ y ∈ fr, (y, NameKind.free) ∈ F.scope.names)
    (hjs : js.map (fun j => N[j]?) = fr.map some) (hws : js.map (slotAt σ) = ws.map some) : CloN Hz f F fr ws := by
  have hf : ∀ y ∈ F.scope.names, y.2 = .free → ∃ c, cells.lookup y.1 = some c := fun y hy e => fz.has _ (hfree y hy e)
  have lj : js.length = fr.length := by
    have q := congrArg List.length hjs
    rw [List.length_map, List.length_map] at q
    exact q
  have lw : js.length = ws.length := by
    have q := congrArg List.length hws
    rw [List.length_map, List.length_map] at q
    exact q
  refine ⟨e1, e2, fun p hp => ?_, fun x y c h1 h2 => fz.inj x y c (clo_cm hf (ecl ▸ h1)) (clo_cm hf (ecl ▸ h2)), by omega, fun i y hi => ?_⟩
  · rw [ecl] at hp
    rcases cloFrom_mem (show (p.1, p.2) ∈ _ from hp) with hm | ⟨h1, h2⟩
    · cases hm
    · obtain ⟨c1, hc⟩ := hf _ h1 rfl
      have hc : cells.lookup p.1 = some c1 := hc
      have e3 : p.2 = c1 := by
        rw [h2, hc] <;> rfl
      rw [e3]
      exact fz.cel _ _ hc
  · have hy := hfr y (List.mem_of_getElem? hi)
    have k := hfree _ hy rfl
    obtain ⟨c, hc⟩ := fz.has y k
    have ej : (js.map fun j => N[j]?)[i]? = some (some y) := by
      rw [hjs, List.getElem?_map, hi] <;> rfl
    rw [List.getElem?_map] at ej
    cases hj : js[i]? with
    | none =>
      rw [hj] at ej
      cases ej
    | some j =>
      rw [hj] at ej
      have hN : N[j]? = some y := Option.some.inj ej
      have ew : (ws.map some)[i]? = some (slotAt σ j) := by
        rw [← hws, List.getElem?_map, hj] <;> rfl
      rw [List.getElem?_map] at ew
      cases hw : ws[i]? with
      | none =>
        rw [hw] at ew
        cases ew
      | some v =>
        rw [hw] at ew
        have hv : slotAt σ j = some v := (Option.some.inj ew).symm
        exact ⟨c, v, by rw [ecl]; exact clo_has hf hy hc, rfl, fz.val y c j v hc k hN (slotAt_some hv)⟩
/-- tables of two forms -/
theorem tabsN_of {T : List (Addr × Str)} {H : Hp} (t : Tabs T H) : TabsN (T.map fun p => (p.1, fun _ _ => p.2)) H := fun p hp => by
  obtain ⟨q, hq, rfl⟩ := List.mem_map.mp hp
  exact TabN.of (t q hq)
theorem tabs_of {T : List (Addr × Str)} {H : Hp} (t : TabsN (T.map fun p => (p.1, fun _ _ => p.2)) H) : Tabs T H := fun p hp => TabN.to (t _ (List.mem_map.mpr ⟨p, hp, rfl⟩))
end CLO
set_option Elab.async false
set_option linter.all false
set_option maxRecDepth 100000
set_option maxHeartbeats 4000000
/-! a list comprehension without tests whose element may speak of the block's cells: functions made in a comprehension -/
namespace CMP
open PySem PySem.Spec PyProof.Rows L2 CM
/-- the block's environment, entered at s -/
abbrev benv (X : Cx) (s : Shared) (scope : Scope) : Env := compEnvC scope (cellsFrom (s.heap.objs.size + 1) scope.names (cloFrom X.env.cells scope.names [])) s.heap.objs.size X.env
section
variable {X : Cx}
/-- what holds between two turns -/
def Btw (X : Cx) (ce : Env) (scope : Scope) (fp : List Addr) (own : List (Str × Nat)) (σ : L2.St) (tn : Nat → Heap → Prop) (W : Nat → Nat → Hp → Prop) (s0 : Shared) (H0 : Hp) (n : Nat) (s : Shared) : Prop :=
  ∃ i G, Inv (X.blk s0 H0 scope ce fp) [] (wipe σ (own.map (·.2))) G s ∧ tn i s.heap ∧ (∀ b ∈ fp, G b = none) ∧ W i n G
/-- the own objects of the iterator may turn -/
theorem own_ok {scope : Scope} {ce : Env} {fp : List Addr} {σ : L2.St} {G H0 : Hp} {s s0 : Shared} (J : Inv (X.blk s0 H0 scope ce fp) [] σ G s) (n : ∀ b ∈ fp, G b = none) : ∀ b ∈ fp, FpOk (X.blk s0 H0 scope ce fp) [] G b := fun b hb =>
  have q := J.ok.exf b hb
  ⟨n b hb, q.1, J.ok.exfs b hb, Or.inl hb, fun x c e => q.2 x c e, fun p hp => by cases (show p ∈ ([] : List (Addr × Obj)) from hp)⟩
/-- one turn that yields -/
theorem turn {tg elt : Expr} {scope : Scope} {own : List (Str × Nat)} {fp : List Addr} {ce : Env} {g : TG} {te : TE} {σ : L2.St} {J : It} {it D : Addr} {tn : Nat → Heap → Prop} {W : Nat → Nat → Hp → Prop} {s0 s : Shared} {H0 G : Hp} {i m : Nat} {R : Result → Shared → Prop} (hc : X.calm = true)
    (T : Turn X.prog X.w X.K tg J fp it tn) (pg : PG (X.blk s0 H0 scope ce fp) tg g) (pe : PE (X.blk s0 H0 scope ce fp) elt te) (K0 : Inv (X.blk s0 H0 scope ce fp) [] (wipe σ (own.map (·.2))) G s) (k1 : tn i s.heap) (k2 : ∀ b ∈ fp, G b = none) (go : J.go i G) {Nx : Hp → Prop}
    (hNx : ∀ H', Nx H' → ∃ m', m' < m ∧ W (i + 1) m' H') (step : ∀ x H', J.yld i G x H' → g x (wipe σ (own.map (·.2))) H' fun σ2 H2 => wipe σ2 (own.map (·.2)) = wipe σ (own.map (·.2)) ∧ te σ2 H2 fun y H4 => ∃ acc, H4 D = some (.lst acc) ∧ acc.length < sizeLine ∧ Nx (upd H4 D (.lst (acc ++ [y])))) :
    wpAny (model X.prog X.w) X.A (pyNext (.ref it)) (fun r s1 => match r with
      | none => R (.ok .next) s1
      | some v => wpAny (model X.prog X.w) X.A (letOwnedTupleGo tg (.ref it) v) (fun _ s2 => wpAny (model X.prog X.w) X.A (assign tg ce v) (fun _ s3 =>
          wpAny (model X.prog X.w) X.A (forIn ([] : List Expr) true fun c r => if r = true then do let ok ← isTrue c ce (eval c ce); pure (ForInStep.yield ok) else pure (ForInStep.yield r)) (fun ok s4 =>
            if ok = true then wpAny (model X.prog X.w) X.A (eval elt ce) (fun x s5 =>
              wpAny (model X.prog X.w) X.A (call (.builtin "list.append") [.ref D, x]) (fun _ s6 => ∃ m', m' < m ∧ Btw X ce scope fp own σ tn W s0 H0 m' s6) (notedBy (model X.prog X.w) X.A ce fun e s' => R (.error e) s') s5) (notedBy (model X.prog X.w) X.A ce fun e s' => R (.error e) s') s4
            else ∃ m', m' < m ∧ Btw X ce scope fp own σ tn W s0 H0 m' s4) (notedBy (model X.prog X.w) X.A ce fun e s' => R (.error e) s') s3) (notedBy (model X.prog X.w) X.A ce fun e s' => R (.error e) s') s2) (notedBy (model X.prog X.w) X.A ce fun e s' => R (.error e) s') s1) (notedBy (model X.prog X.w) X.A ce fun e s' => R (.error e) s') s := by
  refine thnF (T.item (X.blk s0 H0 scope ce fp) rfl rfl rfl hc i [] s _ G (fun _ _ => False) K0 (own_ok K0 k2) k1 go) fun r s1 hr => ?_
  obtain ⟨u, rfl, hu⟩ := hr
  refine thnF hu fun _ s2 h2 => ?_
  obtain ⟨x, G2, K2, rx, yx, st2, n2⟩ := h2
  refine thnF (pg.run _ s2 _ G2 x u _ (K2.pinned (own_ok K2 n2) (T.obj _ _ st2)) rx (step x G2 yx)) fun _ s3 h3 => ?_
  obtain ⟨σ3, G3, K3, w3, q3⟩ := h3
  refine wpAny_tests_nil ?_
  refine thnF (pe.run _ s3 σ3 G3 _ K3 q3) fun z s4 h4 => ?_
  obtain ⟨y, G4, K4, ry, acc, hD, hz, nx⟩ := h4
  refine app_ok (X := X.blk s0 H0 scope ce fp) K4 hD hz ry fun s5 K5 => ?_
  obtain ⟨m', lt, w'⟩ := hNx _ nx
  have held : ∀ b ∈ fp, ∀ o, s2.heap.get? b = some o → s5.heap.get? b = some o ∧ (upd G4 D (.lst (acc ++ [y]))) b = none := fun b hb o e =>
    have q := K5.pin (b, o) (List.mem_append_right _ (List.mem_append_right _ (mem_pinsAt hb e)))
    ⟨q.1, q.2.1⟩
  have len : (wipe σ (own.map (·.2))).length = σ3.length := (congrArg List.length w3).symm.trans (wipe_length _ _)
  refine ⟨m', lt, i + 1, _, (K5.unpinned (pins := [])).weak len fun j v e => ?_, T.keep _ _ _ st2 fun b hb o e => (held b hb o e).1, fun b hb => ?_, w'⟩
  · rw [← w3] at e
    exact (wipe_some e).1
  · obtain ⟨o, e, _⟩ := T.obj _ _ st2 b hb
    exact (held b hb o e).2
/-- the comprehension, its element known in the block as it is entered -/
theorem whole {pins : List (Addr × Obj)} {s : Shared} {σ : L2.St} {H : Hp} {Q : VK} {elt tg iter : Expr} {scope : Scope} {own : List (Str × Nat)} {pos pos' : Pos} {wi : TI} {g : TG} {te : TE} {use : Option (Value → Sem Unit)} {Qf : Value → Shared → Prop} (hc : X.calm = true) (hN : X.N.Nodup)
    (I : Inv X pins σ H s) (hi : PI X tg iter wi) (ok : BlkOk X.N X.env.scope scope own) (hg : ∀ (s0 : Shared) (H0 : Hp) (fp : List Addr), PG (X.blk s0 H0 scope (benv X s0 scope) fp) tg g) (he : ∀ (s0 : Shared) (H0 : Hp) (fp : List Addr), PE (X.blk s0 H0 scope (benv X s0 scope) fp) elt te)
    (hs : ∀ x, foldedSetIterable iter X.env x = pure x) (h : tLc wi g tYes te (own.map (·.2)) σ H Q)
    (fin : ∀ D C s' m G, Inv X pins σ G s' → Q (.ref D) G → s'.heap.Ns C m → FpOk X pins G C → compPost (model X.prog X.w) X.A X.xe use Qf (.ref D) C (.ok .next) s') :
    wpAny (model X.prog X.w) X.A (comprehension (.ListComp elt [⟨tg, iter, [], 0⟩] scope pos) scope X.env pos' (newList []) false (eval iter X.env) use) Qf X.xe s := by
  have hf : ∀ y ∈ scope.names, y.2 = .free → ∃ c, X.env.cells.lookup y.1 = some c := fun y hy e => (ok.free y hy e).elim (fun k => I.ok.has _ (.inl k)) fun k => I.ok.has _ (.inr k)
  refine wpAny_comprehension_free (use := use) rfl hs (closure_ok hf) ok.kind (fun y hy e => by rw [ok.uniq y hy, e]) (thn (hi.run pins s σ H _ I h) fun xv s1 hx => thn hx fun itv s2 h2 => ?_)
  obtain ⟨it, fp, tn, J, G, rfl, I2, T, k2, f2, q⟩ := h2
  refine wpAny_newObj_type (newEnv_comp ?_) (by show 0 ≤ sizeLine; decide)
  have nD : G s2.heap.objs.size = none := I2.hok.fresh (Nat.le_refl _)
  obtain ⟨W, ⟨m0, w0⟩, go⟩ := q _ nD
  -- the list stands
  have up : ∀ b o, s2.heap.get? b = some o → (s2.heap.push { cls := .type "list", data := .seq ([] : List Value).toArray }).get? b = some o := fun b o e => Heap.get?_push_of_some _ e
  generalize e3 : ({ s2 with heap := s2.heap.push { cls := .type "list", data := .seq ([] : List Value).toArray } } : Shared) = s3
  have I3 : Inv X pins σ (upd G s2.heap.objs.size (.lst [])) s3 := by
    subst e3
    exact I2.laid (t' := s2.toks) up (Nat.le_refl _) ⟨Nat.zero_le _, [], 0, .nil, Heap.get?_push_size _ rfl⟩
  have f3 : ∀ b ∈ fp, FpOk X pins (upd G s2.heap.objs.size (.lst [])) b ∧ b < s3.heap.objs.size := fun b hb => by
    obtain ⟨o, e, _⟩ := T.obj _ _ k2 b hb
    have lt := Heap.lt_size e
    subst e3
    exact ⟨⟨(upd_ne (Nat.ne_of_lt lt)).trans (f2 b hb).1, (f2 b hb).2⟩, by rw [Heap.size_push]; exact Nat.lt_succ_of_lt lt⟩
  have k3 : tn 0 s3.heap := T.keep _ _ _ k2 fun b _ o e => by
    subst e3
    exact up b o e
  generalize hD : s2.heap.objs.size = D at nD w0 go I3 f3
  generalize upd G D (.lst []) = G3 at w0 I3 f3
  have I4 := block_start I3 ok hN f3
  have k4 := T.keep _ _ _ k3 fun b _ o e => pushCells_keeps scope.names (s3.heap.push { cls := .type "dict", data := .dict #[] }) b o (Heap.get?_push_of_some _ e)
  show codeAny _ _ (.compStart (.ListComp elt [⟨tg, iter, [], 0⟩] scope pos) 0 (.ref it) (.ref D) (benv X s3 scope)) (compPost (model X.prog X.w) X.A X.xe use Qf (.ref D) s3.heap.objs.size) { s3 with heap := pushCells (s3.heap.push { cls := .type "dict", data := .dict #[] }) scope.names }
  have pg := hg s3 G3 fp
  have pe := he s3 G3 fp
  have loop : codeAny (model X.prog X.w) X.A (.compLoop (.ListComp elt [⟨tg, iter, [], 0⟩] scope pos) 0 (.ref it) (.ref D) (benv X s3 scope)) (compPost (model X.prog X.w) X.A X.xe use Qf (.ref D) s3.heap.objs.size) { s3 with heap := pushCells (s3.heap.push { cls := .type "dict", data := .dict #[] }) scope.names } := by
    refine compLoop_any (Btw X (benv X s3 scope) scope fp own σ tn W s3 G3) ?_ m0 ⟨0, G3, I4, k4, fun b hb => (f3 b hb).1.1, w0⟩
    rintro n s5 ⟨i, G5, J5, k5, n5, w5⟩
    rcases go i n G5 w5 with ⟨stop, qq⟩ | ⟨yes, Nx, hNx, step⟩
    · refine thnF (T.done (X.blk s3 G3 scope (benv X s3 scope) fp) rfl rfl rfl hc i [] s5 _ G5 (fun _ _ => False) J5 (own_ok J5 n5) k5 stop) fun r s6 hr => ?_
      obtain ⟨rfl, J6⟩ := hr
      have I6 : Inv X pins σ G5 s6 := I3.call' (ch := fp) J6.os J6.base J6.hok J6.bare fun b hb => ⟨(f3 b hb).1.2.2.2.1, (f3 b hb).1.2.1, (f3 b hb).1.2.2.2.2.1, (f3 b hb).1.2.2.2.2.2⟩
      obtain ⟨m, hm, _⟩ := J6.loc
      exact fin D s3.heap.objs.size s6 m G5 I6 qq hm (I3.fpOk (Nat.le_refl _) J6.free)
    · exact turn hc T pg pe J5 k5 n5 yes hNx fun x G' y => step x G' y
  exact codeAny_compStart_list loop (T.self X.A 0 _ _ _ k4 loop)
theorem pe_lcA {elt tg iter : Expr} {scope : Scope} {own : List (Str × Nat)} {pos : Pos} {wi : TI} {g : TG} {te : TE} (hc : X.calm = true) (hN : X.N.Nodup) (hi : PI X tg iter wi) (ok : BlkOk X.N X.env.scope scope own)
    (hg : ∀ (s0 : Shared) (H0 : Hp) (fp : List Addr), PG (X.blk s0 H0 scope (benv X s0 scope) fp) tg g) (he : ∀ (s0 : Shared) (H0 : Hp) (fp : List Addr), PE (X.blk s0 H0 scope (benv X s0 scope) fp) elt te) (hs : ∀ x, foldedSetIterable iter X.env x = pure x := by intro _; rfl) :
    PE X (.ListComp elt [⟨tg, iter, [], 0⟩] scope pos) (tLc wi g tYes te (own.map (·.2))) := by
  refine ⟨fun pins s σ H Q I h => ?_⟩
  rw [eval_ListComp]
  refine whole hc hN I hi ok hg he hs h fun D C s' m G I' q hn f => ⟨m, hn, fun h'' sb => ?_⟩
  obtain ⟨f0, f1, f2, f3, f4, f5⟩ := f
  exact ⟨.ref D, G, I'.turned (t' := s'.toks) (fun b o hb e => (sb.2 b hb).trans e) f0 f1 f3 f4 f5, rfl, q⟩
/-- name = [..], the name a local of the def -/
theorem ps_setLcA {i : Nat} {y : Str} {py : Pos} {elt tg iter : Expr} {scope : Scope} {own : List (Str × Nat)} {pos spos : Pos} {wi : TI} {g : TG} {te : TE} (hc : X.calm = true) (hN : X.N.Nodup) (hy : X.N[i]? = some y) (hl : X.env.scope.names.lookup y = some .local)
    (hw : swapsWith (.ListComp elt [⟨tg, iter, [], 0⟩] scope pos) (some (.Name y py)) spos.line X.env = pure true) (hi : PI X tg iter wi) (ok : BlkOk X.N X.env.scope scope own)
    (hg : ∀ (s0 : Shared) (H0 : Hp) (fp : List Addr), PG (X.blk s0 H0 scope (benv X s0 scope) fp) tg g) (he : ∀ (s0 : Shared) (H0 : Hp) (fp : List Addr), PE (X.blk s0 H0 scope (benv X s0 scope) fp) elt te) (hs : ∀ x, foldedSetIterable iter X.env x = pure x := by intro _; rfl) :
    PS X (.Assign [.Name y py] (.ListComp elt [⟨tg, iter, [], 0⟩] scope pos) spos) (tAsg (tLc wi g tYes te (own.map (·.2))) (gName i)) := by
  refine ⟨fun pins s σ H D I h => ?_⟩
  have h : tLc wi g tYes te (own.map (·.2)) σ H (fun x H1 => D.nx (σ.set i (some x)) H1) := h
  rw [exec_Assign_Name_used _ _ _ _ hw]
  refine wpAny_bind (wpAny_standAt (wpAny_bind (m := do let _ ← comprehension (.ListComp elt [⟨tg, iter, [], 0⟩] scope pos) scope X.env (firstIterPos [⟨tg, iter, [], 0⟩] pos) (newList []) false (eval iter X.env) (some (assign (.Name y py) X.env))) ?_))
  refine wpAny_bind (thn (whole (Qf := fun _ z => SP X pins D .next z) hc hN I hi ok hg he hs h fun L C s1 m G J q hn f => ?_) fun _ z hz => wpAny_pure (wpAny_pure hz))
  refine wpAny_assign_Name (store_ok2 (v := V.ref L) J hN hy (.inl hl) rfl (fun s2 J2 z => ?_) (.inr hl))
  obtain ⟨a, sb, ha⟩ := z
  obtain ⟨q0, q1, q2, q3, q4, q5⟩ := f
  have ne : C ≠ a := ha.elim (fun e => e ▸ q1) fun e => Ne.symm (q4 y a e)
  exact ⟨m, hn.sameBut sb ne, fun h3 sb3 => ⟨_, G, J2.turned (t' := s2.toks) (fun b o hb e => (sb3.2 b hb).trans e) q0 q1 q3 q4 q5, q⟩⟩
end
end CMP
namespace CLO
open PySem PySem.Spec PyProof.Rows L2 CM LamX NdefX
/-- a lambda made in a comprehension of the def, seen where the def's cells stand frozen -/
theorem clo_of2 {sc csc lsc : Scope} {cells : List (Str × Addr)} {N fr : List Str} {σ : L2.St} {H Hz : Hp} {f c' : Addr} {qual : Str} {params : Arguments} {b : Expr} {js : List Nat} {ws : List V} (fz : Frz sc cells N σ H Hz)
    (e1 : Hz f = some (LamO f ⟨"<lambda>", qual, params, [], lsc, cloFrom (cloFrom cells csc.names []) lsc.names [], c'⟩ b)) (e2 : Hz c' = some (CodeO c' qual)) (h1 : ∀ y ∈ csc.names, y.2 = .free → sc.names.lookup y.1 = some .cell) (h2 : ∀ y ∈ lsc.names, y.2 = .free → (y.1, NameKind.free) ∈ csc.names)
    (hfr : ∀ y ∈ fr, (y, NameKind.free) ∈ lsc.names) (hjs : js.map (fun j => N[j]?) = fr.map some) (hws : js.map (slotAt σ) = ws.map some) :
    Clo Hz f ⟨"<lambda>", qual, params, [], lsc, cloFrom (cloFrom cells csc.names []) lsc.names [], c'⟩ b fr ws := by
  have f1 : ∀ y ∈ csc.names, y.2 = .free → ∃ c, cells.lookup y.1 = some c := fun y hy e => fz.has _ (h1 y hy e)
  have up : ∀ y c, (y, NameKind.free) ∈ csc.names → cells.lookup y = some c → (cloFrom cells csc.names []).lookup y = some c := fun y c hy hc => clo_has f1 hy hc
  have dn : ∀ {y c}, (cloFrom cells csc.names []).lookup y = some c → cells.lookup y = some c := fun e => clo_cm f1 e
  have f2 : ∀ y ∈ lsc.names, y.2 = .free → ∃ c, (cloFrom cells csc.names []).lookup y.1 = some c := fun y hy e => by
    have m := h2 y hy e
    obtain ⟨c, hc⟩ := f1 _ m rfl
    exact ⟨c, up _ _ m hc⟩
  have lj : js.length = fr.length := by
    have q := congrArg List.length hjs
    rw [List.length_map, List.length_map] at q
    exact q
  have lw : js.length = ws.length := by
    have q := congrArg List.length hws
    rw [List.length_map, List.length_map] at q
    exact q
  refine ⟨e1, e2, fun p hp => ?_, fun x y c z1 z2 => fz.inj x y c (dn (clo_cm f2 z1)) (dn (clo_cm f2 z2)), by omega, fun i y hi => ?_⟩
  · rcases cloFrom_mem (show (p.1, p.2) ∈ _ from hp) with hm | ⟨z1, z2⟩
    · cases hm
    · obtain ⟨c1, hc⟩ := f2 _ z1 rfl
      have hc : (cloFrom cells csc.names []).lookup p.1 = some c1 := hc
      have e3 : p.2 = c1 := by
        rw [z2, hc] <;> rfl
      rw [e3]
      exact fz.cel _ _ (dn hc)
  · have hy := hfr y (List.mem_of_getElem? hi)
    have m := h2 _ hy rfl
    have k := h1 _ m rfl
    obtain ⟨c, hc⟩ := fz.has y k
    have ej : (js.map fun j => N[j]?)[i]? = some (some y) := by
      rw [hjs, List.getElem?_map, hi] <;> rfl
    rw [List.getElem?_map] at ej
    cases hj : js[i]? with
    | none =>
      rw [hj] at ej
      cases ej
    | some j =>
      rw [hj] at ej
      have hN : N[j]? = some y := Option.some.inj ej
      have ew : (ws.map some)[i]? = some (slotAt σ j) := by
        rw [← hws, List.getElem?_map, hj] <;> rfl
      rw [List.getElem?_map] at ew
      cases hw : ws[i]? with
      | none =>
        rw [hw] at ew
        cases ew
      | some v =>
        rw [hw] at ew
        have hv : slotAt σ j = some v := (Option.some.inj ew).symm
        exact ⟨c, v, clo_has f2 hy (up _ _ m hc), rfl, fz.val y c j v hc k hN (slotAt_some hv)⟩
end CLO
set_option Elab.async false
set_option linter.all false
set_option maxRecDepth 100000
set_option maxHeartbeats 4000000
/-! Dicts by nested keys: for k in d, {k: v for ..}, dict(pairs), x in a list of data -/
namespace DN
open PySem PySem.Spec PyProof.Rows L2 CM RZ
section
variable {X : Cx} {pins : List (Addr × Obj)} {σ : L2.St} {H : Hp} {s : Shared}
/-- a dict that is read, locked or not -/
def DctR (P : Program) (w : World) (H : Hp) (d : Addr) (xs : List Ent) : Prop := Rd H d (dn P w d xs) ∧ ∀ x ∈ xs, KeyV H x.1 (.ref x.2.1) ∧ x.1.depth ≤ 8
theorem Dct.rd {P : Program} {w : World} {d : Addr} {xs : List Ent} (D : Dct P w H d xs) : DctR P w H d xs := ⟨.inl D.1, D.2⟩
theorem rd_ok {P : Program} {w : World} {h : Heap} {d : Addr} {u : HO} (ok : HOk P w H h) (r : Rd H d u) : ObjOk P w H h d u := by
  rcases r with r | ⟨o, r⟩
  · exact ok d _ r
  · exact (show h.get? d = some o ∧ ObjOk P w H h d u from ok d _ r).2
theorem DctR.keyed {P : Program} {w : World} {h : Heap} {d : Addr} {xs : List Ent} (ok : HOk P w H h) (D : DctR P w H d xs) : ∃ zs : List (NK × Addr × Value), h.DictOfH (nestedKind P w) d zs ∧ Alike xs zs ∧ xs.length ≤ sizeLine ∧ (d == sysModules) = false := by
  obtain ⟨⟨us, r, hl, hs, nd, o, es, ep, g, ex, hd, he⟩, _⟩ := (show ObjOk P w H h d (dn P w d xs) from rd_ok ok D.1)
  have pr : ∀ {xs : List Ent} {us : List Value}, Vals (xs.map (·.2.2)) us → Alike xs ((xs.zip us).map fun p => (p.1.1, p.1.2.1, p.2)) := by
    intro xs
    induction xs with
    | nil =>
      intro us r
      exact .nil
    | cons x xs ih =>
      intro us r
      cases r with
      | cons a b => exact .cons ⟨rfl, rfl, a⟩ (ih b)
  have ak := pr r
  refine ⟨_, ⟨o, es, ep, g, ex, hd, he, fun z hz => ?_, by rw [← ak.keys]; exact nd⟩, ak, hl, hs⟩
  obtain ⟨p, hp, rfl⟩ := List.mem_map.mp hz
  have hx := (List.of_mem_zip (a := p.1) (b := p.2) hp).1
  exact ⟨(D.2 p.1 hx).1.is ok rfl, (D.2 p.1 hx).2⟩
def rInR (P : Program) (w : World) (neg : Bool) : R2 := fun x y H Q => ∃ (a d : Addr) (xs : List Ent) (k : NK), x = .ref a ∧ y = .ref d ∧ DctR P w H d xs ∧ KeyV H k (.ref a) ∧ k.depth ≤ 8 ∧ Q (.bl (if neg then !(at_ xs k).isSome else (at_ xs k).isSome)) H
theorem op_inR {P : Program} {w : World} (hu : X.A.units + 40 < cLine) (hP : X.prog = P := by rfl) (hw : X.w = w := by rfl) : OpR X (compareOp .In) (rInR P w false) := by
  subst hP hw
  intro pns s σ H x y v u Q I rx ry h
  obtain ⟨a, d, xs, k, rfl, rfl, D, hk, hd, q⟩ := h
  cases (show v = Value.ref a from rx)
  cases (show u = Value.ref d from ry)
  obtain ⟨zs, m, p, hl, hs⟩ := D.keyed I.hok
  refine wpAny_in_heap (room_in hu) (key_is I hk hd) hs m ⟨.bl _, H, I.tok _, rfl, ?_⟩
  rw [some_rel k p]
  exact q
theorem op_notInR {P : Program} {w : World} (hu : X.A.units + 40 < cLine) (hP : X.prog = P := by rfl) (hw : X.w = w := by rfl) : OpR X (compareOp .NotIn) (rInR P w true) := by
  subst hP hw
  intro pns s σ H x y v u Q I rx ry h
  obtain ⟨a, d, xs, k, rfl, rfl, D, hk, hd, q⟩ := h
  cases (show v = Value.ref a from rx)
  cases (show u = Value.ref d from ry)
  obtain ⟨zs, m, p, hl, hs⟩ := D.keyed I.hok
  refine PyProof.Rows.wpAny_notIn_heap (room_in hu) (key_is I hk hd) hs m ⟨.bl _, H, I.tok _, rfl, ?_⟩
  rw [some_rel k p]
  exact q
/-! ### for k in d -/
/-- the locked dict's object -/
theorem frzN {d : Addr} {o : Obj} {xs : List Ent} (I : Inv X pins σ H s) (h : H d = some (.frz o (dn X.prog X.w d xs))) :
    (d == sysModules) = false ∧ s.heap.get? d = some o ∧ o.ExactDict ∧ ∃ (es : Array DictEntry) (ep : Nat), o.data = .dict es ep ∧ es.size = xs.length ∧ ∀ (i : Nat) (x : Ent), xs[i]? = some x → ∃ en : DictEntry, es[i]? = some en ∧ en.key = .ref x.2.1 := by
  obtain ⟨hd, ⟨us, r, hl, hs, nd, o', es, ep, g, ex, hdt, he⟩, _⟩ := (show s.heap.get? d = some o ∧ ObjOk X.prog X.w H s.heap d (dn X.prog X.w d xs) from I.hok d _ h)
  rw [hd] at g
  cases g
  have lu : us.length = xs.length := by
    have := r.length
    rw [List.length_map] at this
    omega
  have sz := size_of_entries he
  have lz : ((xs.zip us).map fun p => (p.1.1, p.1.2.1, p.2)).length = xs.length := by
    rw [List.length_map, List.length_zip, lu, Nat.min_self]
  refine ⟨hs, hd, ex, es, ep, hdt, by rw [sz, lz], fun i x e => ?_⟩
  have e1 := entry_at he i
  obtain ⟨hi, ex2⟩ := List.getElem?_eq_some_iff.mp e
  have hu : us[i]? = some us[i] := List.getElem?_eq_getElem (by omega)
  have e2 : (xs.zip us)[i]? = some (x, us[i]) := by
    rw [List.getElem?_zip_eq_some]
    exact ⟨e, hu⟩
  rw [List.getElem?_map, e2] at e1
  exact ⟨_, e1, rfl⟩
def Itkn (P : Program) (w : World) (d : Addr) (o : Obj) (xs : List Ent) : It :=
  ⟨fun i H => H d = some (.frz o (dn P w d xs)) ∧ i < xs.length, fun i H x H' => H' = H ∧ ∃ e, xs[i]? = some e ∧ x = .ref e.2.1, fun i H => H d = some (.frz o (dn P w d xs)) ∧ xs.length ≤ i⟩
theorem turn_keysN {P : Program} {w : World} {K : PySem.W.Frag} {tg : Expr} {d : Addr} {o : Obj} {es : Array DictEntry} {ep : Nat} {xs : List Ent} (it : Addr) (hod : o.data = .dict es ep) : Turn P w K tg (Itkn P w d o xs) [it] it (fun i h => h.IsKeyIter it d i xs.length ep) where
  mem := by simp
  obj := fun i h st b hb => by
    have e : b = it := by simpa using hb
    subst e
    obtain ⟨oi, e, c, dd⟩ := st
    exact ⟨oi, e, fun v z => by rw [dd] at z; cases z⟩
  keep := fun i h h' st k => st.at fun oi e => k it (by simp) oi e
  item := by
    intro X hP hw hK hc i pins s σ H E I hf st hg
    subst hP hw hK
    obtain ⟨hd, hi⟩ := hg
    obtain ⟨f0, f1, f2, f3, f4, f5⟩ := hf it (by simp)
    obtain ⟨hs, hgd, hx, es', ep', hdt, hsz, ent⟩ := frzN I hd
    obtain ⟨rfl, rfl⟩ := dict_ep hod hdt
    obtain ⟨e0, he0⟩ : ∃ p, xs[i]? = some p := ⟨xs[i], List.getElem?_eq_getElem hi⟩
    obtain ⟨en, hen, hkey⟩ := ent i e0 he0
    refine next_key_item st hgd hdt hsz hen fun h' st' sb => ?_
    have I1 : Inv X pins σ H { s with heap := h' } := I.turned (t' := s.toks) (fun b ob hb e => (sb.2 b hb).trans e) f0 f1 f3 f4 f5
    obtain ⟨oi, e, c, dd⟩ := id st'
    exact ⟨en.key, rfl, go_of (s := { s with heap := h' }) e c dd (by decide) ⟨.ref e0.2.1, H, I1, hkey, ⟨rfl, e0, he0, rfl⟩, st', fun b hb => (hf b hb).1⟩⟩
  done := by
    intro X hP hw hK hc i pins s σ H E I hf st hg
    subst hP hw hK
    obtain ⟨hd, hi⟩ := hg
    obtain ⟨f0, f1, f2, f3, f4, f5⟩ := hf it (by simp)
    obtain ⟨hs, hgd, hx, es', ep', hdt, hsz, ent⟩ := frzN I hd
    obtain ⟨rfl, rfl⟩ := dict_ep hod hdt
    exact next_key_end (I.ok.hd hc) st hgd hdt hsz hi fun h' eb => ⟨rfl, I.turned (t' := s.toks) (fun b ob hb e => eb b ob hb e) f0 f1 f3 f4 f5⟩
  self := fun A i s Q E st h => by
    refine wpAny_pyIter_slot st.typeIs F.slot_dict_keyiterator_iter (wpAny_call_entry F.slot_dict_keyiterator_iter st.typeIs F.entry_dict_keyiterator_iter ?_ (F.args_dict_keyiterator_iter_1 _))
    show wpAny _ _ (ret (.ref it)) _ _ s
    exact wpAny_pure ⟨_, rfl, "dict_keyiterator", _, st.typeIs, F.slot_dict_keyiterator_next.lookup, h⟩
/-- the dict is locked (tLockE) -/
def iKeysN (P : Program) (w : World) (td : TE) : TI := fun σ H R => td σ H fun x H1 => ∃ (d : Addr) (o : Obj) (xs : List Ent), x = .ref d ∧ H1 d = some (.frz o (dn P w d xs)) ∧ R (Itkn P w d o xs) H1
theorem pi_keysN {P : Program} {w : World} {tg e : Expr} {td : TE} (he : PE X e td) (hP : X.prog = P := by rfl) (hw : X.w = w := by rfl) : PI X tg e (iKeysN P w td) := by
  subst hP hw
  refine ⟨fun pins s σ H R I h => ?_⟩
  refine thn (he.run pins s σ H _ I h) fun u s1 ⟨x, H1, I1, rx, d, o, xs, ex, hd, q⟩ => ?_
  subst ex
  obtain rfl : u = Value.ref d := rx
  obtain ⟨hs, hgd, hx, es, ep, hdt, hsz, ent⟩ := frzN I1 hd
  refine iter_keys hs hgd hx hdt (pi_one (tk := s1.toks) I1 _ (turn_keysN _ hdt) ⟨_, Heap.get?_push_size _ rfl, rfl, ?_⟩ q)
  rw [hsz] <;> rfl
/-! ### {k: v for ..} -/
theorem n_dictSet {E : Value → Shared → Prop} {D a : Addr} {xs : List Ent} {k : NK} {v : V} {r : Value} {Q : Unit → Shared → Prop} (hu : X.A.units + 40 < cLine) (I : Inv X pins σ H s) (hD : Dct X.prog X.w H D xs) (hz : xs.length < 1000) (hk : KeyV H k (.ref a)) (hd : k.depth ≤ 8)
    (rv : RelV v r) (h : ∀ s', Inv X pins σ (upd H D (dn X.prog X.w D (putE xs k a v))) s' → Q () s') : wpAny (model X.prog X.w) X.A (dictSet D (.ref a) r) Q E s := by
  obtain ⟨zs, m, p, hl, hs⟩ := hD.keyed I.hok
  refine wpAny_dictSet_heap (show (nestedKind X.prog X.w).room X.A from (by show X.A.units + 8 < cLine; omega)) (key_is I hk hd) m (fun h' m' sb => h _ ?_) (by rw [← Alike.len p]; exact hl)
  have hz2 := len_put xs k a v
  refine I.write (x := D) (e := D) (o := dn X.prog X.w D (putE xs k a v)) (by rw [hD.1]; exact True.intro) (.inl rfl) (fun b o hb e => (sb.2 b hb).trans e) ?_ (dn_ok m' (Alike.put p k a rv) (Nat.le_trans hz2 (by rw [sizeLine_eq]; omega)) hs)
  obtain ⟨o, _, _, g, _⟩ := m'
  exact ⟨o, g⟩
/-- {k: v for target in iter}, keys nested: D the new dict -/
def tDcN (P : Program) (w : World) (wi : TI) (g : TG) (tk tv : TE) (vs : List Nat) : TE := fun σ H Q => wi σ H fun J H1 => ∀ D, H1 D = none → ∃ W : Nat → Nat → Hp → Prop, (∃ m, W 0 m (upd H1 D (dn P w D []))) ∧ ∀ i m H, W i m H →
  (J.stop i H ∧ Q (.ref D) H) ∨ (J.go i H ∧ ∃ Nx : Hp → Prop, (∀ H', Nx H' → ∃ m', m' < m ∧ W (i + 1) m' H') ∧ ∀ x H', J.yld i H x H' → g x (wipe σ vs) H' fun σ2 H2 => wipe σ2 vs = wipe σ vs ∧ tk σ2 H2 fun y H4 => tv σ2 H4 fun z H5 =>
    ∃ (xs : List Ent) (k : NK) (a : Addr), y = .ref a ∧ Dct P w H5 D xs ∧ KeyV H5 k (.ref a) ∧ k.depth ≤ 8 ∧ xs.length < 1000 ∧ Nx (upd H5 D (dn P w D (putE xs k a z))))
open CMP in
/-- one turn -/
theorem dturn {tg kx vx : Expr} {scope : Scope} {own : List (Str × Nat)} {fp : List Addr} {ce : Env} {g : TG} {tk tv : TE} {J : It} {it D : Addr} {tn : Nat → Heap → Prop} {W : Nat → Nat → Hp → Prop} {s0 s : Shared} {H0 G : Hp} {i m : Nat} {R : Result → Shared → Prop} (hc : X.calm = true) (hu : X.A.units + 40 < cLine)
    (T : Turn X.prog X.w X.K tg J fp it tn) (pg : PG (X.blk s0 H0 scope ce fp) tg g) (pk : PE (X.blk s0 H0 scope ce fp) kx tk) (pv : PE (X.blk s0 H0 scope ce fp) vx tv) (K0 : Inv (X.blk s0 H0 scope ce fp) [] (wipe σ (own.map (·.2))) G s) (k1 : tn i s.heap) (k2 : ∀ b ∈ fp, G b = none) (go : J.go i G) {Nx : Hp → Prop}
    (hNx : ∀ H', Nx H' → ∃ m', m' < m ∧ W (i + 1) m' H') (step : ∀ x H', J.yld i G x H' → g x (wipe σ (own.map (·.2))) H' fun σ2 H2 => wipe σ2 (own.map (·.2)) = wipe σ (own.map (·.2)) ∧ tk σ2 H2 fun y H4 => tv σ2 H4 fun z H5 =>
      ∃ (xs : List Ent) (k : NK) (a : Addr), y = .ref a ∧ Dct X.prog X.w H5 D xs ∧ KeyV H5 k (.ref a) ∧ k.depth ≤ 8 ∧ xs.length < 1000 ∧ Nx (upd H5 D (dn X.prog X.w D (putE xs k a z)))) :
    wpAny (model X.prog X.w) X.A (pyNext (.ref it)) (fun r s1 => match r with
      | none => R (.ok .next) s1
      | some v => wpAny (model X.prog X.w) X.A (letOwnedTupleGo tg (.ref it) v) (fun _ s2 => wpAny (model X.prog X.w) X.A (assign tg ce v) (fun _ s3 =>
          wpAny (model X.prog X.w) X.A (forIn ([] : List Expr) true fun c r => if r = true then do let ok ← isTrue c ce (eval c ce); pure (ForInStep.yield ok) else pure (ForInStep.yield r)) (fun ok s4 =>
            if ok = true then wpAny (model X.prog X.w) X.A (eval kx ce) (fun kv s5 => wpAny (model X.prog X.w) X.A (eval vx ce) (fun vv s6 =>
              wpAny (model X.prog X.w) X.A (dictSet D kv vv) (fun _ s7 => ∃ m', m' < m ∧ Btw X ce scope fp own σ tn W s0 H0 m' s7) (notedBy (model X.prog X.w) X.A ce fun e s' => R (.error e) s') s6) (notedBy (model X.prog X.w) X.A ce fun e s' => R (.error e) s') s5) (notedBy (model X.prog X.w) X.A ce fun e s' => R (.error e) s') s4
            else ∃ m', m' < m ∧ Btw X ce scope fp own σ tn W s0 H0 m' s4) (notedBy (model X.prog X.w) X.A ce fun e s' => R (.error e) s') s3) (notedBy (model X.prog X.w) X.A ce fun e s' => R (.error e) s') s2) (notedBy (model X.prog X.w) X.A ce fun e s' => R (.error e) s') s1) (notedBy (model X.prog X.w) X.A ce fun e s' => R (.error e) s') s := by
  refine thnF (T.item (X.blk s0 H0 scope ce fp) rfl rfl rfl hc i [] s _ G (fun _ _ => False) K0 (own_ok K0 k2) k1 go) fun r s1 hr => ?_
  obtain ⟨u, rfl, hu2⟩ := hr
  refine thnF hu2 fun _ s2 h2 => ?_
  obtain ⟨x, G2, K2, rx, yx, st2, n2⟩ := h2
  refine thnF (pg.run _ s2 _ G2 x u _ (K2.pinned (own_ok K2 n2) (T.obj _ _ st2)) rx (step x G2 yx)) fun _ s3 h3 => ?_
  obtain ⟨σ3, G3, K3, w3, q3⟩ := h3
  refine wpAny_tests_nil ?_
  refine thnF (pk.run _ s3 σ3 G3 _ K3 q3) fun kv s4 h4 => ?_
  obtain ⟨y, G4, K4, ry, q4⟩ := h4
  refine thnF (pv.run _ s4 σ3 G4 _ K4 q4) fun vv s5 h5 => ?_
  obtain ⟨z, G5, K5, rz, xs, k, a, rfl, hD, hk, hd, hz, nx⟩ := h5
  cases (show kv = Value.ref a from ry)
  refine n_dictSet (X := X.blk s0 H0 scope ce fp) hu K5 hD hz hk hd rz fun s6 K6 => ?_
  obtain ⟨m', lt, w'⟩ := hNx _ nx
  have held : ∀ b ∈ fp, ∀ o, s2.heap.get? b = some o → s6.heap.get? b = some o ∧ (upd G5 D (dn X.prog X.w D (putE xs k a z))) b = none := fun b hb o e =>
    have q := K6.pin (b, o) (List.mem_append_right _ (List.mem_append_right _ (mem_pinsAt hb e)))
    ⟨q.1, q.2.1⟩
  have len : (wipe σ (own.map (·.2))).length = σ3.length := (congrArg List.length w3).symm.trans (wipe_length _ _)
  refine ⟨m', lt, i + 1, _, (K6.unpinned (pins := [])).weak len fun j v e => ?_, T.keep _ _ _ st2 fun b hb o e => (held b hb o e).1, fun b hb => ?_, w'⟩
  · rw [← w3] at e
    exact (wipe_some e).1
  · obtain ⟨o, e, _⟩ := T.obj _ _ st2 b hb
    exact (held b hb o e).2
open CMP in
theorem pe_dcN {P : Program} {w : World} {kx vx tg iter : Expr} {scope : Scope} {own : List (Str × Nat)} {pos : Pos} {wi : TI} {g : TG} {tk tv : TE} (hc : X.calm = true) (hN : X.N.Nodup) (hu : X.A.units + 40 < cLine) (hi : PI X tg iter wi) (ok : BlkOk X.N X.env.scope scope own)
    (hg : ∀ (s0 : Shared) (H0 : Hp) (C : Addr) (cl : List (Str × Addr)) (fp : List Addr), PG (X.blk s0 H0 scope (compEnvC scope cl C X.env) fp) tg g) (hk : ∀ (s0 : Shared) (H0 : Hp) (C : Addr) (cl : List (Str × Addr)) (fp : List Addr), PE (X.blk s0 H0 scope (compEnvC scope cl C X.env) fp) kx tk)
    (hv : ∀ (s0 : Shared) (H0 : Hp) (C : Addr) (cl : List (Str × Addr)) (fp : List Addr), PE (X.blk s0 H0 scope (compEnvC scope cl C X.env) fp) vx tv) (hs : ∀ x, foldedSetIterable iter X.env x = pure x := by intro _; rfl) (hP : X.prog = P := by rfl) (hw : X.w = w := by rfl) :
    PE X (.DictComp kx vx [⟨tg, iter, [], 0⟩] scope pos) (tDcN P w wi g tk tv (own.map (·.2))) := by
  subst hP hw
  refine ⟨fun pins s σ H Q I h => ?_⟩
  rw [arm_eval_DictComp]
  have hf : ∀ y ∈ scope.names, y.2 = .free → ∃ c, X.env.cells.lookup y.1 = some c := fun y hy e => (ok.free y hy e).elim (fun k => I.ok.has _ (.inl k)) fun k => I.ok.has _ (.inr k)
  refine wpAny_comprehension_free (use := none) rfl hs (closure_ok hf) ok.kind (fun y hy e => by rw [ok.uniq y hy, e]) (thn (hi.run pins s σ H _ I h) fun xv s1 hx => thn hx fun itv s2 h2 => ?_)
  obtain ⟨it, fp, tn, J, G, rfl, I2, T, k2, f2, q⟩ := h2
  refine wpAny_newObj_type (newEnv_comp ?_)
  have nD : G s2.heap.objs.size = none := I2.hok.fresh (Nat.le_refl _)
  obtain ⟨W, ⟨m0, w0⟩, go⟩ := q _ nD
  have up : ∀ b o, s2.heap.get? b = some o → (s2.heap.push { cls := .type "dict", data := .dict #[] }).get? b = some o := fun b o e => Heap.get?_push_of_some _ e
  generalize e3 : ({ s2 with heap := s2.heap.push { cls := .type "dict", data := .dict #[] } } : Shared) = s3
  have I3 : Inv X pins σ (upd G s2.heap.objs.size (dn X.prog X.w s2.heap.objs.size [])) s3 := by
    subst e3
    have m : (s2.heap.push { cls := .type "dict", data := .dict #[] }).DictOfH (nestedKind X.prog X.w) s2.heap.objs.size [] := Heap.DictOfH.new s2.heap
    exact I2.laid (t' := s2.toks) up (Nat.le_refl _) (dn_ok (xs := []) m .nil (Nat.zero_le _) (beq_eq_false_iff_ne.mpr (Nat.ne_of_gt I2.big)))
  have f3 : ∀ b ∈ fp, FpOk X pins (upd G s2.heap.objs.size (dn X.prog X.w s2.heap.objs.size [])) b ∧ b < s3.heap.objs.size := fun b hb => by
    obtain ⟨o, e, _⟩ := T.obj _ _ k2 b hb
    have lt := Heap.lt_size e
    subst e3
    exact ⟨⟨(upd_ne (Nat.ne_of_lt lt)).trans (f2 b hb).1, (f2 b hb).2⟩, by rw [Heap.size_push]; exact Nat.lt_succ_of_lt lt⟩
  have k3 : tn 0 s3.heap := T.keep _ _ _ k2 fun b _ o e => by
    subst e3
    exact up b o e
  generalize hD : s2.heap.objs.size = D at nD w0 go I3 f3
  generalize upd G D (dn X.prog X.w D []) = G3 at w0 I3 f3
  have I4 := block_start I3 ok hN f3
  have k4 := T.keep _ _ _ k3 fun b _ o e => pushCells_keeps scope.names (s3.heap.push { cls := .type "dict", data := .dict #[] }) b o (Heap.get?_push_of_some _ e)
  have pg := hg s3 G3 s3.heap.objs.size (cellsFrom (s3.heap.objs.size + 1) scope.names (cloFrom X.env.cells scope.names [])) fp
  have pk := hk s3 G3 s3.heap.objs.size (cellsFrom (s3.heap.objs.size + 1) scope.names (cloFrom X.env.cells scope.names [])) fp
  have pv := hv s3 G3 s3.heap.objs.size (cellsFrom (s3.heap.objs.size + 1) scope.names (cloFrom X.env.cells scope.names [])) fp
  show codeAny _ _ (.compStart (.DictComp kx vx [⟨tg, iter, [], 0⟩] scope pos) 0 (.ref it) (.ref D) (benv X s3 scope)) (compPost (model X.prog X.w) X.A X.xe none _ (.ref D) s3.heap.objs.size) { s3 with heap := pushCells (s3.heap.push { cls := .type "dict", data := .dict #[] }) scope.names }
  have loop : codeAny (model X.prog X.w) X.A (.compLoop (.DictComp kx vx [⟨tg, iter, [], 0⟩] scope pos) 0 (.ref it) (.ref D) (benv X s3 scope)) (compPost (model X.prog X.w) X.A X.xe none (EP X pins σ Q) (.ref D) s3.heap.objs.size) { s3 with heap := pushCells (s3.heap.push { cls := .type "dict", data := .dict #[] }) scope.names } := by
    refine compLoop_anyD (Btw X (benv X s3 scope) scope fp own σ tn W s3 G3) ?_ m0 ⟨0, G3, I4, k4, fun b hb => (f3 b hb).1.1, w0⟩
    rintro n s5 ⟨i, G5, J5, k5, n5, w5⟩
    rcases go i n G5 w5 with ⟨stop, qq⟩ | ⟨yes, Nx, hNx, step⟩
    · refine thnF (T.done (X.blk s3 G3 scope (benv X s3 scope) fp) rfl rfl rfl hc i [] s5 _ G5 (fun _ _ => False) J5 (own_ok J5 n5) k5 stop) fun r s6 hr => ?_
      obtain ⟨rfl, J6⟩ := hr
      have I6 : Inv X pins σ G5 s6 := I3.call' (ch := fp) J6.os J6.base J6.hok J6.bare fun b hb => ⟨(f3 b hb).1.2.2.2.1, (f3 b hb).1.2.1, (f3 b hb).1.2.2.2.2.1, (f3 b hb).1.2.2.2.2.2⟩
      obtain ⟨m, hm, _⟩ := J6.loc
      obtain ⟨q0, q1, q2, q3, q4, q5⟩ := I3.fpOk (Nat.le_refl _) J6.free
      exact ⟨m, hm, fun h'' sb => ⟨.ref D, G5, I6.turned (t' := s6.toks) (fun b o hb e => (sb.2 b hb).trans e) q0 q1 q3 q4 q5, rfl, qq⟩⟩
    · exact dturn hc hu T pg pk pv J5 k5 n5 yes hNx fun x G' y => step x G' y
  exact codeAny_compStart_dict loop (T.self X.A 0 _ _ _ k4 loop)
/-- over a list of refs to keys, all unlike: what stands is told -/
theorem dc_listN {P : Program} {w : World} {K : PySem.W.Frag} {a : Addr} {xs : List V} {g : TG} {tk tv : TE} {vs : List Nat} {σ : L2.St} {H1 : Hp} {D : Addr} {Qd : Hp → Prop} (Pv : Nat → Hp → Prop) (h0 : Pv 0 (upd H1 D (dn P w D []))) (hl : ∀ i H, i ≤ xs.length → Pv i H → SqL K H a xs)
    (hs : ∀ i x H, xs[i]? = some x → Pv i H → g x (wipe σ vs) H fun σ2 H2 => wipe σ2 vs = wipe σ vs ∧ tk σ2 H2 fun y H4 => tv σ2 H4 fun z H5 => ∃ (xs : List Ent) (k : NK) (a : Addr), y = .ref a ∧ Dct P w H5 D xs ∧ KeyV H5 k (.ref a) ∧ k.depth ≤ 8 ∧ xs.length < 1000 ∧ Pv (i + 1) (upd H5 D (dn P w D (putE xs k a z)))) (hd : ∀ H, Pv xs.length H → Qd H) :
    ∃ W : Nat → Nat → Hp → Prop, (∃ m, W 0 m (upd H1 D (dn P w D []))) ∧ ∀ i m H, W i m H →
      ((Itl K a).stop i H ∧ Qd H) ∨ ((Itl K a).go i H ∧ ∃ Nx : Hp → Prop, (∀ H', Nx H' → ∃ m', m' < m ∧ W (i + 1) m' H') ∧ ∀ x H', (Itl K a).yld i H x H' → g x (wipe σ vs) H' fun σ2 H2 => wipe σ2 vs = wipe σ vs ∧ tk σ2 H2 fun y H4 => tv σ2 H4 fun z H5 =>
        ∃ (xs : List Ent) (k : NK) (a : Addr), y = .ref a ∧ Dct P w H5 D xs ∧ KeyV H5 k (.ref a) ∧ k.depth ≤ 8 ∧ xs.length < 1000 ∧ Nx (upd H5 D (dn P w D (putE xs k a z)))) := by
  refine ⟨fun i m H => m + i = xs.length ∧ Pv i H, ⟨xs.length, rfl, h0⟩, fun i m H ⟨e, p⟩ => ?_⟩
  have q := hl i H (by omega) p
  cases m with
  | zero =>
    have e : i = xs.length := by omega
    subst e
    exact .inl ⟨⟨xs, q, Nat.le_refl _⟩, hd H p⟩
  | succ m =>
    have hlt : i < xs.length := by omega
    refine .inr ⟨⟨xs, xs[i], q, List.getElem?_eq_getElem hlt⟩, Pv (i + 1), fun H' p' => ⟨m, Nat.lt_succ_self m, by omega, p'⟩, fun x H' y => ?_⟩
    obtain ⟨rfl, y⟩ := y
    exact hs i x _ (y xs q) p
/-- [.. for x in d ..], d locked -/
theorem lc_keysN {P : Program} {w : World} {d : Addr} {o : Obj} {xs : List Ent} {g : TG} {tt : TT} {te : TE} {vs : List Nat} {σ : L2.St} {H1 : Hp} {D : Addr} {Qd : Hp → Prop} (Pv : Nat → Hp → Prop) (h0 : Pv 0 (upd H1 D (.lst []))) (hl : ∀ i H, i ≤ xs.length → Pv i H → H d = some (.frz o (dn P w d xs)))
    (hs : ∀ i e H, xs[i]? = some e → Pv i H → g (.ref e.2.1) (wipe σ vs) H fun σ2 H2 => wipe σ2 vs = wipe σ vs ∧ tt σ2 H2 fun b H3 => if b = true then te σ2 H3 fun y H4 => ∃ acc, H4 D = some (.lst acc) ∧ acc.length < sizeLine ∧ Pv (i + 1) (upd H4 D (.lst (acc ++ [y]))) else Pv (i + 1) H3) (hd : ∀ H, Pv xs.length H → Qd H) :
    ∃ W : Nat → Nat → Hp → Prop, (∃ m, W 0 m (upd H1 D (.lst []))) ∧ ∀ i m H, W i m H →
      ((Itkn P w d o xs).stop i H ∧ Qd H) ∨ ((Itkn P w d o xs).go i H ∧ ∃ Nx : Hp → Prop, (∀ H', Nx H' → ∃ m', m' < m ∧ W (i + 1) m' H') ∧ ∀ x H', (Itkn P w d o xs).yld i H x H' → g x (wipe σ vs) H' fun σ2 H2 => wipe σ2 vs = wipe σ vs ∧ tt σ2 H2 fun b H3 =>
        if b = true then te σ2 H3 fun y H4 => ∃ acc, H4 D = some (.lst acc) ∧ acc.length < sizeLine ∧ Nx (upd H4 D (.lst (acc ++ [y]))) else Nx H3) := by
  refine ⟨fun i m H => m + i = xs.length ∧ Pv i H, ⟨xs.length, rfl, h0⟩, fun i m H ⟨e, p⟩ => ?_⟩
  have q := hl i H (by omega) p
  cases m with
  | zero =>
    have e : i = xs.length := by omega
    subst e
    exact .inl ⟨⟨q, Nat.le_refl _⟩, hd H p⟩
  | succ m =>
    have hlt : i < xs.length := by omega
    refine .inr ⟨⟨q, hlt⟩, Pv (i + 1), fun H' p' => ⟨m, Nat.lt_succ_self m, by omega, p'⟩, fun x H' y => ?_⟩
    obtain ⟨rfl, e, he, rfl⟩ := y
    exact hs i e _ he p
theorem pe_fldK {K : PySem.W.Frag} {e : Expr} {f : Str} {ta : TE} {pos : Pos} (he : PE X e ta) (hb : attributeBase e f X.env (eval e X.env) = eval e X.env) (hK : X.K = K := by rfl) : PE X (.Attribute e f pos) (tFld K ta f) := by
  subst hK
  exact pe_fld he hb
/-! ### x in a list of data -/
def rInL (neg : Bool) : R2 := fun x y H Q => ∃ (a : Addr) (ys : List V) (d : PyData) (ds : List PyData), y = .ref a ∧ H a = some (.lst ys) ∧ ShwAll H ys ds ∧ Shw H x d ∧ d.depth ≤ 40 ∧ Q (.bl (if neg then !(ds.any fun z => PyData.eqv z d) else ds.any fun z => PyData.eqv z d)) H
theorem list_shw {a : Addr} {ys : List V} {ds : List PyData} (I : Inv X pins σ H s) (h : H a = some (.lst ys)) (hall : ShwAll H ys ds) : ∃ as, Reads s.heap (.ref a) (.list ds) as := by
  obtain ⟨its, rv, ⟨⟨cls, dd, data, sls⟩, n, ho, hc, hdn, hdt⟩, hlen⟩ := I.list (show SqL X.K H a ys from .inl (.inl h))
  simp only at hc hdt
  subst hc hdt
  obtain ⟨as, h4⟩ := hall.reads I.hok rv
  exact ⟨_, Reads.list ho rfl rfl (show ReadsAll s.heap its.toArray.toList ds as from h4)⟩
theorem op_inL (hu : X.A.units + 64 < cLine) : OpR X (compareOp .In) (rInL false) := by
  intro pins s σ H x y v u Q I rx ry h
  obtain ⟨a, ys, d, ds, rfl, ha, hall, hx, hdp, q⟩ := h
  cases (show u = Value.ref a from ry)
  obtain ⟨as, r1⟩ := list_shw I ha hall
  obtain ⟨bs, r2⟩ := hx.reads I.hok rx
  have := Nat.min_le_right (PyData.depthAll ds) d.depth
  exact SeqAt.in_list_data r1 r2 (shws_plain hall) (shw_plain hx) (by omega) ⟨.bl _, H, I, rfl, q⟩
theorem op_notInL (hu : X.A.units + 64 < cLine) : OpR X (compareOp .NotIn) (rInL true) := by
  intro pins s σ H x y v u Q I rx ry h
  obtain ⟨a, ys, d, ds, rfl, ha, hall, hx, hdp, q⟩ := h
  cases (show u = Value.ref a from ry)
  obtain ⟨as, r1⟩ := list_shw I ha hall
  obtain ⟨bs, r2⟩ := hx.reads I.hok rx
  have := Nat.min_le_right (PyData.depthAll ds) d.depth
  exact SeqAt.notIn_list_data r1 r2 (shws_plain hall) (shw_plain hx) (by omega) ⟨.bl _, H, I, rfl, q⟩
/-! ### dict(pairs), the keys unlike -/
theorem alike_back : ∀ {xs : List Ent} {zs : List (NK × Addr × Value)}, Alike xs zs → ∀ z ∈ zs, ∃ x ∈ xs, x.1 = z.1 ∧ x.2.1 = z.2.1 ∧ RelV x.2.2 z.2.2
  | _, _, .nil, z, hz => by cases hz
  | _, _, .cons (a := x) (b := y) h t, z, hz => by
    rcases List.mem_cons.mp hz with rfl | hz
    · exact ⟨x, List.mem_cons_self .., h⟩
    · obtain ⟨x', hx, r⟩ := alike_back t z hz
      exact ⟨x', List.mem_cons_of_mem _ hx, r⟩
theorem paired_back {α β : Type} {G : α → β → Prop} : ∀ {xs : List α} {ys : List β}, Paired G xs ys → ∀ y ∈ ys, ∃ x, x ∈ xs ∧ G x y
  | _, _, .nil, z, hz => by cases hz
  | _, _, .cons (a := x) (b := y) h t, z, hz => by
    rcases List.mem_cons.mp hz with rfl | hz
    · exact ⟨x, List.mem_cons_self .., h⟩
    · obtain ⟨x', hx, r⟩ := paired_back t z hz
      exact ⟨x', List.mem_cons_of_mem _ hx, r⟩
def rDictPN (P : Program) (w : World) : List V → Hp → VK → Prop := fun xs H Q => ∃ (l : Addr) (ts : List Addr) (es : List Ent), xs = [.ref l] ∧ H l = some (.lst (ts.map V.ref)) ∧
  Paired (fun t e => H t = some (.tup [.ref e.2.1, e.2.2]) ∧ KeyV H e.1 (.ref e.2.1) ∧ e.1.depth ≤ 8) ts es ∧ (es.map (·.1)).Nodup ∧ ∀ p, H p = none → Q (.ref p) (upd H p (dn P w p es))
theorem pairs_ofN (I : Inv X pins σ H s) : ∀ {ts : List Addr} {es : List Ent}, Paired (fun t e => H t = some (.tup [.ref e.2.1, e.2.2]) ∧ KeyV H e.1 (.ref e.2.1) ∧ e.1.depth ≤ 8) ts es →
    ∃ zs : List (NK × Addr × Value), Alike es zs ∧ zs.length = ts.length ∧ ∀ (j : Nat) (q : NK × Addr × Value), zs[j]? = some q → ∃ b : Addr, ts[j]? = some b ∧ IsTup s.heap b #[.ref q.2.1, q.2.2]
  | _, _, .nil => ⟨[], .nil, rfl, fun j q e => by simp at e⟩
  | _, _, .cons (a := t) (b := e) h r => by
    obtain ⟨zs, ak, hl, hp⟩ := pairs_ofN I r
    obtain ⟨_, its, rv, ht⟩ := (show ObjOk X.prog X.w H s.heap t (.tup [.ref e.2.1, e.2.2]) from I.hok t _ h.1)
    obtain ⟨u, y, rfl, ru, ry⟩ := vals2 rv
    cases (show u = Value.ref e.2.1 from ru)
    refine ⟨(e.1, e.2.1, y) :: zs, .cons ⟨rfl, rfl, ry⟩ ak, by rw [List.length_cons, List.length_cons, hl], fun j q ej => ?_⟩
    cases j with
    | zero =>
      cases ej
      exact ⟨t, rfl, ht⟩
    | succ j => exact hp j q (by simpa using ej)
theorem cr_dictPN {P : Program} {w : World} (hc : X.calm = true) (hu : X.A.units + 40 < cLine) (hP : X.prog = P := by rfl) (hw : X.w = w := by rfl) : CallR X (.type "dict") (rDictPN P w) := by
  subst hP hw
  intro pins s σ H vs us Q I r h
  obtain ⟨l, ts, es, rfl, hl, hp, nd, q⟩ := h
  rw [Vals.ref1 r]
  obtain ⟨zs, ak, hz, hat⟩ := pairs_ofN I hp
  obtain ⟨hlen, its, n, rv, hg⟩ := (show ObjOk X.prog X.w H s.heap l (.lst (ts.map V.ref)) from I.hok l _ hl)
  have ei := refs_at rv
  subst ei
  rw [List.length_map] at hlen
  have lez : es.length = zs.length := Alike.len ak
  have szl := sizeLine_eq
  have its_at : ∀ (j : Nat) (q : NK × Addr × Value), zs[j]? = some q → ∃ b : Addr, ts[j]? = some b ∧ IsTup s.heap b #[.ref q.2.1, q.2.2] := hat
  refine call_dict_pairsH (knd := nestedKind X.prog X.w) (ps := zs) (PairArg.list l (ts.map Value.ref).toArray (fun j => ts.getD j 0) (zs.map fun z => (Value.ref z.2.1, z.2.2))) (I.ok.hd hc) (show X.A.units + 1 + 1 + 8 < cLine by omega) ⟨⟨_, n, hg, rfl, rfl, rfl⟩, by simp [hz], fun j k v e => ?_⟩ ⟨by simp, fun i key v e => ?_⟩ (fun h' hk x hx => ?_) (by rw [List.length_map]; omega) fun h' tk hd' k => ?_
  · rw [List.getElem?_map] at e
    obtain ⟨z, hzj, e2⟩ := Option.map_eq_some_iff.mp e
    cases e2
    obtain ⟨b, hb, ht⟩ := its_at j z hzj
    refine ⟨by simp [hb], .inl ?_⟩
    have eb : (fun j => ts.getD j 0) j = b := by simp [hb]
    rw [eb]
    exact ht
  · rw [show PairRel (zs.map fun z => (Value.ref z.2.1, z.2.2)) i key v = ((zs.map fun z => (Value.ref z.2.1, z.2.2))[i]? = some (key, v)) from rfl, List.getElem?_map] at e
    obtain ⟨z, hzj, e2⟩ := Option.map_eq_some_iff.mp e
    cases e2
    exact ⟨z.1, z.2.1, hzj, rfl⟩
  · obtain ⟨e, he, e1, e2⟩ : ∃ e : Ent, (∃ t, H t = some (.tup [.ref e.2.1, e.2.2]) ∧ KeyV H e.1 (.ref e.2.1) ∧ e.1.depth ≤ 8) ∧ e.1 = x.1 ∧ e.2.1 = x.2.1 := by
      obtain ⟨e, hem, e1, e2, _⟩ := alike_back ak x hx
      obtain ⟨t, _, ht⟩ := paired_back hp e hem
      exact ⟨e, ⟨t, ht⟩, e1, e2⟩
    obtain ⟨t, _, hk1, hk2⟩ := he
    rw [← e1, ← e2]
    have ok' : ∀ a o, s.heap.get? a = some o → h'.get? a = some o := fun a o eo => hk a o (Nat.ne_of_lt (Heap.lt_size eo)) (by simp) eo
    have big : KeyV H e.1 (.ref e.2.1) → NestedIs h' e.1 (.ref e.2.1) := fun hk' => NestedIs.at (fun a o _ _ eo _ => ok' a o eo) _ _ (hk'.is I.hok rfl)
    exact ⟨big hk1, hk2⟩
  · have nz : (zs.map (·.1)).Nodup := by rw [← Alike.keys ak]; exact nd
    rw [storedAllH_nil_of_nodup zs nz] at hd'
    have ok : ObjOk X.prog X.w (upd H s.heap.objs.size (dn X.prog X.w s.heap.objs.size es)) h' s.heap.objs.size (dn X.prog X.w s.heap.objs.size es) := dn_ok hd' ak (by omega) (beq_eq_false_iff_ne.mpr (Nat.ne_of_gt I.big))
    exact ⟨.ref s.heap.objs.size, _, I.laid (t' := tk) (fun b o e => k b o (by simp) e) (Nat.le_refl _) ok, rfl, q _ (I.hok.fresh (Nat.le_refl _))⟩
end
end DN
set_option Elab.async false
set_option linter.all false
set_option maxRecDepth 100000
set_option maxHeartbeats 4000000
/-! ~o, o op p, o op= p of an own class -/
namespace OP
open PySem PySem.Spec PyProof.Rows L2 CM
section
variable {X : Cx} {CX : CXT} {pins : List (Addr × Obj)} {σ : L2.St} {H : Hp} {s : Shared} {a C dx g : Addr} {fs : List (Str × V)} {nm : Str} {k : Nat} {sp : Sp} {E : XK}
/-- what an operator's def returns: a ref (never NotImplemented) -/
theorem run_ownR {Q : VK} {us : List Value} {vs : List V} (F : FnR X.prog X.w X.K X.mg X.base CX k g sp) (hr : Room k X.A) (hx : Passes CX X E) (I : Inv X pins σ H s) (r : Vals vs us) (h : sp (.ref a :: vs) H (fun v H' => (∃ b, v = .ref b) ∧ Q v H') E) :
    wpAny (model X.prog X.w) X.A (call (.ref g) (.ref a :: us)) (PySem.W.CmpBack (EP X pins σ Q)) X.xe s :=
  wpAny_mono (run_own F hr hx I r h) (fun v s' z => by
    obtain ⟨y, H', I', ry, ⟨b, rfl⟩, q⟩ := z
    cases (show v = Value.ref b from ry)
    exact ⟨.ref b, H', I', rfl, q⟩) fun _ _ z => z
def rInvO (C : Addr) (sp : Sp) (E : XK) : V → Hp → VK → Prop := fun x H Q => ∃ a dx fs, x = .ref a ∧ H a = some (.ins C dx fs) ∧ sp [x] H Q E
theorem un_invO (o : Own X.K C "__invert__" g) (F : FnR X.prog X.w X.K X.mg X.base CX k g sp) (hr : Room k X.A) (hx : Passes CX X E) : UnR X (unaryOp .Invert) (rInvO C sp E) := by
  intro pins s σ H x v Q I rx h
  obtain ⟨a, dx, fs, rfl, hins, q⟩ := h
  cases (show v = Value.ref a from rx)
  obtain ⟨ox, od, J, hd⟩ := inst_of I hins
  obtain ⟨m, hF⟩ := I.fr
  exact PySem.W.ksp_inv hF I.ok.mod.kin J o.at_ o.fn (run_own F hr hx I .nil q)
/-- two instances of one class -/
theorem bin_same {prog : Program} {w : World} {A : Around} {E : Value → Shared → Prop} {s : Shared} {K : PySem.W.Frag} {x y C L f : Addr} {h₀ : Heap} {m : Str → Option Value} {ox oy : Obj} {od oe : Option Obj} {op : Operator} {Q : Value → Shared → Prop} (F : Fr h₀ L s.heap m) (X₀ : K.In h₀) (I : PySem.W.InstAt s.heap x ox C od) (J : PySem.W.InstAt s.heap y oy C oe) (hc : PySem.W.selfFirst K C = true)
    (hs : PySem.W.findIn K (.ref C) (PySem.dunder op.info.2) = some (some (.ref f))) (hf : PySem.W.isFn K (.ref f) = true)
    (h : wpAny (model prog w) A (call (.ref f) [.ref x, .ref y]) (PySem.W.CmpBack Q) E s) : wpAny (model prog w) A (binaryOp op (.ref x) (.ref y)) Q E s := by
  have X := X₀.keeps F.keep
  obtain ⟨cd, rest, hcd, hm⟩ := PySem.W.ksp_first hc
  rcases hi : op.info with ⟨sym, nm'⟩
  rw [hi] at hs
  dsimp only at hs
  have one := PySem.W.ksp_try X I hs hf h
  obtain ⟨hh, g, d, tt, os⟩ := s
  have L1 : PySem.W.Looks (model prog w) hh (typeOf (.ref x)) (.ref C) := I.type
  have L2 : PySem.W.Looks (model prog w) hh (typeOf (.ref y)) (.ref C) := J.type
  have L3 : PySem.W.Looks (model prog w) hh (fillsNumberSlot (.ref C) nm') true := PySem.W.fills_K X hcd hm hs
  have he : (Value.ref C == Value.ref C) = true := beq_self_eq_true _
  simp only [binaryOp, hi]
  refine wpAny_holding (wpAny_bind ?_)
  unfold binaryOp1
  refine wpAny_bind (L1.at (wpAny_bind (L2.at (wpAny_bind (L3.at ?_)))))
  simp only [he, if_true]
  refine wpAny_bind (wpAny_pure ?_)
  simp only [Bool.and_false, Bool.false_eq_true, if_false, Bool.false_and, Bool.true_and]
  repeat ((fail_if_success (with_reducible show wpAny _ _ (tryMethod _ _ _) _ _ _)); first | refine wpAny_bind (wpAny_pure ?_) | refine wpAny_bind ?_)
  refine wpAny_mono one (fun r s' hr' => ?_) fun _ _ e => e
  obtain ⟨v, rfl, hq⟩ := hr'
  repeat (first | exact hq | refine wpAny_pure ?_ | refine wpAny_bind ?_ | dsimp only)
def rBinO (C : Addr) (sp : Sp) (E : XK) : R2 := fun x y H Q => ∃ a dx fs b dy gs, x = .ref a ∧ H a = some (.ins C dx fs) ∧ y = .ref b ∧ H b = some (.ins C dy gs) ∧ sp [x, y] H (fun v H' => (∃ b, v = .ref b) ∧ Q v H') E
theorem op_binO {op : Operator} (o : Own X.K C (PySem.dunder op.info.2) g) (hc : PySem.W.selfFirst X.K C = true) (F : FnR X.prog X.w X.K X.mg X.base CX k g sp) (hr : Room k X.A) (hx : Passes CX X E) : OpR X (binaryOp op) (rBinO C sp E) := by
  intro pins s σ H x y v u Q I rx ry h
  obtain ⟨a, dx, fs, b, dy, gs, rfl, ha, rfl, hb, q⟩ := h
  cases (show v = Value.ref a from rx)
  obtain rfl : u = Value.ref b := ry
  obtain ⟨ox, od, J, hd⟩ := inst_of I ha
  obtain ⟨oy, oe, J2, hd2⟩ := inst_of I hb
  obtain ⟨m, hF⟩ := I.fr
  exact bin_same hF I.ok.mod.kin J J2 hc o.at_ o.fn (run_ownR F hr hx I (.cons (show RelV (.ref b) (Value.ref b) from rfl) .nil) q)
theorem op_ibinO {op : Operator} (o : Own X.K C (PySem.dunderI op.info.2) g) (hc : PySem.W.selfFirst X.K C = true) (F : FnR X.prog X.w X.K X.mg X.base CX k g sp) (hr : Room k X.A) (hx : Passes CX X E) : OpR X (inplaceOp op) (rBinO C sp E) := by
  intro pins s σ H x y v u Q I rx ry h
  obtain ⟨a, dx, fs, b, dy, gs, rfl, ha, rfl, hb, q⟩ := h
  cases (show v = Value.ref a from rx)
  obtain rfl : u = Value.ref b := ry
  obtain ⟨ox, od, J, hd⟩ := inst_of I ha
  obtain ⟨m, hF⟩ := I.fr
  exact PySem.W.ksp_inplace hF I.ok.mod.kin J hc o.at_ o.fn (run_ownR F hr hx I (.cons (show RelV (.ref b) (Value.ref b) from rfl) .nil) q)
end
end OP
set_option Elab.async false
set_option linter.all false
set_option maxRecDepth 100000
set_option maxHeartbeats 4000000
/-! the same where a repr runs within -/
namespace OP
open PySem PySem.Spec PyProof.Rows L2 CM GD
section
variable {X : Cx} {CX : CXT} {pins : List (Addr × Obj)} {σ : L2.St} {H : Hp} {s : Shared} {a C dx g : Addr} {fs : List (Str × V)} {nm : Str} {k : Nat} {sp : Sp} {E : XK} {fd : FuncData} {ps : List Str}
theorem run_ownG {Q : VK} {us : List Value} {vs : List V} (F : FnG X.prog X.w X.K X.mg X.base CX k g fd ps sp) (hb : Binds X.K fd ps []) (hr : Room k X.A) (gd : X.A.guards = some []) (hx : Passes CX X E) (I : Inv X pins σ H s) (r : Vals vs us) (h : sp (.ref a :: vs) H Q E) :
    wpAny (model X.prog X.w) X.A (call (.ref g) (.ref a :: us)) (EP X pins σ Q) X.xe s :=
  run_fnG (us := .ref a :: us) (vs := .ref a :: vs) (dvs := []) (ds := []) F hr gd hb .nil hx I (.cons rfl r) (by rw [List.append_nil]; exact h)
theorem run_ownRG {Q : VK} {us : List Value} {vs : List V} (F : FnG X.prog X.w X.K X.mg X.base CX k g fd ps sp) (hb : Binds X.K fd ps []) (hr : Room k X.A) (gd : X.A.guards = some []) (hx : Passes CX X E) (I : Inv X pins σ H s) (r : Vals vs us) (h : sp (.ref a :: vs) H (fun v H' => (∃ b, v = .ref b) ∧ Q v H') E) :
    wpAny (model X.prog X.w) X.A (call (.ref g) (.ref a :: us)) (PySem.W.CmpBack (EP X pins σ Q)) X.xe s :=
  wpAny_mono (run_ownG F hb hr gd hx I r h) (fun v s' z => by
    obtain ⟨y, H', I', ry, ⟨b, rfl⟩, q⟩ := z
    cases (show v = Value.ref b from ry)
    exact ⟨.ref b, H', I', rfl, q⟩) fun _ _ z => z
theorem un_invG (o : Own X.K C "__invert__" g) (F : FnG X.prog X.w X.K X.mg X.base CX k g fd ps sp) (hb : Binds X.K fd ps []) (hr : Room k X.A) (gd : X.A.guards = some []) (hx : Passes CX X E) : UnR X (unaryOp .Invert) (rInvO C sp E) := by
  intro pins s σ H x v Q I rx h
  obtain ⟨a, dx, fs, rfl, hins, q⟩ := h
  cases (show v = Value.ref a from rx)
  obtain ⟨ox, od, J, hd⟩ := inst_of I hins
  obtain ⟨m, hF⟩ := I.fr
  exact PySem.W.ksp_inv hF I.ok.mod.kin J o.at_ o.fn (run_ownG F hb hr gd hx I .nil q)
theorem op_binG {op : Operator} (o : Own X.K C (PySem.dunder op.info.2) g) (hc : PySem.W.selfFirst X.K C = true) (F : FnG X.prog X.w X.K X.mg X.base CX k g fd ps sp) (hb : Binds X.K fd ps []) (hr : Room k X.A) (gd : X.A.guards = some []) (hx : Passes CX X E) : OpR X (binaryOp op) (rBinO C sp E) := by
  intro pins s σ H x y v u Q I rx ry h
  obtain ⟨a, dx, fs, b, dy, gs, rfl, ha, rfl, hb2, q⟩ := h
  cases (show v = Value.ref a from rx)
  obtain rfl : u = Value.ref b := ry
  obtain ⟨ox, od, J, hd⟩ := inst_of I ha
  obtain ⟨oy, oe, J2, hd2⟩ := inst_of I hb2
  obtain ⟨m, hF⟩ := I.fr
  exact bin_same hF I.ok.mod.kin J J2 hc o.at_ o.fn (run_ownRG F hb hr gd hx I (.cons (show RelV (.ref b) (Value.ref b) from rfl) .nil) q)
theorem op_ibinG {op : Operator} (o : Own X.K C (PySem.dunderI op.info.2) g) (hc : PySem.W.selfFirst X.K C = true) (F : FnG X.prog X.w X.K X.mg X.base CX k g fd ps sp) (hb : Binds X.K fd ps []) (hr : Room k X.A) (gd : X.A.guards = some []) (hx : Passes CX X E) : OpR X (inplaceOp op) (rBinO C sp E) := by
  intro pins s σ H x y v u Q I rx ry h
  obtain ⟨a, dx, fs, b, dy, gs, rfl, ha, rfl, hb2, q⟩ := h
  cases (show v = Value.ref a from rx)
  obtain rfl : u = Value.ref b := ry
  obtain ⟨ox, od, J, hd⟩ := inst_of I ha
  obtain ⟨m, hF⟩ := I.fr
  exact PySem.W.ksp_inplace hF I.ok.mod.kin J hc o.at_ o.fn (run_ownRG F hb hr gd hx I (.cons (show RelV (.ref b) (Value.ref b) from rfl) .nil) q)
/-- name op= e by a two-place reading -/
theorem pip_op {op : Operator} {r : R2} (ho : OpR X (inplaceOp op) r) : PIp X op r := fun pins s σ H x y v u Q I rx ry q => ho pins s σ H x y v u Q I rx ry q
end
section
variable {X : Cx} {CX : CXT} {k : Nat} {f C : Addr} {fd : FuncData} {ps : List Str} {sp : Sp} {dvs : List V} {ds : List Value} {E : XK} {m : Str} {pos apos : Pos} {e o : Expr} {es : List Expr} {ta : TE} {t : TA}
theorem pe_methG {pl : Sem Bool} (he : PE X o ta) (c : Cls X.K C) (hm : Meth X.K C m f) (F : FnG X.prog X.w X.K X.mg X.base CX k f fd ps sp) (hr : Room k X.A) (gd : X.A.guards = some []) (hb : Binds X.K fd ps ds) (hd : Vals dvs ds) (hx : Passes CX X E) (ha : PA X (e :: es) t)
    (hst : starEach (e :: es) X.env = (false, eval e X.env) :: starEach es X.env := by rfl) (hpl : (backTo pos (starEach es X.env)).any (·.1) = false := by rfl)
    (ht : eval (.Call (.Attribute o m apos) (e :: es) [] pos) X.env = (do
      let ov ← eval o X.env
      standAt apos.atName
      let (f, first) ← holding [ov] (getMethod ov m pl)
      callWith pos f first (backTo pos (starEach (e :: es) X.env)) (backToKw pos (keywordEach [] X.env))) := by rfl) :
    PE X (.Call (.Attribute o m apos) (e :: es) [] pos) (tMeth C m sp dvs E ta t) := by
  refine ⟨fun pins s σ H Q I h => ?_⟩
  refine PySem.W.methodCall_KW (pl := pl) (thn (he.run pins s σ H _ I h) fun u s1 ⟨x, H1, I1, rx, a, dx, fs, ex, ea, l, q⟩ => ?_) ht
  subst ex
  obtain rfl : u = Value.ref a := rx
  refine getmeth_ok I1 ea c hm l ?_
  refine PySem.W.callWith_K (first := [.ref a]) (h₀ := X.base) I.ok.mod.kin hm.kp (thn (ha.run pos pins s1 σ H1 _ I1 q) fun us s2 ⟨vs, H2, I2, r, q2⟩ => ⟨I2.kIn, ?_⟩) hst hpl
  exact run_fnG (us := .ref a :: us) (vs := .ref a :: vs) F hr gd hb hd hx I2 (.cons rfl r) q2
end
end OP
set_option Elab.async false
set_option linter.all false
set_option maxRecDepth 100000
set_option maxHeartbeats 4000000
/-! sorted(xs, key=lambda x: repr(x)), the items keys of dicts -/
namespace SRT
open PySem PySem.Spec PyProof.Rows L2 CM LamX SL DN GR
/-- what repr says of a key -/
abbrev txt (k : NK) : Str := (dat k).shown
/-- may be shown -/
structure Sh (k : NK) : Prop where
  ok : (dat k).showable = true
  dp : k.depth ≤ 60
  sz : (txt k).length ≤ sizeLine
abbrev Ek := NK × Addr
def leR (a b : NK) : Bool := PySem.W.dataLe false (fun k : NK => PyData.str (txt k)) a b
def sortE (bs : List Ek) : List Ek := bs.mergeSort fun a b => leR a.1 b.1
def tSortR (T : List (Addr × Str)) (K : PySem.W.Frag) (ta : TE) : TE := fun σ H Q => ta σ H fun u H1 => Tabs T H1 ∧ ∃ (l : Addr) (bs : List Ek), u = .ref l ∧ SqL K H1 l (bs.map fun b => V.ref b.2) ∧ (∀ b ∈ bs, KeyV H1 b.1 (.ref b.2) ∧ Sh b.1) ∧
  ∀ (D : Addr) (H2 : Hp), ExtN H1 H2 → (∀ o, H1 D = some o → ∃ ps, o = .tbl ps) → Tabs T H2 → H2 D = some (.lst ((sortE bs).map fun b => V.ref b.2)) → Q (.ref D) H2
theorem extN_tup {H H' : Hp} (e : ExtN H H') : ∀ a xs, H a = some (.tup xs) → H' a = some (.tup xs) := fun a xs h => e _ _ h fun ps z => by cases z
section
variable {X : Cx}
/-- the key's reckoning -/
theorem repr_run {pins : List (Addr × Obj)} {σ : L2.St} {H : Hp} {s : Shared} {k : NK} {a : Addr} {x qual : Str} {scope : Scope} {f c' D : Addr} {cl : List (Str × Addr)} {A : Around} {p1 p2 p3 : Pos} (I : Inv X pins σ H s) (hm : X.mg "repr" = none) (hk : KeyV H k (.ref a)) (sh : Sh k)
    (gd : A.guards = some []) (hu : A.units + 90 < cLine) (L : scope.kind = .function) (hx : scope.names.lookup x = some .local) (hg : (PySem.W.envX qual scope D f (.ref c') cl).kindOf "repr" = some .globalImplicit) (g : Heap) (tk : Nat) (up : ∀ b o, s.heap.get? b = some o → g.get? b = some o)
    (hns : g.Ns D (fun y => [(x, Value.ref a)].reverse.lookup y)) (dx : (x == ("__debug__" : Str)) = false := by decide)
    (he : starEach [Expr.Name x p2] (PySem.W.envX qual scope D f (.ref c') cl) = (false, eval (.Name x p2) (PySem.W.envX qual scope D f (.ref c') cl)) :: starEach [] (PySem.W.envX qual scope D f (.ref c') cl) := by rfl) :
    wpAny (model X.prog X.w) A (eval (.Call (.Name "repr" p1) [.Name x p2] [] p3) (PySem.W.envX qual scope D f (.ref c') cl)) (PySem.W.KeyPure (.str (txt k)) { s with heap := g, toks := tk }) (fun _ _ => False) { s with heap := g, toks := tk } := by
  obtain ⟨mb, h1, h2⟩ := I.mod.blt
  have up2 : ∀ b o, X.base.get? b = some o → g.get? b = some o := fun b o e => up b o (I.bk b o e)
  refine wpAny_Call_Name_kw (Calls.Name_function_global L hg (Calls.loadGlobal_builtin (I.mod.glob.keeps up2) hm (h1.keeps up2) ((h2 "repr" (by decide)).trans (show bootBuiltins "repr" = some (.builtin "repr") by decide +kernel)) ?_))
  refine PyProof.Rows.callWith_builtin1 ?_ he (by rfl)
  rw [he]
  show wpAny _ _ (spliced ((false, eval (.Name x p2) (PySem.W.envX qual scope D f (.ref c') cl)) :: [])) _ _ _
  refine Calls.spliced_cons (wpAny_Name (wpAny_loadName_local (env := PySem.W.envX qual scope D f (.ref c') cl) L hx hns ns_one (Calls.spliced_nil ?_)) dx)
  obtain ⟨as, ra⟩ := (key_shw hk).reads I.hok (show RelV (.ref a) (Value.ref a) from rfl)
  have hd : (dat k).hasDict = true → sysModules ∉ as := PyData.noDict_hsm (key_shw hk).noDict
  have := dat_depth k
  have := sh.dp
  refine PySem.repr_of_reads' ra sh.ok hd gd (by omega) (fun b o e => up b o e) (fun h' uu tk' k' => ?_) sh.sz
  exact ⟨h', tk', rfl, k', .str _ _⟩
theorem pe_sortR {T : List (Addr × Str)} {K : PySem.W.Frag} {c P : Addr} {a : Expr} {ta : TE} {params : Arguments} {scope : Scope} {x : Str} {k : Nat} {lpos kpos p1 pos q1 q2 q3 : Pos} (hr : Room k X.A) (gd : X.A.guards = some []) (TB : TabB X.base X.mg c P) (hcode : X.env.code = .ref c)
    (hmT : (P, X.env.qual ++ "<lambda>") ∈ T) (hu : ∀ p ∈ T, p.1 = P → p.2 = X.env.qual ++ "<lambda>") (L : Lam1 X.env.scope scope x) (hdef : defaultsOf params X.env = ([], []))
    (hbind : ∀ (q : Str) (cl : List (Str × Addr)) (pm cv ctv v : Value), bindArgs (PySem.W.kla_fn "<lambda>" q params (.Call (.Name "repr" q1) [.Name x q2] [] q3) scope cl pm cv ctv) ⟨[v], []⟩ = pure [(x, v)])
    (hrp : scope.names.lookup ("repr" : Str) = some NameKind.globalImplicit) (hg : Gl X "sorted") (hm : X.mg "sorted" = none) (hm2 : X.mg "repr" = none) (ha : PE X a ta) (hK : X.K = K := by rfl) (dx : (x == ("__debug__" : Str)) = false := by decide)
    (he : backTo pos (starEach [a] X.env) = (false, eval a X.env) :: backTo pos (starEach [] X.env) := by rfl) (hpl : (backTo pos (starEach [a] X.env)).any (·.1) = false := by rfl) :
    PE X (.Call (.Name "sorted" p1) [a] [⟨some "key", .Lambda params (.Call (.Name "repr" q1) [.Name x q2] [] q3) scope lpos, kpos⟩] pos) (tSortR T K ta) := by
  subst hK
  refine ⟨fun pins s σ H Q I h => ?_⟩
  refine wpAny_Call_Name_kw (ld_blt I hg hm (show bootBuiltins "sorted" = some (.builtin "sorted") by decide +kernel) ?_ (by decide) (by decide))
  refine PyProof.Rows.callWith_kw ?_ he hpl (by rfl) (by rfl)
  rw [he]
  refine Calls.spliced_cons (thn (ha.run pins s σ H _ I h) fun u s1 ⟨v0, H1, I1, r1, hT, l, bs, e0, hS, hks, q⟩ => Calls.spliced_nil ?_)
  subst e0
  obtain rfl : u = Value.ref l := r1
  show wpAny _ _ (evalAll ((do let v ← eval (.Lambda params (.Call (.Name "repr" q1) [.Name x q2] [] q3) scope lpos) X.env; standAt pos; pure v) :: [])) _ _ s1
  refine wpAny_evalAll_cons (wpAny_bind (lam_make2 I1 TB hcode hmT hu hT hdef (L.has I1.ok) fun f c' pm ctv H2 s2 I2 eN T2 hf hfn hfr hco => wpAny_bind (wpAny_standAt (wpAny_pure (wpAny_evalAll_nil ?_)))))
  show wpAny _ _ (call (.builtin "sorted") [.ref l] [(Str.ofString "key", .ref f)]) _ _ s2
  obtain ⟨its, rv, hl, hz⟩ := I2.list (ExtN.seqL (show ExtN H1 H2 from eN) hS)
  rw [List.length_map] at hz
  have hcr := (show ∃ (oc : Obj) (vs : Array Value) (t : Tok), s2.heap.get? c' = some oc ∧ oc.data = .fields vs ∧ vs[1]? = some (.str (X.env.qual ++ "<lambda>") t) from (I2.hok c' _ hco).1)
  have ea := each_of_vals (vf := fun b : Ek => V.ref b.2) rv
  have un := hr.un
  refine PySem.W.sorted_key_data (b := false) (bs := bs) (R := fun v (b : Ek) => RelV (V.ref b.2) v) (fun b => PyData.str (txt b.1)) hl.isList ea ?_ (PySem.W.Sortable.others fun b => ⟨nofun, fun _ => nofun⟩) hz (fun b hb => ?_) (PyProof.Rows.ksk_s1 _ _) (fun _ => PyProof.Rows.ksk_l1 _ _) (fun _ => PyProof.Rows.ksk_t1 _ _)
    (fun v b rb hb g tk up => ?_) fun out cc g tk up hD hD2 hlen eo => ?_
  · intro d hd e he
    obtain ⟨b, hb, rfl⟩ := List.mem_map.mp hd
    obtain ⟨b2, hb2, rfl⟩ := List.mem_map.mp he
    rfl
  · have e1 : (PyData.str (txt b.1)).depth ≤ 1 := by simp [PyData.depth]
    omega
  · have I3 : Inv X pins σ H2 { s2 with heap := g, toks := tk } := I2.kept up
    obtain ⟨oc, vs, t, h1, h2, h3⟩ := hcr
    cases (show v = Value.ref b.2 from rb)
    refine lam_call L (by show X.A.depth < _; exact hr.depth) (up _ _ hf) ⟨c', oc, vs, t, rfl, up _ _ h1, h2, h3⟩ I3.nolimit (hbind _ _ _ _ _ _) fun D g2 tk2 up2 hns => ?_
    exact repr_run (A := X.A.in1.in1.deeper (PySem.W.envX _ scope D f (.ref c') _)) I3 hm2 ((hks b hb).1.same (extN_tup eN)) (hks b hb).2 gd (by show X.A.units + 1 + 1 + 3 + 90 < cLine; omega) L.kind L.par hrp g2 tk2 up2 hns dx
  · have hlen2 : ((sortE bs).map fun b => V.ref b.2).length ≤ sizeLine := by
      unfold sortE
      rw [List.length_map, List.length_mergeSort]
      exact hz
    have hnew : H2 (s2.heap.objs.size + 1) = none := I2.hok.fresh (Nat.le_succ _)
    have vo := vals_of_each (vf := fun b : Ek => V.ref b.2) eo
    refine ⟨.ref (s2.heap.objs.size + 1), upd H2 (s2.heap.objs.size + 1) (.lst ((sortE bs).map fun b => V.ref b.2)), I2.laid (t' := tk) up (Nat.le_succ _) ⟨hlen2, out, cc, vo, hD2⟩, rfl, ?_⟩
    refine q _ _ (fun b o e n => ?_) (fun o e1 => ?_) (T2.ext fun b o e => ?_) upd_same
    · rw [upd_ne (ne_of_none (eN _ _ e n) hnew)]
      exact eN _ _ e n
    · cases o with
      | tbl ps => exact ⟨ps, rfl⟩
      | _ =>
        rw [eN _ _ e1 (fun ps z => by cases z)] at hnew
        cases hnew
    · rw [upd_ne (ne_of_none e hnew)]
      exact e
end
/-! ### a filter of a sorted row -/
theorem split_unique {α : Type} {q : α → Bool} : ∀ {m1 m2 n1 n2 : List α}, m1 ++ m2 = n1 ++ n2 → (∀ b ∈ m1, q b = true) → (∀ b ∈ n1, q b = true) → (∀ b ∈ m2, q b = false) → (∀ b ∈ n2, q b = false) → m1 = n1 ∧ m2 = n2 := by
  intro m1 m2 n1 n2 e a b c d
  have f1 : (m1 ++ m2).filter q = m1 := by rw [List.filter_append, List.filter_eq_self.mpr a, List.filter_eq_nil_iff.mpr (fun x hx => by rw [c x hx]; decide), List.append_nil]
  have f2 : (n1 ++ n2).filter q = n1 := by rw [List.filter_append, List.filter_eq_self.mpr b, List.filter_eq_nil_iff.mpr (fun x hx => by rw [d x hx]; decide), List.append_nil]
  have e1 : m1 = n1 := by rw [← f1, e, f2]
  subst e1
  exact ⟨rfl, List.append_cancel_left e⟩
theorem filter_sort {α : Type} {le : α → α → Bool} (tr : ∀ a b c, le a b = true → le b c = true → le a c = true) (tot : ∀ a b, (le a b || le b a) = true) (p : α → Bool) : ∀ l : List α, (l.mergeSort le).filter p = (l.filter p).mergeSort le
  | [] => by simp
  | a :: l => by
    have ih := filter_sort tr tot p l
    obtain ⟨l1, l2, e1, e2, h1⟩ := List.mergeSort_cons (le := le) tr tot a l
    have srt := List.pairwise_mergeSort (le := le) tr tot (a :: l)
    rw [e1] at srt
    have h2 : ∀ b ∈ l2, le a b = true := fun b hb => ((List.pairwise_cons.mp (List.pairwise_append.mp srt).2.1).1 b hb)
    rw [e1, List.filter_append]
    cases hp : p a with
    | false =>
      rw [List.filter_cons_of_neg (by rw [hp]; decide), List.filter_cons_of_neg (by rw [hp]; decide), ← List.filter_append, ← e2, ih]
    | true =>
      rw [List.filter_cons_of_pos hp, List.filter_cons_of_pos hp]
      obtain ⟨m1, m2, f1, f2, g1⟩ := List.mergeSort_cons (le := le) tr tot a (l.filter p)
      have srt2 := List.pairwise_mergeSort (le := le) tr tot (a :: l.filter p)
      rw [f1] at srt2
      have g2 : ∀ b ∈ m2, le a b = true := fun b hb => ((List.pairwise_cons.mp (List.pairwise_append.mp srt2).2.1).1 b hb)
      rw [f1]
      have e3 : l1.filter p ++ l2.filter p = m1 ++ m2 := by rw [← List.filter_append, ← e2, ih, f2]
      obtain ⟨r1, r2⟩ := split_unique (q := fun b => !le a b) e3 (fun b hb => by simpa using h1 b (List.mem_filter.mp hb).1) (fun b hb => by simpa using g1 b hb) (fun b hb => by simp [h2 b (List.mem_filter.mp hb).1]) (fun b hb => by simp [g2 b hb])
      rw [r1, r2]
end SRT
set_option Elab.async false
set_option linter.all false
set_option maxRecDepth 100000
set_option maxHeartbeats 4000000
namespace TU
open PySem PySem.Spec PyProof.Rows L2 CM
/-! ### sum, max, min of a tuple of ints -/
section
variable {prog : Program} {w : World} {A : Around} {E : Value → Shared → Prop} {s : Shared} {l : Addr} {xs : Array (Int × Tok)}
theorem iter_tup {Q : Value → Shared → Prop} (hl : s.heap.IsTuple l (intItems xs))
    (h : ∀ s₂ : Shared, s₂ = { s with heap := s.heap.push { cls := .type "tuple_iterator", data := .fields #[.ref l, .int 0 0] } } →
      (s₂.heap.IsTupleIter s.heap.objs.size l 0 ∧ s₂.heap.IsTuple l (intItems xs)) → (∀ b ∈ [s.heap.objs.size, l], b < s₂.heap.objs.size) → l ≠ s.heap.objs.size → Q (.ref s.heap.objs.size) s₂) :
    wpAny (model prog w) A (pyIter (.ref l)) Q E s := by
  have hlt : l < s.heap.objs.size := by obtain ⟨_, e, _⟩ := hl; exact Heap.lt_size e
  refine wpAny_pyIter_tuple hl (h _ rfl ⟨⟨_, Heap.get?_push_size _ rfl, rfl, rfl⟩, hl.push _⟩ (fun b hb => ?_) (Nat.ne_of_lt hlt))
  show b < (s.heap.push _).objs.size
  rw [Heap.size_push]
  rcases List.mem_cons.mp hb with rfl | hb
  · exact Nat.lt_succ_self _
  · rcases List.mem_cons.mp hb with rfl | hb
    · exact Nat.lt_succ_of_lt hlt
    · cases hb
theorem old_keptT {h' : Heap} (hk : ∀ b o, b ∉ [s.heap.objs.size] → (s.heap.push { cls := .type "tuple_iterator", data := .fields #[.ref l, .int 0 0] }).get? b = some o → h'.get? b = some o) :
    ∀ b o, s.heap.get? b = some o → h'.get? b = some o := fun b o e => by
  refine hk b o (fun hm => ?_) (Heap.get?_push_of_some _ e)
  rcases List.mem_cons.mp hm with e1 | hm
  · exact absurd (e1 ▸ Heap.lt_size e) (Nat.lt_irrefl _)
  · cases hm
theorem max_intTup {Q : Value → Shared → Prop} (hh : A.handled = none) (hl : s.heap.IsTuple l (intItems xs)) (hne : 0 < xs.size)
    (h : ∀ v h' tk, (intItems xs)[argBest (fun i j => decide (numAt xs i > numAt xs j)) (xs.size - 1)]? = some v → (∀ b o, s.heap.get? b = some o → h'.get? b = some o) → Q v { s with heap := h', toks := tk }) :
    wpAny (model prog w) A (call (.builtin "max") [.ref l]) Q E s := by
  refine call_max_walk (iter_tup hl fun s₂ e st hfp hlI => ?_)
  subst e
  refine ⟨_, _, _, _, _, _, _, rfl, Walks.tuple (A := A.in1) hh _ l hlI (intItems xs), st, hfp, by simpa [intItems] using hne, CmpOf.ints_gt (numAt xs) (fun _ _ => intItems_at), fun v h' tk hP hk => ?_⟩
  exact h v h' tk (by simpa [intItems] using hP) (old_keptT hk)
theorem min_intTup {Q : Value → Shared → Prop} (hh : A.handled = none) (hl : s.heap.IsTuple l (intItems xs)) (hne : 0 < xs.size)
    (h : ∀ v h' tk, (intItems xs)[argBest (fun i j => decide (numAt xs i < numAt xs j)) (xs.size - 1)]? = some v → (∀ b o, s.heap.get? b = some o → h'.get? b = some o) → Q v { s with heap := h', toks := tk }) :
    wpAny (model prog w) A (call (.builtin "min") [.ref l]) Q E s := by
  refine call_min_walk (iter_tup hl fun s₂ e st hfp hlI => ?_)
  subst e
  refine ⟨_, _, _, _, _, _, _, rfl, Walks.tuple (A := A.in1) hh _ l hlI (intItems xs), st, hfp, by simpa [intItems] using hne, CmpOf.ints_lt (numAt xs) (fun _ _ => intItems_at), fun v h' tk hP hk => ?_⟩
  exact h v h' tk (by simpa [intItems] using hP) (old_keptT hk)
theorem sum_intTup {Q : Value → Shared → Prop} (hh : A.handled = none) (hl : s.heap.IsTuple l (intItems xs))
    (h : ∀ h' tk t', (∀ b o, s.heap.get? b = some o → h'.get? b = some o) → Q (.int (preSum (numAt xs) xs.size) t') { s with heap := h', toks := tk }) :
    wpAny (model prog w) A (call (.builtin "sum") [.ref l]) Q E s := by
  refine call_sum_walkG (iter_tup hl fun s₂ e st hfp hlI => ?_)
  subst e
  refine ⟨_, _, _, _, _, _, numAt xs, rfl, Walks.tuple (A := A.in1) hh _ l hlI (intItems xs), st, hfp, (fun _ _ => intItems_at), fun h' tk t' hk => ?_⟩
  have := h h' tk t' (old_keptT hk)
  simpa [intItems] using this
end
section
variable {prog : Program} {w : World} {A : Around} {E : Value → Shared → Prop} {s : Shared} {l : Addr} {its : List Value} {ns : List Int} {Q : Value → Shared → Prop}
theorem sum_rawT (hh : A.handled = none) (hl : s.heap.IsTuple l its.toArray) (hi : IntsAre its ns)
    (h : ∀ h' tk t', (∀ b o, s.heap.get? b = some o → h'.get? b = some o) → Q (.int ns.sum t') { s with heap := h', toks := tk }) : wpAny (model prog w) A (call (.builtin "sum") [.ref l]) Q E s := by
  obtain ⟨xs, e⟩ := hi.allInts.items
  have hn : numsOf (intItems xs).toList = ns := by rw [← e]; exact hi.numsOf
  rw [nums_intItems] at hn
  rw [e] at hl
  refine sum_intTup hh hl fun h' tk t' hk => ?_
  have := h h' tk t' hk
  rw [preSum_eq, List.take_of_length_le (by simp), hn]; exact this
theorem max_rawT (hh : A.handled = none) (hl : s.heap.IsTuple l its.toArray) (hi : IntsAre its ns) (hne : 0 < ns.length)
    (h : ∀ h' tk M t', (∀ b o, s.heap.get? b = some o → h'.get? b = some o) → M ∈ ns → (∀ a, a ∈ ns → a ≤ M) → Q (.int M t') { s with heap := h', toks := tk }) : wpAny (model prog w) A (call (.builtin "max") [.ref l]) Q E s := by
  obtain ⟨xs, e⟩ := hi.allInts.items
  have hn : numsOf (intItems xs).toList = ns := by rw [← e]; exact hi.numsOf
  rw [nums_intItems] at hn
  subst hn
  rw [e] at hl
  have hsz : 0 < xs.size := by simpa using hne
  refine max_intTup hh hl hsz fun v h' tk hv hk => ?_
  obtain ⟨t, rfl⟩ := intItems_at hv
  obtain ⟨h1, h2⟩ := argBest_gt (numAt xs) (xs.size - 1)
  refine h h' tk _ t hk ?_ fun a ha => ?_
  · rw [numAt_eq]; exact PySem.getD_mem (by rw [List.length_map, Array.length_toList]; omega)
  · obtain ⟨j, hj, rfl⟩ := mem_getD ha
    rw [List.length_map, Array.length_toList] at hj
    rw [← numAt_eq]; exact h2 j (by omega)
theorem min_rawT (hh : A.handled = none) (hl : s.heap.IsTuple l its.toArray) (hi : IntsAre its ns) (hne : 0 < ns.length)
    (h : ∀ h' tk M t', (∀ b o, s.heap.get? b = some o → h'.get? b = some o) → M ∈ ns → (∀ a, a ∈ ns → M ≤ a) → Q (.int M t') { s with heap := h', toks := tk }) : wpAny (model prog w) A (call (.builtin "min") [.ref l]) Q E s := by
  obtain ⟨xs, e⟩ := hi.allInts.items
  have hn : numsOf (intItems xs).toList = ns := by rw [← e]; exact hi.numsOf
  rw [nums_intItems] at hn
  subst hn
  rw [e] at hl
  have hsz : 0 < xs.size := by simpa using hne
  refine min_intTup hh hl hsz fun v h' tk hv hk => ?_
  obtain ⟨t, rfl⟩ := intItems_at hv
  obtain ⟨h1, h2⟩ := argBest_lt (numAt xs) (xs.size - 1)
  refine h h' tk _ t hk ?_ fun a ha => ?_
  · rw [numAt_eq]; exact PySem.getD_mem (by rw [List.length_map, Array.length_toList]; omega)
  · obtain ⟨j, hj, rfl⟩ := mem_getD ha
    rw [List.length_map, Array.length_toList] at hj
    rw [← numAt_eq]; exact h2 j (by omega)
end
section
variable {X : Cx}
def rSumT (K : PySem.W.Frag) : List V → Hp → VK → Prop := fun vs H Q => ∃ (a : Addr) (ns : List Int), vs = [V.ref a] ∧ SqT K H a (ns.map V.int) ∧ Q (.int ns.sum) H
def rMaxT (K : PySem.W.Frag) : List V → Hp → VK → Prop := fun vs H Q => ∃ (a : Addr) (ns : List Int), vs = [V.ref a] ∧ SqT K H a (ns.map V.int) ∧ 0 < ns.length ∧ ∀ m, m ∈ ns → (∀ y, y ∈ ns → y ≤ m) → Q (.int m) H
def rMinT (K : PySem.W.Frag) : List V → Hp → VK → Prop := fun vs H Q => ∃ (a : Addr) (ns : List Int), vs = [V.ref a] ∧ SqT K H a (ns.map V.int) ∧ 0 < ns.length ∧ ∀ m, m ∈ ns → (∀ y, y ∈ ns → m ≤ y) → Q (.int m) H
theorem cr_sumT {K : PySem.W.Frag} (hc : X.calm = true) (hK : X.K = K := by rfl) : CallR X (.builtin "sum") (rSumT K) := by
  subst hK
  intro pins s σ H vs us Q I r h
  obtain ⟨a, ns, rfl, hs, q⟩ := h
  obtain ⟨its, rv, hl, _⟩ := I.tuple hs
  rw [Vals.ref1 r]
  exact sum_rawT (I.ok.hd hc) hl rv.ints fun h' tk t' hk => ⟨.int _, H, I.kept hk, ⟨_, rfl⟩, q⟩
theorem cr_maxT {K : PySem.W.Frag} (hc : X.calm = true) (hK : X.K = K := by rfl) : CallR X (.builtin "max") (rMaxT K) := by
  subst hK
  intro pins s σ H vs us Q I r h
  obtain ⟨a, ns, rfl, hs, hne, q⟩ := h
  obtain ⟨its, rv, hl, _⟩ := I.tuple hs
  rw [Vals.ref1 r]
  exact max_rawT (I.ok.hd hc) hl rv.ints hne fun h' tk m t' hk h1 h2 => ⟨.int _, H, I.kept hk, ⟨_, rfl⟩, q m h1 h2⟩
theorem cr_minT {K : PySem.W.Frag} (hc : X.calm = true) (hK : X.K = K := by rfl) : CallR X (.builtin "min") (rMinT K) := by
  subst hK
  intro pins s σ H vs us Q I r h
  obtain ⟨a, ns, rfl, hs, hne, q⟩ := h
  obtain ⟨its, rv, hl, _⟩ := I.tuple hs
  rw [Vals.ref1 r]
  exact min_rawT (I.ok.hd hc) hl rv.ints hne fun h' tk m t' hk h1 h2 => ⟨.int _, H, I.kept hk, ⟨_, rfl⟩, q m h1 h2⟩
theorem cr_maxK {K : PySem.W.Frag} (hc : X.calm = true) (hK : X.K = K := by rfl) : CallR X (.builtin "max") (rMax K) := by
  subst hK
  exact cr_max hc
theorem cr_minK {K : PySem.W.Frag} (hc : X.calm = true) (hK : X.K = K := by rfl) : CallR X (.builtin "min") (rMin K) := by
  subst hK
  exact cr_min hc
end
end TU
set_option Elab.async false
set_option linter.all false
set_option maxRecDepth 100000
set_option maxHeartbeats 4000000
namespace ZN
open PySem PySem.Spec PyProof.Rows L2 CM
open PySem.Sem (wp)
/-! ### zip of any number of tuples -/
section
variable {prog : Program} {w : World} {A : Around} {E : Value → Shared → Prop} {s : Shared}
theorem wpAny_loadIfAlive {M : Model} {a : Addr} {Q : Option Obj → Shared → Prop} (h : Q (s.heap.get? a) s) : wpAny M A (loadIfAlive a) Q E s := fun Γ p hΓ => by
  unfold loadIfAlive
  rw [Sem.wp_loadIfAlive]
  exact h
abbrev IsZipG (h : Heap) (z TI TO : Addr) (f0 f1 : Value) : Prop := h.get? z = some { cls := .type "zip", dict := none, data := .fields #[f0, f1, .bool false, .ref TI, .ref TO], slots := #[] }
abbrev IsTupO (h : Heap) (T : Addr) (vs : Array Value) : Prop := h.get? T = some { cls := .type "tuple", data := .seq vs }
abbrev Js := List (Addr × Addr)
def itsOf (js : Js) : Array Value := (js.map fun j => Value.ref j.1).toArray
structure Apart (z TI TO : Addr) (js : Js) : Prop where
  TIz : TI ≠ z
  TOz : TO ≠ z
  TITO : TI ≠ TO
  iz : ∀ j ∈ js, j.1 ≠ z ∧ j.1 ≠ TI ∧ j.1 ≠ TO
  nd : (js.map (·.1)).Nodup
  lz : ∀ j ∈ js, j.2 ≠ z ∧ j.2 ≠ TO ∧ ∀ k ∈ js, j.2 ≠ k.1
/-- the value that each gives at turn i -/
def Gives (h : Heap) (i : Nat) : Js → List Value → Prop := Paired fun j v => ∃ xs, h.IsTuple j.2 xs ∧ xs[i]? = some v
/-- what a turn keeps -/
def Kept (z TO : Addr) (js : Js) (h h' : Heap) : Prop := ∀ c o, c ≠ z → c ≠ TO → (∀ j ∈ js, c ≠ j.1) → h.get? c = some o → h'.get? c = some o
theorem Kept.trans {z TO : Addr} {js : Js} {h h1 h2 : Heap} (a : Kept z TO js h h1) (b : Kept z TO js h1 h2) : Kept z TO js h h2 := fun c o c1 c2 c3 e => b c o c1 c2 c3 (a c o c1 c2 c3 e)
theorem itsOf_list (js : Js) : (itsOf js).toList = js.map fun j => Value.ref j.1 := by unfold itsOf; rfl
theorem Gives.at {js : Js} {h h' : Heap} {i : Nat} {vals : List Value} (g : Gives h i js vals) (k : ∀ j ∈ js, ∀ o, h.get? j.2 = some o → h'.get? j.2 = some o) : Gives h' i js vals := by
  unfold Gives at g ⊢
  induction g with
  | nil => exact .nil
  | @cons j v js vals a t ih =>
    obtain ⟨xs, hx, hv⟩ := a
    exact .cons ⟨xs, hx.at (k j (List.mem_cons_self ..)), hv⟩ (ih fun j' hj' => k j' (List.mem_cons_of_mem _ hj'))
/-- the iterators ahead have gone, the others wait -/
structure Mid (z TO : Addr) (js : Js) (i : Nat) (vals : List Value) (h0 h : Heap) (done todo : Js) (vs1 vs2 : List Value) : Prop where
  eq : js = done ++ todo
  eqv : vals = vs1 ++ vs2
  len : vs1.length = done.length
  g : Gives h i todo vs2
  gone : ∀ j ∈ done, h.IsTupleIter j.1 j.2 (i + 1)
  wait : ∀ j ∈ todo, h.IsTupleIter j.1 j.2 i
  size : h.objs.size = h0.objs.size
  kept : Kept z TO js h0 h
theorem Mid.start {z TO : Addr} {js : Js} {i : Nat} {vals : List Value} {h0 h : Heap} (hi : ∀ j ∈ js, h.IsTupleIter j.1 j.2 i) (hg : Gives h i js vals) (hs : h.objs.size = h0.objs.size) (hk : Kept z TO js h0 h) : Mid z TO js i vals h0 h [] js [] vals :=
  ⟨rfl, rfl, rfl, hg, (fun _ z => by cases z), hi, hs, hk⟩
/-- writes at z or TO alone -/
theorem Mid.at {z TI TO a : Addr} {js : Js} {i : Nat} {vals : List Value} {h0 h h' : Heap} {done todo : Js} {vs1 vs2 : List Value} (m : Mid z TO js i vals h0 h done todo vs1 vs2) (D : Apart z TI TO js) (ha : a = z ∨ a = TO) (sb : Heap.SameBut a h h') : Mid z TO js i vals h0 h' done todo vs1 vs2 := by
  have e1 : ∀ j ∈ js, j.1 ≠ a := fun j hj => by
    rcases ha with rfl | rfl
    · exact (D.iz j hj).1
    · exact (D.iz j hj).2.2
  have e2 : ∀ j ∈ js, j.2 ≠ a := fun j hj => by
    rcases ha with rfl | rfl
    · exact (D.lz j hj).1
    · exact (D.lz j hj).2.1
  have inn : ∀ j, j ∈ done ∨ j ∈ todo → j ∈ js := fun j hj => by
    rw [m.eq]
    exact List.mem_append.mpr hj
  refine ⟨m.eq, m.eqv, m.len, m.g.at fun j hj o e => (sb.2 _ (e2 j (inn j (.inr hj)))).trans e, fun j hj => (m.gone j hj).at fun o e => (sb.2 _ (e1 j (inn j (.inl hj)))).trans e, fun j hj => (m.wait j hj).at fun o e => (sb.2 _ (e1 j (inn j (.inr hj)))).trans e, sb.1.trans m.size, m.kept.trans fun c o c1 c2 _ e => ?_⟩
  refine (sb.2 c ?_).trans e
  rcases ha with rfl | rfl
  · exact c1
  · exact c2
/-- one more has gone -/
theorem Mid.next {z TI TO : Addr} {js : Js} {i : Nat} {vals : List Value} {h0 h h' : Heap} {j : Addr × Addr} {v : Value} {done todo : Js} {vs1 vs2 : List Value} (m : Mid z TO js i vals h0 h done (j :: todo) vs1 (v :: vs2)) (D : Apart z TI TO js) (hj : h'.IsTupleIter j.1 j.2 (i + 1)) (sb : Heap.SameBut j.1 h h') :
    Mid z TO js i vals h0 h' (done ++ [j]) todo (vs1 ++ [v]) vs2 := by
  have mj : j ∈ js := by
    rw [m.eq]
    exact List.mem_append.mpr (.inr (List.mem_cons_self ..))
  have inn : ∀ k, k ∈ done ∨ k ∈ todo → k ∈ js := fun k hk => by
    rw [m.eq]
    exact List.mem_append.mpr (hk.imp id (List.mem_cons_of_mem _))
  have ne : ∀ k, k ∈ done ∨ k ∈ todo → k.1 ≠ j.1 := fun k hk e => by
    have nd := D.nd
    rw [m.eq, List.map_append, List.map_cons, List.nodup_append] at nd
    rcases hk with hk | hk
    · exact nd.2.2 k.1 (List.mem_map.mpr ⟨k, hk, rfl⟩) j.1 (List.mem_cons_self ..) e
    · exact (List.nodup_cons.mp nd.2.1).1 (e ▸ List.mem_map.mpr ⟨k, hk, rfl⟩)
  have g2 : Gives h i todo vs2 := by
    cases m.g with
    | cons a t => exact t
  refine ⟨by rw [m.eq, List.append_assoc]; rfl, by rw [m.eqv, List.append_assoc]; rfl, by rw [List.length_append, List.length_append, m.len]; rfl, g2.at fun k hk o e => (sb.2 _ ((D.lz k (inn k (.inr hk))).2.2 j mj)).trans e, fun k hk => ?_, fun k hk => (m.wait k (List.mem_cons_of_mem _ hk)).at fun o e => (sb.2 _ (ne k (.inr hk))).trans e, sb.1.trans m.size, m.kept.trans fun c o _ _ c3 e => (sb.2 c (c3 j mj)).trans e⟩
  rcases List.mem_append.mp hk with hk | hk
  · exact (m.gone k hk).at fun o e => (sb.2 _ (ne k (.inl hk))).trans e
  · rw [List.mem_singleton.mp hk]
    exact hj
theorem Kept.but {z TO a : Addr} {js : Js} {h h' : Heap} (ha : a = z ∨ a = TO) (sb : Heap.SameBut a h h') : Kept z TO js h h' := fun c o c1 c2 _ e => (sb.2 c (by
  rcases ha with rfl | rfl
  · exact c1
  · exact c2)).trans e
theorem zipN_item {z TI TO : Addr} {js : Js} {i : Nat} {f0 f1 : Value} {tos : Array Value} {vals : List Value} {Q : Value → Shared → Prop} (D : Apart z TI TO js) (hne : js ≠ []) (hsz : js.length ≤ 1000)
    (hz : IsZipG s.heap z TI TO f0 f1) (hf : f0 = .none ∨ ∃ T : Nat, f0 = rawInt T) (hTI : IsTupO s.heap TI (itsOf js)) (hTO : IsTupO s.heap TO tos) (ht : tos.size = js.length)
    (hi : ∀ j ∈ js, s.heap.IsTupleIter j.1 j.2 i) (hg : Gives s.heap i js vals)
    (hQ : ∀ h' (T : Nat) g1 tos', IsZipG h' z TI TO (rawInt T) g1 → IsTupO h' TO tos' → tos'.size = js.length → (∀ j ∈ js, h'.IsTupleIter j.1 j.2 (i + 1)) → IsTupO h' s.heap.objs.size vals.toArray → h'.objs.size = s.heap.objs.size + 1 →
      Kept z TO js s.heap h' → Q (.ref s.heap.objs.size) { s with heap := h' }) :
    wpAny (model prog w) A (Builtin.«zip.__next__» ⟨[.ref z], []⟩) (fun fin s' => ∃ v, fin = .done (.ret v) ∧ Q v s') E s := by
  have lv : vals.length = js.length := (Paired.length hg).symm
  have big : vals.length ≤ sizeLine := by rw [lv, sizeLine_eq]; omega
  show wpAny _ _ (field (.ref z) 2 >>= _) _ _ _
  refine wpAny_bind (wpAny_field hz rfl (x := .bool false) rfl ?_)
  show wpAny _ _ (field (.ref z) 3 >>= _) _ _ _
  refine wpAny_bind (wpAny_field hz rfl (x := .ref TI) rfl ?_)
  refine wpAny_bind (wpAny_seqItems hTI rfl ?_)
  have ne : (itsOf js).isEmpty = false := by
    cases js with
    | nil => exact absurd rfl hne
    | cons j js => simp [itsOf]
  dsimp only
  rw [ne]
  simp only [Bool.false_eq_true, if_false]
  refine wpAny_bind (wpAny_mono (Q := fun b s' => (b = true ∧ s = s') ∨ (b = false ∧ ∃ (T : Nat) (g1 : Value) (h' : Heap), s' = { s with heap := h' } ∧ IsZipG h' z TI TO (rawInt T) g1 ∧ Heap.SameBut z s.heap h')) ?free (fun b s' hb => ?_) (fun _ _ e => e))
  case free =>
    unfold Builtin.SmallTypes.ownedTupleIsFree
    refine wpAny_bind (wpAny_field hz rfl (x := f0) rfl ?_)
    rcases hf with rfl | ⟨T, rfl⟩
    · exact wpAny_pure (.inl ⟨rfl, rfl⟩)
    · refine wpAny_bind (wpAny_loadIfAlive ?_)
      cases hT : s.heap.get? (Int.toNat (T : Int)) with
      | none => exact wpAny_pure (.inl ⟨rfl, rfl⟩)
      | some o =>
        simp only [Option.isNone_some, Bool.false_eq_true, if_false]
        refine wpAny_bind (wpAny_field hz rfl (x := f1) rfl ?_)
        split
        · refine wpAny_bind (wpAny_setField_rec hz (by simp) fun h₁ hz₁ hs₁ => ?_)
          exact wpAny_pure (.inr ⟨rfl, T, .bool true, h₁, rfl, hz₁, hs₁⟩)
        · exact wpAny_pure (.inr ⟨rfl, T, f1, s.heap, rfl, hz, ⟨rfl, fun _ _ => rfl⟩⟩)
  rcases hb with ⟨rfl, rfl⟩ | ⟨rfl, T, g1, h1, rfl, hz1, sb1⟩
  · -- the tuple of its own
    simp only [if_true]
    refine wpAny_bind (wpAny_rule ?_)
    refine wpAny_bind (wpAny_field hz rfl (x := .ref TO) rfl ?_)
    dsimp only
    refine wpAny_bind (wpAny_setField_rec hz (by simp) fun h₁ hz₁ hs₁ => ?_)
    replace hz₁ : IsZipG h₁ z TI TO .ellipsis f1 := hz₁
    rw [itsOf_list]
    refine wpAny_bind (wpAny_forIn_list _ (fun rest b s' => ∃ (done todo : Js) (vs1 vs2 : List Value) (h : Heap) (ts : Array Value), s' = { s with heap := h } ∧ b = (none, ()) ∧ rest = (todo.map fun j => Value.ref j.1).zipIdx done.length ∧ Mid z TO js i vals s.heap h done todo vs1 vs2 ∧
      IsZipG h z TI TO .ellipsis f1 ∧ IsTupO h TO ts ∧ ts.size = js.length ∧ ∀ k, k < done.length → ts[k]? = vs1[k]?) _ ?_ ?_ _ _ ?_)
    · rintro x rest b s2 ⟨done, todo, vs1, vs2, h, ts, rfl, rfl, er, m, hz2, hT2, tz, hk⟩
      cases todo with
      | nil => cases er
      | cons j todo =>
        rw [List.map_cons, List.zipIdx_cons] at er
        obtain ⟨rfl, rfl⟩ := List.cons.inj er
        obtain ⟨v, vs2', rfl, ⟨xs, hx, hv⟩⟩ : ∃ v vs2', vs2 = v :: vs2' ∧ ∃ xs, h.IsTuple j.2 xs ∧ xs[i]? = some v := by
          have g := m.g
          cases g with
          | cons a t => exact ⟨_, _, rfl, a⟩
        dsimp only
        refine wpAny_bind (wpAny_onRaise ?_)
        show wpAny _ _ (Builtin.SmallTypes.nextOf (.ref j.1) >>= _) _ _ _
        refine wpAny_bind (RZ.nextOf_tuple_item (m.wait j (List.mem_cons_self ..)) hx hv fun h₂ h1₂ hs₂ => wpAny_pure ?_)
        have m2 := m.next D h1₂ hs₂
        have mj : j ∈ js := by
          rw [m.eq]
          exact List.mem_append.mpr (.inr (List.mem_cons_self ..))
        have hT3 : IsTupO h₂ TO ts := (hs₂.2 _ (Ne.symm (D.iz j mj).2.2)).trans hT2
        have hz3 : IsZipG h₂ z TI TO .ellipsis f1 := (hs₂.2 _ (Ne.symm (D.iz j mj).1)).trans hz2
        dsimp only
        refine wpAny_bind (wpAny_seqItems hT3 rfl ?_)
        dsimp only
        refine wpAny_bind (wpAny_updateSeq hT3 rfl ?_ (by rw [tz, sizeLine_eq]; omega) (by rw [Array.size_setIfInBounds, tz, sizeLine_eq]; omega))
        refine wpAny_bind (wpAny_letGo (wpAny_pure ?_))
        have hT4 : IsTupO (h₂.update TO (Obj.mapSeq fun x_2 => x_2.setIfInBounds done.length v)) TO (ts.setIfInBounds done.length v) := by
          show _ = _
          rw [Heap.get?_update_self _ hT3 rfl]
          simp [Obj.mapSeq]
        have sb4 : Heap.SameBut TO h₂ (h₂.update TO (Obj.mapSeq fun x_2 => x_2.setIfInBounds done.length v)) := Heap.SameBut.update ..
        refine ⟨done ++ [j], todo, vs1 ++ [v], vs2', _, ts.setIfInBounds done.length v, rfl, rfl, ?_, m2.at D (.inr rfl) sb4, (sb4.2 _ (Ne.symm D.TOz)).trans hz3, hT4, by rw [Array.size_setIfInBounds, tz], fun k hk' => ?_⟩
        · rw [List.length_append]
          rfl
        · rw [List.length_append, List.length_singleton] at hk'
          have ll : done.length < ts.size := by
            rw [tz, m.eq, List.length_append, List.length_cons]
            omega
          by_cases e : k = done.length
          · subst e
            rw [Array.getElem?_setIfInBounds_self_of_lt ll, ← m.len, List.getElem?_append_right (Nat.le_refl _), Nat.sub_self]
            rfl
          · rw [Array.getElem?_setIfInBounds_ne (Ne.symm e), hk k (by omega), List.getElem?_append_left (by rw [m.len]; omega)]
    · rintro b s2 ⟨done, todo, vs1, vs2, h, ts, rfl, rfl, er, m, hz2, hT2, tz, hk⟩
      cases todo with
      | cons j todo =>
        rw [List.map_cons, List.zipIdx_cons] at er
        cases er
      | nil =>
        have g := m.g
        have e1 : js = done := by rw [m.eq, List.append_nil]
        have e2 : vals = vs1 := by
          cases g
          rw [m.eqv, List.append_nil]
        subst e1
        subst e2
        have et : ts = vals.toArray := by
          refine Array.ext_getElem? fun k => ?_
          by_cases hk' : k < js.length
          · rw [hk k hk', List.getElem?_toArray]
          · rw [Array.getElem?_eq_none (by omega), List.getElem?_toArray, List.getElem?_eq_none (by omega)]
        subst et
        dsimp only
        refine wpAny_bind (wpAny_seqItems hT2 rfl ?_)
        dsimp only
        refine wpAny_bind (wpAny_newTuple ?_ (by simpa using big))
        have hs : h.objs.size = s.heap.objs.size := m.size
        have hzlt : z < h.objs.size := Heap.lt_size hz2
        refine wpAny_bind ?_
        unfold Builtin.SmallTypes.ownedTupleHandOut
        dsimp only
        have hz₆ : IsZipG (h.push { cls := .type "tuple", data := .seq vals.toArray.toList.toArray }) z TI TO .ellipsis f1 := Heap.get?_push_of_some _ hz2
        refine wpAny_bind (wpAny_setField_rec hz₆ (by simp) fun h₇ hz₇ hs₇ => ?_)
        replace hz₇ : IsZipG h₇ z TI TO (rawInt h.objs.size) f1 := hz₇
        refine wpAny_setField_rec hz₇ (by simp) fun h₈ hz₈ hs₈ => ?_
        replace hz₈ : IsZipG h₈ z TI TO (rawInt h.objs.size) (.bool false) := hz₈
        have up : ∀ c o, c ≠ z → h.get? c = some o → h₈.get? c = some o := fun c o c1 e => (hs₈.2 _ c1).trans ((hs₇.2 _ c1).trans (Heap.get?_push_of_some _ e))
        have hT₈ : IsTupO h₈ h.objs.size vals.toArray := (hs₈.2 _ (Nat.ne_of_gt hzlt)).trans ((hs₇.2 _ (Nat.ne_of_gt hzlt)).trans (Heap.get?_push_size _ rfl))
        have hz8 : h₈.objs.size = s.heap.objs.size + 1 := by rw [hs₈.1, hs₇.1, Heap.size_push, hs]
        refine wpAny_pure ⟨_, rfl, ?_⟩
        rw [hs] at hT₈
        show Q (.ref h.objs.size) _
        rw [hs]
        exact hQ h₈ _ _ vals.toArray hz₈ (up _ _ D.TOz hT2) tz (fun j hj => (m.gone j hj).at fun o e => up _ o (D.iz j hj).1 e) hT₈ hz8 (m.kept.trans fun c o c1 _ _ e => up c o c1 e)
    · refine ⟨[], js, [], vals, h₁, tos, rfl, rfl, rfl, ?_, hz₁, (hs₁.2 _ D.TOz).trans hTO, ht, fun k hk => absurd hk (Nat.not_lt_zero _)⟩
      exact Mid.start (fun j hj => (hi j hj).at fun o e => (hs₁.2 _ (D.iz j hj).1).trans e) (hg.at fun j hj o e => (hs₁.2 _ (D.lz j hj).1).trans e) hs₁.1 (Kept.but (.inl rfl) hs₁)
  · -- a new one
    simp only [Bool.false_eq_true, if_false]
    rw [← Array.forIn_toList, itsOf_list]
    refine wpAny_bind (wpAny_forIn_list _ (fun rest b s' => ∃ (done todo : Js) (vs1 vs2 : List Value) (h : Heap), s' = { s with heap := h } ∧ b = (none, vs1.toArray) ∧ rest = (todo.map fun j => Value.ref j.1) ∧ Mid z TO js i vals s.heap h done todo vs1 vs2 ∧
      IsZipG h z TI TO (rawInt T) g1 ∧ IsTupO h TO tos) _ ?_ ?_ _ _ ?_)
    · rintro x rest b s2 ⟨done, todo, vs1, vs2, h, rfl, rfl, er, m, hz2, hT2⟩
      cases todo with
      | nil => cases er
      | cons j todo =>
        obtain ⟨rfl, rfl⟩ := List.cons.inj er
        obtain ⟨v, vs2', rfl, ⟨xs, hx, hv⟩⟩ : ∃ v vs2', vs2 = v :: vs2' ∧ ∃ xs, h.IsTuple j.2 xs ∧ xs[i]? = some v := by
          have g := m.g
          cases g with
          | cons a t => exact ⟨_, _, rfl, a⟩
        refine wpAny_bind (wpAny_holding ?_)
        show wpAny _ _ (Builtin.SmallTypes.nextOf (.ref j.1) >>= _) _ _ _
        refine wpAny_bind (RZ.nextOf_tuple_item (m.wait j (List.mem_cons_self ..)) hx hv fun h₂ h1₂ hs₂ => wpAny_pure ?_)
        have m2 := m.next D h1₂ hs₂
        have mj : j ∈ js := by
          rw [m.eq]
          exact List.mem_append.mpr (.inr (List.mem_cons_self ..))
        exact wpAny_pure ⟨done ++ [j], todo, vs1 ++ [v], vs2', h₂, rfl, by simp, rfl, m2, (hs₂.2 _ (Ne.symm (D.iz j mj).1)).trans hz2, (hs₂.2 _ (Ne.symm (D.iz j mj).2.2)).trans hT2⟩
    · rintro b s2 ⟨done, todo, vs1, vs2, h, rfl, rfl, er, m, hz2, hT2⟩
      cases todo with
      | cons j todo => cases er
      | nil =>
        have g := m.g
        have e1 : js = done := by rw [m.eq, List.append_nil]
        have e2 : vals = vs1 := by
          cases g
          rw [m.eqv, List.append_nil]
        subst e1
        subst e2
        have hs : h.objs.size = s.heap.objs.size := m.size
        dsimp only
        refine wpAny_bind (wpAny_newTuple ?_ (by simpa using big))
        refine wpAny_pure ⟨_, rfl, ?_⟩
        show Q (.ref h.objs.size) _
        rw [hs]
        refine hQ _ T g1 tos (Heap.get?_push_of_some _ hz2) (Heap.get?_push_of_some _ hT2) ht (fun j hj => (m.gone j hj).at fun o e => Heap.get?_push_of_some _ e) ?_ (by rw [Heap.size_push, hs]) (m.kept.trans fun c o _ _ _ e => Heap.get?_push_of_some _ e)
        rw [← hs]
        exact Heap.get?_push_size _ rfl
    · refine ⟨[], js, [], vals, h1, rfl, rfl, rfl, ?_, hz1, (sb1.2 _ D.TOz).trans hTO⟩
      exact Mid.start (fun j hj => (hi j hj).at fun o e => (sb1.2 _ (D.iz j hj).1).trans e) (hg.at fun j hj o e => (sb1.2 _ (D.lz j hj).1).trans e) sb1.1 (Kept.but (.inl rfl) sb1)
theorem zipN_end {z TI TO : Addr} {j : Addr × Addr} {js : Js} {i : Nat} {f0 f1 : Value} {xs : Array Value} {Q : Fin → Shared → Prop} (hh : A.handled = none) (D : Apart z TI TO (j :: js))
    (hz : IsZipG s.heap z TI TO f0 f1) (hf : f0 = .none ∨ ∃ T : Nat, f0 = rawInt T) (hTI : IsTupO s.heap TI (itsOf (j :: js)))
    (hi : s.heap.IsTupleIter j.1 j.2 i) (hx : s.heap.IsTuple j.2 xs) (he : xs[i]? = none)
    (hE : ∀ h' e, Kept z TO (j :: js) s.heap h' → (∃ o, h'.get? e = some o ∧ o.cls = .type "StopIteration") → E (.ref e) { s with heap := h' }) :
    wpAny (model prog w) A (Builtin.«zip.__next__» ⟨[.ref z], []⟩) Q E s := by
  have mj : j ∈ j :: js := List.mem_cons_self ..
  show wpAny _ _ (field (.ref z) 2 >>= _) _ _ _
  refine wpAny_bind (wpAny_field hz rfl (x := .bool false) rfl ?_)
  show wpAny _ _ (field (.ref z) 3 >>= _) _ _ _
  refine wpAny_bind (wpAny_field hz rfl (x := .ref TI) rfl ?_)
  refine wpAny_bind (wpAny_seqItems hTI rfl ?_)
  have ne : (itsOf (j :: js)).isEmpty = false := by simp [itsOf]
  dsimp only
  rw [ne]
  simp only [Bool.false_eq_true, if_false]
  refine wpAny_bind (wpAny_mono (Q := fun b s' => (b = true ∧ s = s') ∨ (b = false ∧ ∃ (T : Nat) (g1 : Value) (h' : Heap), s' = { s with heap := h' } ∧ IsZipG h' z TI TO (rawInt T) g1 ∧ Heap.SameBut z s.heap h')) ?free (fun b s' hb => ?_) (fun _ _ e => e))
  case free =>
    unfold Builtin.SmallTypes.ownedTupleIsFree
    refine wpAny_bind (wpAny_field hz rfl (x := f0) rfl ?_)
    rcases hf with rfl | ⟨T, rfl⟩
    · exact wpAny_pure (.inl ⟨rfl, rfl⟩)
    · refine wpAny_bind (wpAny_loadIfAlive ?_)
      cases hT : s.heap.get? (Int.toNat (T : Int)) with
      | none => exact wpAny_pure (.inl ⟨rfl, rfl⟩)
      | some o =>
        simp only [Option.isNone_some, Bool.false_eq_true, if_false]
        refine wpAny_bind (wpAny_field hz rfl (x := f1) rfl ?_)
        split
        · refine wpAny_bind (wpAny_setField_rec hz (by simp) fun h₁ hz₁ hs₁ => ?_)
          exact wpAny_pure (.inr ⟨rfl, T, .bool true, h₁, rfl, hz₁, hs₁⟩)
        · exact wpAny_pure (.inr ⟨rfl, T, f1, s.heap, rfl, hz, ⟨rfl, fun _ _ => rfl⟩⟩)
  have eb : ∀ {h₁ h₂ : Heap}, Heap.SameBut z s.heap h₁ → Heap.ExtBut j.1 h₁ h₂ → Kept z TO (j :: js) s.heap h₂ := fun sb ex c o c1 c2 c3 e => ex _ _ (c3 j mj) ((sb.2 _ c1).trans e)
  rcases hb with ⟨rfl, rfl⟩ | ⟨rfl, T, g1, h1, rfl, hz1, sb1⟩
  · simp only [if_true]
    refine wpAny_bind (wpAny_rule ?_)
    refine wpAny_bind (wpAny_field hz rfl (x := .ref TO) rfl ?_)
    dsimp only
    refine wpAny_bind (wpAny_setField_rec hz (by simp) fun h₁ hz₁ hs₁ => ?_)
    replace hz₁ : IsZipG h₁ z TI TO .ellipsis f1 := hz₁
    rw [itsOf_list]
    simp only [List.map_cons, List.zipIdx_cons, List.forIn_cons]
    refine wpAny_bind (wpAny_bind (wpAny_bind (wpAny_onRaise ?_)))
    show wpAny _ _ (Builtin.SmallTypes.nextOf (.ref j.1) >>= _) _ _ _
    refine wpAny_bind (RZ.nextOf_tuple_end hh (hi.at fun o e => (hs₁.2 _ (D.iz j mj).1).trans e) (hx.at fun o e => (hs₁.2 _ (D.lz j mj).1).trans e) he fun h₂ e hs₂ he => ?_)
    obtain ⟨oe, hoe, hce⟩ := he
    have hz₂ : IsZipG h₂ z TI TO .ellipsis f1 := hs₂ _ _ (Ne.symm (D.iz j mj).1) hz₁
    have hez : e ≠ z := fun x => by subst x; rw [hz₂] at hoe; cases hoe; simp at hce
    exact wpAny_setField_rec hz₂ (by simp) fun h₃ _ hs₃ => hE h₃ e (fun c o c1 c2 c3 e' => (hs₃.2 _ c1).trans (eb hs₁ hs₂ c o c1 c2 c3 e')) ⟨oe, (hs₃.2 _ hez).trans hoe, hce⟩
  · simp only [Bool.false_eq_true, if_false]
    rw [← Array.forIn_toList, itsOf_list]
    simp only [List.map_cons, List.forIn_cons]
    refine wpAny_bind (wpAny_bind (wpAny_bind (wpAny_holding ?_)))
    show wpAny _ _ (Builtin.SmallTypes.nextOf (.ref j.1) >>= _) _ _ _
    exact wpAny_bind (RZ.nextOf_tuple_end hh (hi.at fun o e => (sb1.2 _ (D.iz j mj).1).trans e) (hx.at fun o e => (sb1.2 _ (D.lz j mj).1).trans e) he fun h₂ e hs₂ he => hE h₂ e (eb sb1 hs₂) he)
theorem pyNext_zipN_item {z TI TO : Addr} {js : Js} {i : Nat} {f0 f1 : Value} {tos : Array Value} {vals : List Value} {Q : Option Value → Shared → Prop} (D : Apart z TI TO js) (hne : js ≠ []) (hsz : js.length ≤ 1000)
    (hz : IsZipG s.heap z TI TO f0 f1) (hf : f0 = .none ∨ ∃ T : Nat, f0 = rawInt T) (hTI : IsTupO s.heap TI (itsOf js)) (hTO : IsTupO s.heap TO tos) (ht : tos.size = js.length)
    (hi : ∀ j ∈ js, s.heap.IsTupleIter j.1 j.2 i) (hg : Gives s.heap i js vals)
    (hQ : ∀ h' (T : Nat) g1 tos', IsZipG h' z TI TO (rawInt T) g1 → IsTupO h' TO tos' → tos'.size = js.length → (∀ j ∈ js, h'.IsTupleIter j.1 j.2 (i + 1)) → IsTupO h' s.heap.objs.size vals.toArray → h'.objs.size = s.heap.objs.size + 1 →
      Kept z TO js s.heap h' → Q (some (.ref s.heap.objs.size)) { s with heap := h' }) : wpAny (model prog w) A (pyNext (.ref z)) Q E s := by
  have hT : s.TypeIs (.ref z) "zip" := ⟨_, hz, rfl⟩
  unfold pyNext
  exact wpAny_bind (wpAny_attempt (wpAny_callSpecial?_slot (name := Str.ofString "__next__") hT F.slot_zip_next
    (wpAny_call_entry F.slot_zip_next hT F.entry_zip_next
      (zipN_item D hne hsz hz hf hTI hTO ht hi hg fun h' T g1 t' a1 a2 a3 a4 a5 a6 a7 => wpAny_pure (hQ h' T g1 t' a1 a2 a3 a4 a5 a6 a7)) (F.args_zip_next_1 _))))
theorem pyNext_zipN_end {z TI TO : Addr} {j : Addr × Addr} {js : Js} {i : Nat} {f0 f1 : Value} {xs : Array Value} {Q : Option Value → Shared → Prop} (hh : A.handled = none) (D : Apart z TI TO (j :: js))
    (hz : IsZipG s.heap z TI TO f0 f1) (hf : f0 = .none ∨ ∃ T : Nat, f0 = rawInt T) (hTI : IsTupO s.heap TI (itsOf (j :: js)))
    (hi : s.heap.IsTupleIter j.1 j.2 i) (hx : s.heap.IsTuple j.2 xs) (he : xs[i]? = none) (hQ : ∀ h', Kept z TO (j :: js) s.heap h' → Q none { s with heap := h' }) : wpAny (model prog w) A (pyNext (.ref z)) Q E s := by
  have hT : s.TypeIs (.ref z) "zip" := ⟨_, hz, rfl⟩
  unfold pyNext
  refine wpAny_bind (wpAny_attempt (wpAny_callSpecial?_slot (name := Str.ofString "__next__") hT F.slot_zip_next
    (wpAny_call_entry F.slot_zip_next hT F.entry_zip_next (zipN_end hh D hz hf hTI hi hx he fun h' e hk he => ?_) (F.args_zip_next_1 _))))
  obtain ⟨o, ho, hc⟩ := he
  refine wpAny_bind (wpAny_isInstance (T := "StopIteration") (b := true) ⟨o, ho, hc⟩ isSubtype_stop ?_)
  exact wpAny_pure (hQ _ hk)
theorem typeCall_zipN (vs : List Value) : checkTypeCall "zip" ⟨vs, []⟩ = pure () := by kernel_rfl
theorem upTo8 {p : List Value → Prop} (h0 : p []) (h1 : ∀ a, p [a]) (h2 : ∀ a b, p [a, b]) (h3 : ∀ a b c, p [a, b, c]) (h4 : ∀ a b c d, p [a, b, c, d]) (h5 : ∀ a b c d e, p [a, b, c, d, e]) (h6 : ∀ a b c d e f, p [a, b, c, d, e, f]) (h7 : ∀ a b c d e f g, p [a, b, c, d, e, f, g]) (h8 : ∀ a b c d e f g i, p [a, b, c, d, e, f, g, i]) : ∀ vs : List Value, vs.length ≤ 8 → p vs
  | [], _ => h0
  | [a], _ => h1 a
  | [a, b], _ => h2 a b
  | [a, b, c], _ => h3 a b c
  | [a, b, c, d], _ => h4 a b c d
  | [a, b, c, d, e], _ => h5 a b c d e
  | [a, b, c, d, e, f], _ => h6 a b c d e f
  | [a, b, c, d, e, f, g], _ => h7 a b c d e f g
  | [a, b, c, d, e, f, g, i], _ => h8 a b c d e f g i
  | _ :: _ :: _ :: _ :: _ :: _ :: _ :: _ :: _ :: _, h => absurd h (by simp)
theorem newCall_zipN : ∀ vs : List Value, vs.length ≤ 8 → checkBuiltinCall "zip.__new__" ⟨.type "zip" :: vs, []⟩ = pure () :=
  upTo8 (by kernel_rfl) (fun _ => by kernel_rfl) (fun _ _ => by kernel_rfl) (fun _ _ _ => by kernel_rfl) (fun _ _ _ _ => by kernel_rfl) (fun _ _ _ _ _ => by kernel_rfl) (fun _ _ _ _ _ _ => by kernel_rfl) (fun _ _ _ _ _ _ _ => by kernel_rfl) (fun _ _ _ _ _ _ _ _ => by kernel_rfl)
theorem args_object_initN (obj : Value) : ∀ vs : List Value, vs.length ≤ 8 → argsOk "object.__init__" ⟨obj :: vs, []⟩ := by
  have sg := signature?_of (id := "object.__init__") (n := ['_', '_', 't', 'i', 'n', 'i', '_', '_']) (o := ['t', 'c', 'e', 'j', 'b', 'o']) (by kernel_rfl) PySem.F.owner_object
  refine upTo8 ?_ (fun _ => ?_) (fun _ _ => ?_) (fun _ _ _ => ?_) (fun _ _ _ _ => ?_) (fun _ _ _ _ _ => ?_) (fun _ _ _ _ _ _ => ?_) (fun _ _ _ _ _ _ _ => ?_) (fun _ _ _ _ _ _ _ _ => ?_) <;> (unfold argsOk; rw [sg]; kernel_rfl)
def itO (l : Addr) : Obj := { cls := .type "tuple_iterator", data := .fields #[.ref l, .int 0 0] }
def pushIts (h : Heap) (ls : List Addr) : Heap := ls.foldl (fun h l => h.push (itO l)) h
def jsOf (n : Nat) : List Addr → Js
  | [] => []
  | l :: ls => (n, l) :: jsOf (n + 1) ls
theorem pushIts_snoc (h : Heap) (ls : List Addr) (l : Addr) : pushIts h (ls ++ [l]) = (pushIts h ls).push (itO l) := by
  unfold pushIts
  rw [List.foldl_append]
  rfl
theorem jsOf_snoc : ∀ (n : Nat) (ls : List Addr) (l : Addr), jsOf n (ls ++ [l]) = jsOf n ls ++ [(n + ls.length, l)]
  | n, [], l => rfl
  | n, k :: ls, l => by
    show (n, k) :: jsOf (n + 1) (ls ++ [l]) = (n, k) :: (jsOf (n + 1) ls ++ [(n + (ls.length + 1), l)])
    rw [jsOf_snoc (n + 1) ls l, show n + 1 + ls.length = n + (ls.length + 1) by omega]
theorem pushIts_size : ∀ (h : Heap) (ls : List Addr), (pushIts h ls).objs.size = h.objs.size + ls.length
  | h, [] => rfl
  | h, l :: ls => by
    show (pushIts (h.push (itO l)) ls).objs.size = _
    rw [pushIts_size, Heap.size_push, List.length_cons]
    omega
theorem pushIts_old : ∀ (h : Heap) (ls : List Addr) (c : Addr) (o : Obj), h.get? c = some o → (pushIts h ls).get? c = some o
  | h, [], c, o, e => e
  | h, l :: ls, c, o, e => pushIts_old (h.push (itO l)) ls c o (Heap.get?_push_of_some _ e)
theorem pushIts_at : ∀ (h : Heap) (ls : List Addr), ∀ j ∈ jsOf h.objs.size ls, (pushIts h ls).IsTupleIter j.1 j.2 0
  | h, [], j, hj => by cases hj
  | h, l :: ls, j, hj => by
    rcases List.mem_cons.mp hj with rfl | hj
    · exact ⟨itO l, pushIts_old _ ls _ _ (Heap.get?_push_size _ rfl), rfl, rfl⟩
    · have e := pushIts_at (h.push (itO l)) ls j
      rw [Heap.size_push] at e
      exact e hj
theorem jsOf_lt : ∀ (n : Nat) (ls : List Addr), ∀ j ∈ jsOf n ls, n ≤ j.1 ∧ j.1 < n + ls.length ∧ j.2 ∈ ls
  | n, [], j, hj => by cases hj
  | n, l :: ls, j, hj => by
    rcases List.mem_cons.mp hj with rfl | hj
    · exact ⟨Nat.le_refl _, Nat.lt_add_of_pos_right (Nat.succ_pos _), List.mem_cons_self ..⟩
    · obtain ⟨a, b, c⟩ := jsOf_lt (n + 1) ls j hj
      exact ⟨Nat.le_of_succ_le a, Nat.lt_of_lt_of_eq b (by rw [List.length_cons]; omega), List.mem_cons_of_mem _ c⟩
theorem jsOf_nd : ∀ (n : Nat) (ls : List Addr), ((jsOf n ls).map (·.1)).Nodup
  | n, [] => List.nodup_nil
  | n, l :: ls => by
    refine List.nodup_cons.mpr ⟨fun z => ?_, jsOf_nd (n + 1) ls⟩
    obtain ⟨j, hj, e⟩ := List.mem_map.mp z
    have := (jsOf_lt (n + 1) ls j hj).1
    have e2 : j.1 = n := e
    rw [e2] at this
    exact Nat.not_succ_le_self n this
theorem jsOf_len : ∀ (n : Nat) (ls : List Addr), (jsOf n ls).length = ls.length
  | n, [] => rfl
  | n, l :: ls => by
    show (jsOf (n + 1) ls).length + 1 = ls.length + 1
    rw [jsOf_len]
theorem wp_iterAll {ls : List Addr} {Q : List Value → Shared → Prop} (hl : ∀ l ∈ ls, ∃ items, s.heap.IsTuple l items)
    (h : Q ((jsOf s.heap.objs.size ls).map fun j => Value.ref j.1) { s with heap := pushIts s.heap ls }) : wpAny (model prog w) A (Builtin.SmallTypes.iterAll (ls.map Value.ref)) Q E s := by
  unfold Builtin.SmallTypes.iterAll
  refine wpAny_bind (wpAny_forIn_list _ (fun rest b s' => ∃ ls1 ls2, ls = ls1 ++ ls2 ∧ rest = ls2.map Value.ref ∧ s' = { s with heap := pushIts s.heap ls1 } ∧ b = ((jsOf s.heap.objs.size ls1).map fun j => Value.ref j.1).toArray) _ ?_ ?_ _ _ ⟨[], ls, rfl, rfl, rfl, rfl⟩)
  · rintro x rest b s2 ⟨ls1, ls2, e, er, rfl, rfl⟩
    cases ls2 with
    | nil => cases er
    | cons l ls2 =>
      obtain ⟨rfl, rfl⟩ := List.cons.inj er
      obtain ⟨items, ht⟩ := hl l (by rw [e]; exact List.mem_append.mpr (.inr (List.mem_cons_self ..)))
      refine wpAny_bind (wpAny_holding (wpAny_pyIter_tuple (ht.at fun o e => pushIts_old _ ls1 _ _ e) (wpAny_pure ?_)))
      refine ⟨ls1 ++ [l], ls2, by rw [e, List.append_assoc]; rfl, rfl, ?_, ?_⟩
      · rw [pushIts_snoc]
        rfl
      · rw [jsOf_snoc, List.map_append]
        show (List.map (fun j => Value.ref j.1) (jsOf s.heap.objs.size ls1)).toArray.push (Value.ref (pushIts s.heap ls1).objs.size) = _
        rw [pushIts_size]
        simp
  · rintro b s2 ⟨ls1, ls2, e, er, rfl, rfl⟩
    cases ls2 with
    | cons l ls2 => cases er
    | nil =>
      rw [List.append_nil] at e
      subst e
      exact wpAny_pure h
def zH3 (h : Heap) (ls : List Addr) : Heap := (pushIts h ls).push { cls := .type "tuple", data := .seq (itsOf (jsOf h.objs.size ls)) }
def zH4 (h : Heap) (ls : List Addr) : Heap := (zH3 h ls).push { cls := .type "tuple", data := .seq (((jsOf h.objs.size ls).map fun j => Value.ref j.1).map fun _ => Value.none).toArray }
def zH5 (h : Heap) (ls : List Addr) : Heap := (zH4 h ls).push { cls := .type "zip", data := .fields #[.none, .bool false, .bool false, .ref (pushIts h ls).objs.size, .ref (zH3 h ls).objs.size] }
theorem meets_zipN_new (ls : List Addr) (l8 : ls.length ≤ 8) :
    Meets (Builtin.«zip.__new__» ⟨.type "zip" :: ls.map Value.ref, []⟩) (fun _ R s => (∀ l ∈ ls, ∃ items, s.heap.IsTuple l items) ∧
      R (.ok (.ret (.ref (zH4 s.heap ls).objs.size))) { s with heap := zH5 s.heap ls }) :=
  .of_wp fun prog w A R s h => by
    obtain ⟨hp, g, d, tk, os⟩ := s; obtain ⟨hl1, h⟩ := h
    have hsub := sub_zip
    have hL : ∀ l ∈ ls, ∃ items, Heap.IsTuple (Shared.heap ⟨hp, g, d, tk, os⟩) l items := hl1
    have ll : ((jsOf hp.objs.size ls).map fun j => Value.ref j.1).length ≤ sizeLine := by
      rw [List.length_map, jsOf_len, sizeLine_eq]
      omega
    have ll2 : (((jsOf hp.objs.size ls).map fun j => Value.ref j.1).map fun _ => Value.none).length ≤ sizeLine := by
      rw [List.length_map]
      exact ll
    wp_walk using wp_iterAll hL, wpAny_newTuple
    all_goals first | exact ⟨_, rfl, h⟩ | exact ll2 | exact ll
theorem call_zipN {ls : List Addr} {Q : Value → Shared → Prop} (l8 : ls.length ≤ 8) (hl : ∀ l ∈ ls, ∃ items, s.heap.IsTuple l items)
    (h : ∀ h' (n : Nat), n = s.heap.objs.size → IsZipG h' (n + ls.length + 2) (n + ls.length) (n + ls.length + 1) .none (.bool false) → IsTupO h' (n + ls.length) (itsOf (jsOf n ls)) →
      (∃ tos, IsTupO h' (n + ls.length + 1) tos ∧ tos.size = (jsOf n ls).length) → (∀ j ∈ jsOf n ls, h'.IsTupleIter j.1 j.2 0) →
      (∀ c o, s.heap.get? c = some o → h'.get? c = some o) → Q (.ref (n + ls.length + 2)) { s with heap := h' }) :
    wpAny (model prog w) A (call (.type "zip") (ls.map Value.ref)) Q E s := by
  have lm : (ls.map Value.ref).length ≤ 8 := by rw [List.length_map]; exact l8
  refine callType_new F.called_zip (by decide) (typeCall_zipN _) (newCall_zipN _ lm) (fun obj => args_object_initN obj _ lm) F.entry_zip_new (meets_zipN_new ls l8) ⟨hl, ?_⟩
  have z2 : (pushIts s.heap ls).objs.size = s.heap.objs.size + ls.length := pushIts_size ..
  have z3 : (zH3 s.heap ls).objs.size = s.heap.objs.size + ls.length + 1 := by unfold zH3; rw [Heap.size_push, z2]
  have z4 : (zH4 s.heap ls).objs.size = s.heap.objs.size + ls.length + 2 := by unfold zH4; rw [Heap.size_push, z3]
  have g5 : (zH5 s.heap ls).get? (zH4 s.heap ls).objs.size = some _ := Heap.get?_push_size _ rfl
  have g4 : (zH5 s.heap ls).get? (zH3 s.heap ls).objs.size = some _ := Heap.get?_push_of_some _ (Heap.get?_push_size _ rfl)
  have g3 : (zH5 s.heap ls).get? (pushIts s.heap ls).objs.size = some _ := Heap.get?_push_of_some _ (Heap.get?_push_of_some _ (Heap.get?_push_size _ rfl))
  have up : ∀ c o, (pushIts s.heap ls).get? c = some o → (zH5 s.heap ls).get? c = some o := fun c o e => Heap.get?_push_of_some _ (Heap.get?_push_of_some _ (Heap.get?_push_of_some _ e))
  show _ ∧ _
  rw [z2, z3, z4] at g5
  rw [z2] at g3
  rw [z3] at g4
  rw [z4]
  refine ⟨⟨_, g5, rfl⟩, h _ _ rfl g5 g3 ⟨_, g4, ?_⟩ (fun j hj => (pushIts_at s.heap ls j hj).at fun o e => up _ o e) fun c o e => up c o (pushIts_old _ ls c o e)⟩
  simp
theorem apart_new {n : Nat} {ls : List Addr} (h : ∀ l ∈ ls, l < n) : Apart (n + ls.length + 2) (n + ls.length) (n + ls.length + 1) (jsOf n ls) := by
  refine ⟨by show (_ : Nat) ≠ _; omega, by show (_ : Nat) ≠ _; omega, by show (_ : Nat) ≠ _; omega, fun j hj => ?_, jsOf_nd _ _, fun j hj => ?_⟩
  · obtain ⟨a, b, c⟩ := jsOf_lt n ls j hj
    exact ⟨Nat.ne_of_lt (Nat.lt_of_lt_of_le b (Nat.le_add_right _ _)), Nat.ne_of_lt b, Nat.ne_of_lt (Nat.lt_of_lt_of_le b (Nat.le_add_right _ _))⟩
  · obtain ⟨a, b, c⟩ := jsOf_lt n ls j hj
    have d := h _ c
    exact ⟨Nat.ne_of_lt (Nat.lt_of_lt_of_le d (by rw [Nat.add_assoc]; exact Nat.le_add_right _ _)), Nat.ne_of_lt (Nat.lt_of_lt_of_le d (by rw [Nat.add_assoc]; exact Nat.le_add_right _ _)), fun k hk => Nat.ne_of_lt (Nat.lt_of_lt_of_le d (jsOf_lt n ls k hk).1)⟩
end
end ZN
namespace ZN
open PySem PySem.Spec PyProof.Rows L2 CM
/-! ### at the level of values -/
/-- the tuples at ps, item by item -/
def ItzN (K : PySem.W.Frag) (ps : List Addr) : It :=
  ⟨fun i H => ∃ row : List V, Paired (fun p v => ∃ xs, SqT K H p xs ∧ xs[i]? = some v) ps row,
    fun i H v H' => ∃ (T : Addr) (row : List V), v = .ref T ∧ H T = none ∧ H' = upd H T (.tup row) ∧ Paired (fun p v => ∀ xs, SqT K H p xs → xs[i]? = some v) ps row,
    fun i H => ∃ p ps' xs, ps = p :: ps' ∧ SqT K H p xs ∧ xs.length ≤ i⟩
def fpN (z TI TO : Addr) (js : Js) : List Addr := z :: TI :: TO :: js.map (·.1)
theorem Gives.of {X : Cx} {pins : List (Addr × Obj)} {σ : L2.St} {H : Hp} {s : Shared} (I : Inv X pins σ H s) {i : Nat} : ∀ {js : Js} {row : List V}, Paired (fun p v => ∃ xs, SqT X.K H p xs ∧ xs[i]? = some v) (js.map (·.2)) row → ∃ us, Gives s.heap i js us ∧ Vals row us
  | [], _, .nil => ⟨[], .nil, .nil⟩
  | j :: js, _, .cons a t => by
    obtain ⟨xs, hx, hv⟩ := a
    obtain ⟨its, rv, p, _⟩ := I.tuple hx
    obtain ⟨u, hu, ru⟩ := rv.get hv
    obtain ⟨us, g, r⟩ := Gives.of I t
    exact ⟨u :: us, .cons ⟨_, p, by simpa using hu⟩ g, .cons ru r⟩
theorem pyIter_zipG {prog : Program} {w : World} {A : Around} {E : Value → Shared → Prop} {s : Shared} {z TI TO : Addr} {f0 f1 : Value} {Q : Value → Shared → Prop} (hz : IsZipG s.heap z TI TO f0 f1) (h : Q (.ref z) s) : wpAny (model prog w) A (pyIter (.ref z)) Q E s := by
  have hT : s.TypeIs (.ref z) "zip" := ⟨_, hz, rfl⟩
  refine wpAny_pyIter_slot hT F.slot_zip_iter (wpAny_call_entry F.slot_zip_iter hT F.entry_zip_iter ?_ (F.args_zip_iter_1 _))
  show wpAny _ _ (ret (.ref z)) _ _ s
  exact wpAny_pure ⟨_, rfl, "zip", _, hT, F.slot_zip_next.lookup, h⟩
theorem turn_zipN {P : Program} {w : World} {K : PySem.W.Frag} {x : Str} {np : Pos} {z TI TO : Addr} {js : Js} (D : Apart z TI TO js) (hne : js ≠ []) (hsz : js.length ≤ 1000) :
    Turn P w K (.Name x np) (ItzN K (js.map (·.2))) (fpN z TI TO js) z (fun i h => ∃ f0 f1 tos, IsZipG h z TI TO f0 f1 ∧ (f0 = .none ∨ ∃ T : Nat, f0 = rawInt T) ∧ IsTupO h TI (itsOf js) ∧ IsTupO h TO tos ∧ tos.size = js.length ∧ ∀ j ∈ js, h.IsTupleIter j.1 j.2 i) where
  mem := List.mem_cons_self ..
  obj := fun i h st c hc => by
    obtain ⟨f0, f1, tos, hz, _, hTI, hTO, _, hi⟩ := st
    rcases List.mem_cons.mp hc with rfl | hc
    · exact ⟨_, hz, fun v q => nomatch q⟩
    rcases List.mem_cons.mp hc with rfl | hc
    · exact ⟨_, hTI, fun v q => nomatch q⟩
    rcases List.mem_cons.mp hc with rfl | hc
    · exact ⟨_, hTO, fun v q => nomatch q⟩
    obtain ⟨j, hj, rfl⟩ := List.mem_map.mp hc
    obtain ⟨o, e, _, d⟩ := hi j hj
    exact ⟨o, e, fun v q => by rw [d] at q; cases q⟩
  keep := fun i h h' st k => by
    obtain ⟨f0, f1, tos, hz, hf, hTI, hTO, ht, hi⟩ := st
    have m1 : z ∈ fpN z TI TO js := List.mem_cons_self ..
    have m2 : TI ∈ fpN z TI TO js := List.mem_cons_of_mem _ (List.mem_cons_self ..)
    have m3 : TO ∈ fpN z TI TO js := List.mem_cons_of_mem _ (List.mem_cons_of_mem _ (List.mem_cons_self ..))
    exact ⟨f0, f1, tos, k z m1 _ hz, hf, k TI m2 _ hTI, k TO m3 _ hTO, ht, fun j hj => (hi j hj).at fun o e => k j.1 (List.mem_cons_of_mem _ (List.mem_cons_of_mem _ (List.mem_cons_of_mem _ (List.mem_map.mpr ⟨j, hj, rfl⟩)))) o e⟩
  item := by
    intro X hP hw hK hc i pins s σ H E I hf st hg
    subst hP hw hK
    obtain ⟨f0, f1, tos, hz, hf0, hTI, hTO, ht, hi⟩ := st
    obtain ⟨row, hr⟩ := hg
    obtain ⟨us, hgv, rv⟩ := Gives.of I hr
    have lus : us.length = js.length := (Paired.length hgv).symm
    have hzl : z < s.heap.objs.size := Heap.lt_size hz
    refine pyNext_zipN_item D hne hsz hz hf0 hTI hTO ht hi hgv fun h' T g1 tos' z' TO' ht' hi' hT hs' hk => ?_
    refine ⟨_, rfl, wpAny_pure ?_⟩
    have new : ObjOk X.prog X.w (upd H s.heap.objs.size (.tup row)) h' s.heap.objs.size (.tup row) :=
      ⟨by rw [rv.length, lus, sizeLine_eq]; omega, us, rv, ⟨_, hT, rfl, _, rfl⟩⟩
    have I1 : Inv X pins σ (upd H s.heap.objs.size (.tup row)) { s with heap := h' } :=
      I.turnedNew (t' := s.toks) (ch := fpN z TI TO js) (fun c o hb q => hk c o (fun q' => hb (by rw [q']; exact List.mem_cons_self ..)) (fun q' => hb (by rw [q']; exact List.mem_cons_of_mem _ (List.mem_cons_of_mem _ (List.mem_cons_self ..))))
        (fun j hj q' => hb (by rw [q']; exact List.mem_cons_of_mem _ (List.mem_cons_of_mem _ (List.mem_cons_of_mem _ (List.mem_map.mpr ⟨j, hj, rfl⟩))))) q) hf (Nat.le_refl _) new
    have hTI' : IsTupO h' TI (itsOf js) := hk TI _ D.TIz D.TITO (fun j hj e => (D.iz j hj).2.1 e.symm) hTI
    refine ⟨.ref s.heap.objs.size, _, I1, rfl, ⟨_, row, rfl, I.hok.fresh (Nat.le_refl _), rfl, Paired.mapP hr fun p v ⟨xs, hx, hv⟩ ys hy => by rw [I.tuple_inj hy hx]; exact hv⟩, ⟨_, g1, tos', z', .inr ⟨T, rfl⟩, hTI', TO', ht', hi'⟩, fun c hcm => ?_⟩
    have hlt : c < s.heap.objs.size := by
      rcases List.mem_cons.mp hcm with rfl | hcm
      · exact hzl
      rcases List.mem_cons.mp hcm with rfl | hcm
      · exact Heap.lt_size hTI
      rcases List.mem_cons.mp hcm with rfl | hcm
      · exact Heap.lt_size hTO
      obtain ⟨j, hj, rfl⟩ := List.mem_map.mp hcm
      obtain ⟨_, e, _⟩ := hi j hj
      exact Heap.lt_size e
    rw [upd_ne (Nat.ne_of_lt hlt)]
    exact (hf c hcm).1
  done := by
    intro X hP hw hK hc i pins s σ H E I hf st hg
    subst hP hw hK
    obtain ⟨f0, f1, tos, hz, hf0, hTI, hTO, ht, hi⟩ := st
    obtain ⟨p, ps', xs, ep, hx, hl⟩ := hg
    cases js with
    | nil => exact absurd rfl hne
    | cons j js =>
      obtain ⟨rfl, _⟩ := List.cons.inj ep
      obtain ⟨its, rv, pp, _⟩ := I.tuple hx
      have l1 := rv.length
      refine pyNext_zipN_end (I.ok.hd hc) D hz hf0 hTI (hi j (List.mem_cons_self ..)) pp (by simp; omega) fun h' hk => ⟨rfl, I.turnedL (t' := s.toks) (ch := fpN z TI TO (j :: js)) (fun c o hb q => hk c o (fun q' => hb (by rw [q']; exact List.mem_cons_self ..)) (fun q' => hb (by rw [q']; exact List.mem_cons_of_mem _ (List.mem_cons_of_mem _ (List.mem_cons_self ..))))
        (fun j' hj q' => hb (by rw [q']; exact List.mem_cons_of_mem _ (List.mem_cons_of_mem _ (List.mem_cons_of_mem _ (List.mem_map.mpr ⟨j', hj, rfl⟩))))) q) hf⟩
  self := fun A i s Q E st h => by
    obtain ⟨f0, f1, tos, hz, _⟩ := st
    exact pyIter_zipG hz h
theorem callWith_typeS {M : Model} {A : Around} {E : Value → Shared → Prop} {s : Shared} {pos : Pos} {T : String} {x : Sem Value} {Q : Value → Shared → Prop}
    (h : wpAny M A x (fun v s₁ => PySem.W.StarOf M A E v (fun vs s₂ => wpAny M A (call (.type T) vs) Q E s₂) s₁) E s) :
    wpAny M A (callWith pos (.type T) [] [(true, (do let v ← x; standAt pos; pure v))] []) Q E s := by
  unfold callWith
  refine wpAny_bind (wpAny_holding (PySem.W.ks_lone (wpAny_mono h (fun v s₁ h₁ => ?_) fun _ _ e => e)))
  unfold PySem.W.StarOf at h₁ ⊢
  refine wpAny_mono h₁ (fun b s₂ h₂ => ⟨h₂.1, wpAny_mono h₂.2 (fun vs s₃ h₃ => ?_) fun _ _ e => e⟩) fun _ _ e => e
  refine wpAny_bind (wpAny_standAt ?_)
  refine wpAny_bind (wpAny_pure ?_)
  exact wpAny_bind (wpAny_operateT (wpAny_mono h₃ (fun r s₂ hr => wpAny_bind (wpAny_holding (wpAny_point (wpAny_pure hr)))) fun _ _ x => x))
theorem jsOf_snd : ∀ (n : Nat) (ls : List Addr), (jsOf n ls).map (·.2) = ls
  | n, [] => rfl
  | n, l :: ls => by
    show l :: (jsOf (n + 1) ls).map (·.2) = l :: ls
    rw [jsOf_snd]
/-- for .. in zip(*l), the rows at ps -/
def iZipN (K : PySem.W.Frag) (te : TE) : TI := fun σ H R => te σ H fun y H1 => ∃ (l : Addr) (ps : List Addr), y = .ref l ∧ (SqT K H1 l (ps.map V.ref) ∨ SqL K H1 l (ps.map V.ref)) ∧ ps ≠ [] ∧ ps.length ≤ 8 ∧ (∀ p ∈ ps, ∃ xs, SqT K H1 p xs) ∧ R (ItzN K ps) H1
theorem vals_refs : ∀ {ps : List Addr} {us : List Value}, Vals (ps.map V.ref) us → us = ps.map Value.ref
  | [], _, .nil => rfl
  | p :: ps, _, .cons r t => by
    cases r
    rw [vals_refs t]
    rfl
theorem pi_zipS {X : Cx} {e : Expr} {te : TE} {p sp pos np : Pos} {x : Str} (hg : Gl X "zip") (hm : X.mg "zip" = none) (he : PE X e te)
    (hst : starEach [.Starred e sp] X.env = [(true, eval e X.env)] := by rfl) : PI X (.Name x np) (.Call (.Name "zip" p) [.Starred e sp] [] pos) (iZipN X.K te) := by
  refine ⟨fun pins s σ H R I h => ?_⟩
  refine Call_ (ld_blt I hg hm PyProof.Rows.boot_zip ?_)
  rw [hst]
  refine callWith_typeS (thn (he.run pins s σ H _ I h) fun v s1 ⟨y, H1, I1, ry, l, ps, ey, hl, hne, h8, hps, q⟩ => ?_)
  subst ey
  obtain rfl : v = Value.ref l := ry
  refine StX.star_any I1 hl fun us s2 I2 rv => ?_
  rw [vals_refs rv]
  have tu : ∀ p ∈ ps, ∃ items, s2.heap.IsTuple p items := fun p hp => by
    obtain ⟨xs, hx⟩ := hps p hp
    obtain ⟨its, _, pp, _⟩ := I2.tuple hx
    exact ⟨_, pp⟩
  refine call_zipN h8 tu fun h' n en hz hTI hTO hi hk => pyIter_zipG hz ?_
  subst en
  obtain ⟨tos, hTO, htz⟩ := hTO
  have I3 : Inv X pins σ H1 { s2 with heap := h' } := I2.kept (t' := s2.toks) hk
  have nl : (jsOf s2.heap.objs.size ps).length = ps.length := jsOf_len ..
  refine ⟨s2.heap.objs.size + ps.length + 2, fpN (s2.heap.objs.size + ps.length + 2) (s2.heap.objs.size + ps.length) (s2.heap.objs.size + ps.length + 1) (jsOf s2.heap.objs.size ps), _, ItzN X.K ((jsOf s2.heap.objs.size ps).map (·.2)), H1, rfl, I3,
    turn_zipN (apart_new fun l hl => ?_) (fun z => hne ?_) (by rw [nl]; omega), ⟨_, _, tos, hz, .inl rfl, hTI, hTO, htz, hi⟩, fun c hc => ?_, ?_⟩
  · obtain ⟨_, o, ho, _⟩ := tu l hl
    exact Heap.lt_size ho
  · rw [z] at nl
    exact List.eq_nil_of_length_eq_zero nl.symm
  · have hle : s2.heap.objs.size ≤ c := by
      rcases List.mem_cons.mp hc with rfl | hc
      · rw [Nat.add_assoc]; exact Nat.le_add_right _ _
      rcases List.mem_cons.mp hc with rfl | hc
      · exact Nat.le_add_right _ _
      rcases List.mem_cons.mp hc with rfl | hc
      · rw [Nat.add_assoc]; exact Nat.le_add_right _ _
      obtain ⟨j, hj, rfl⟩ := List.mem_map.mp hc
      exact (jsOf_lt _ _ j hj).1
    exact I2.fpOk hle (I2.hok.fresh hle)
  · rw [jsOf_snd]
    exact q
/-- the rows of one length -/
theorem walk_zipN {K : PySem.W.Frag} {ps : List Addr} {n : Nat} {rows : List (List V)} (hne : ps ≠ []) :
    Walk (ItzN K ps) n (fun H => Paired (fun p xs => SqT K H p xs ∧ xs.length = n) ps rows) (fun i H v H' => ∃ (T : Addr) (row : List V), v = .ref T ∧ H T = none ∧ H' = upd H T (.tup row) ∧ Paired (fun p v => ∀ xs, SqT K H p xs → xs[i]? = some v) ps row) := by
  refine ⟨fun i H hi g => ?_, fun H g => ?_, fun i H v H' _ _ y => y⟩
  · have z : ∀ {ps : List Addr} {rows : List (List V)}, Paired (fun p xs => SqT K H p xs ∧ xs.length = n) ps rows → ∃ row : List V, Paired (fun p v => ∃ xs, SqT K H p xs ∧ xs[i]? = some v) ps row := by
      intro ps rows g
      induction g with
      | nil => exact ⟨[], .nil⟩
      | @cons p xs _ _ a _ ih =>
        obtain ⟨row, r⟩ := ih
        exact ⟨_, .cons ⟨xs, a.1, List.getElem?_eq_getElem (by rw [a.2]; exact hi)⟩ r⟩
    exact z g
  · cases g with
    | nil => exact absurd rfl hne
    | @cons p xs ps' _ a t => exact ⟨p, ps', xs, rfl, a.1, Nat.le_of_eq a.2⟩
end ZN
set_option Elab.async false
set_option linter.all false
set_option maxRecDepth 100000
set_option maxHeartbeats 4000000
namespace SM
open PySem PySem.Spec PyProof.Rows L2 CM
/-! ### C.m(..) and o.m(..), m a staticmethod -/
structure SMet (K : PySem.W.Frag) (C : Addr) (mc : Value) (m : Str) (p g : Addr) : Prop where
  at_ : PySem.W.findCls K (.ref C) mc m = some (.get (.builtin "staticmethod.__get__") (.ref p) .none (.ref C))
  rc : ∃ rest, PySem.W.recIn K p "staticmethod" = some (.ref g :: rest)
structure SInst (K : PySem.W.Frag) (C : Addr) (m : Str) (p g : Addr) : Prop where
  pg : PySem.W.plainGet K C Str.empty = true
  ic : PySem.W.isClsIn K C = true
  at_ : PySem.W.findIn K (.ref C) m = some (some (.ref p))
  ty : PySem.W.typeIn K (.ref p) = some (.type "staticmethod")
  get : PySem.W.specialIn K (.ref p) "__get__" = some (some (.builtin "staticmethod.__get__"))
  tk : PySem.W.takesIn K (.ref p) = some false
  cp : PySem.W.copiedNames.contains m = false
  rc : ∃ rest, PySem.W.recIn K p "staticmethod" = some (.ref g :: rest)
section
variable {X : Cx} {pins : List (Addr × Obj)} {σ : L2.St} {H : Hp} {s : Shared} {a C p g : Addr} {mc : Value} {f m : Str} {v : V} {u : Value} {A : Around} {E : Value → Shared → Prop}
theorem getsm_ok {b : Bool} {Q : Value → Shared → Prop} (I : Inv X pins σ H s) (r : ClX.CRead X.K C mc) (k : SMet X.K C mc m p g) (h : ∀ s', Inv X pins σ H s' → Q (.ref g) s') : wpAny (model X.prog X.w) A (getAttr (.ref C) m b) Q E s := by
  obtain ⟨rest, hp⟩ := k.rc
  refine PySem.W.cls_bind I.kIn r.rd k.at_ ?_
  refine wpAny_call (PySem.W.sm_get (s := { s with toks := s.toks + 1 }) I.kIn hp (PySem.W.handed_on rfl ?_))
  exact h _ (I.tok _)
theorem getmethsm_ok {pl : Sem Bool} {Q : Value × List Value → Shared → Prop} (I : Inv X pins σ H s) (r : ClX.CRead X.K C mc) (k : SMet X.K C mc m p g)
    (h : ∀ s', Inv X pins σ H s' → Q (.ref g, []) s') : wpAny (model X.prog X.w) A (getMethod (.ref C) m pl) Q E s :=
  PySem.W.method_cls I.kIn r.ga (getsm_ok I r k h)
theorem getmethism_ok {pl : Sem Bool} {ox od : Obj} {Q : Value × List Value → Shared → Prop} (I : Inv X pins σ H s) (J : PySem.W.InstAt s.heap a ox C (some od)) (hl : PySem.W.lookIn m od = some none) (k : SInst X.K C m p g)
    (h : ∀ s', Inv X pins σ H s' → Q (.ref g, []) s') : wpAny (model X.prog X.w) A (getMethod (.ref a) m pl) Q E s := by
  obtain ⟨rest, hp⟩ := k.rc
  refine PySem.W.method_usual (r := some (.ref p)) I.kIn J (PySem.W.plainGet_of (show PySem.W.plainGet X.K C m = true from k.pg)).1 (PySem.W.plainGet_of (show PySem.W.plainGet X.K C m = true from k.pg)).2 k.at_ ?_ ?_
  · show ((PySem.W.typeIn X.K (.ref p)).any fun t => t != .type "function" && t != .type "method_descriptor" && t != .type "wrapper_descriptor") = true
    rw [k.ty]
    decide +kernel
  · refine PySem.W.get_bind I.kIn J (PySem.W.plainGet_of (show PySem.W.plainGet X.K C m = true from k.pg)).1 (ClX.find_cm k.ic k.at_ k.get k.tk k.cp hl) (PySem.W.plainGet_of (show PySem.W.plainGet X.K C m = true from k.pg)).2 ?_
    refine wpAny_call (PySem.W.sm_get (s := { s with toks := s.toks + 1 }) I.kIn hp (PySem.W.handed_on rfl ?_))
    exact h _ (I.tok _)
end
/-- e.m(..), e the class at C, m a staticmethod; what it lets out may hang on the names -/
def tSMeth (C : Addr) (sp : Sp) (E : L2.St → XK) (ta : TE) (t : TA) : TE := fun σ H Q => ta σ H fun x H1 => x = .ref C ∧ t σ H1 fun vs H2 => sp vs H2 Q (E σ)
def tISMeth (C : Addr) (m : Str) (sp : Sp) (E : L2.St → XK) (ta : TE) (t : TA) : TE := fun σ H Q => ta σ H fun x H1 => ∃ a dx fs, x = .ref a ∧ H1 a = some (.ins C dx fs) ∧ fs.lookup m = none ∧ t σ H1 fun ws H2 => sp ws H2 Q (E σ)
section
variable {X : Cx} {CX : CXT} {k : Nat} {C p g : Addr} {mc : Value} {fd : FuncData} {ps : List Str} {sp : Sp} {E : L2.St → XK} {o e : Expr} {es : List Expr} {f m : Str} {pos apos : Pos} {ta : TE} {t : TA} {pl : Sem Bool}
theorem run_fnS {pins : List (Addr × Obj)} {σ : L2.St} {H : Hp} {s : Shared} {Q : VK} {us : List Value} {vs : List V} (F : FnOk X.prog X.w X.K X.mg X.base CX k g fd ps sp) (hr : Room k X.A) (hb : Binds X.K fd ps []) (hx : PassesAt CX X σ (E σ))
    (I : Inv X pins σ H s) (r : Vals vs us) (h : sp vs H Q (E σ)) : wpAny (model X.prog X.w) X.A (call (.ref g) us) (EP X pins σ Q) X.xe s := by
  have hl : (us ++ ([] : List Value)).length = ps.length := by rw [List.append_nil, ← r.length]; exact F.len _ _ _ _ h
  have bb := hb s us I.kIn hl
  rw [List.append_nil] at bb
  refine wpAny_call (codeAny_mono (F.run X.A X.stack s H ⟨us, []⟩ us vs Q (E σ) hr I.env0 bb r h) fun r s' hq => ?_)
  cases r with
  | error e => exact hx pins H s e s' I hq
  | ok fl =>
    cases fl with
    | ret u => exact I.after hq
    | next => exact False.elim hq
    | brk => exact False.elim hq
    | cont => exact False.elim hq
theorem pe_smeth (he : PE X o ta) (r : ClX.CRead X.K C mc) (c : SMet X.K C mc m p g) (hk : PySem.W.keepIn X.K (.ref g) = true) (F : FnOk X.prog X.w X.K X.mg X.base CX k g fd ps sp) (hr : Room k X.A) (hb : Binds X.K fd ps []) (hx : ∀ σ, PassesAt CX X σ (E σ)) (ha : PA X (e :: es) t)
    (hst : starEach (e :: es) X.env = (false, eval e X.env) :: starEach es X.env := by rfl) (hpl : (backTo pos (starEach es X.env)).any (·.1) = false := by rfl)
    (ht : eval (.Call (.Attribute o m apos) (e :: es) [] pos) X.env = (do
      let ov ← eval o X.env
      standAt apos.atName
      let (f, first) ← holding [ov] (getMethod ov m pl)
      callWith pos f first (backTo pos (starEach (e :: es) X.env)) (backToKw pos (keywordEach [] X.env))) := by rfl) :
    PE X (.Call (.Attribute o m apos) (e :: es) [] pos) (tSMeth C sp E ta t) := by
  refine ⟨fun pins s σ H Q I h => ?_⟩
  refine PySem.W.methodCall_KW (pl := pl) (thn (he.run pins s σ H _ I h) fun u s1 ⟨x, H1, I1, rx, ex, q⟩ => ?_) ht
  subst ex
  obtain rfl : u = Value.ref C := rx
  refine getmethsm_ok I1 r c fun s2 I2 => ?_
  refine PySem.W.callWith_K (h₀ := X.base) (first := []) I.ok.mod.kin hk (thn (ha.run pos pins s2 σ H1 _ I2 q) fun us s3 ⟨vs, H2, I3, rv, q2⟩ => ⟨I3.kIn, ?_⟩) hst hpl
  exact run_fnS F hr hb (hx σ) I3 rv q2
theorem pe_ismeth (he : PE X o ta) (c : SInst X.K C m p g) (hk : PySem.W.keepIn X.K (.ref g) = true) (F : FnOk X.prog X.w X.K X.mg X.base CX k g fd ps sp) (hr : Room k X.A) (hb : Binds X.K fd ps []) (hx : ∀ σ, PassesAt CX X σ (E σ)) (ha : PA X (e :: es) t)
    (hst : starEach (e :: es) X.env = (false, eval e X.env) :: starEach es X.env := by rfl) (hpl : (backTo pos (starEach es X.env)).any (·.1) = false := by rfl)
    (ht : eval (.Call (.Attribute o m apos) (e :: es) [] pos) X.env = (do
      let ov ← eval o X.env
      standAt apos.atName
      let (f, first) ← holding [ov] (getMethod ov m pl)
      callWith pos f first (backTo pos (starEach (e :: es) X.env)) (backToKw pos (keywordEach [] X.env))) := by rfl) :
    PE X (.Call (.Attribute o m apos) (e :: es) [] pos) (tISMeth C m sp E ta t) := by
  refine ⟨fun pins s σ H Q I h => ?_⟩
  refine PySem.W.methodCall_KW (pl := pl) (thn (he.run pins s σ H _ I h) fun u s1 ⟨x, H1, I1, rx, a, dx, fs, ex, ea, l, q⟩ => ?_) ht
  subst ex
  obtain rfl : u = Value.ref a := rx
  obtain ⟨mA, O, rr, _, _, _⟩ := ins_get I1.hok ea
  have hn : mA m = none := RelO.none_of (by rw [← l]; exact rr m)
  obtain ⟨od, J, hl⟩ := O.look
  refine getmethism_ok I1 J (by rw [hl m, hn]) c fun s2 I2 => ?_
  refine PySem.W.callWith_K (h₀ := X.base) (first := []) I.ok.mod.kin hk (thn (ha.run pos pins s2 σ H1 _ I2 q) fun us s3 ⟨vs, H2, I3, rv, q2⟩ => ⟨I3.kIn, ?_⟩) hst hpl
  exact run_fnS F hr hb (hx σ) I3 rv q2
end
/-! ### a head's facts of it -/
/-- the class at C has m as a staticmethod, reached by the class and by an instance -/
def staB (K : PySem.W.Frag) (C : Addr) (m : Str) : Bool := He5.wrapB K C "staticmethod" "staticmethod.__get__" m && (PySem.W.readsIn K C (.type "type") && (He.eqO (PySem.W.specialIn K (.ref C) "__getattribute__") (some (some (.builtin "type.__getattribute__"))) &&
  (PySem.W.plainGet K C Str.empty && (PySem.W.isClsIn K C && (He.eqO (PySem.W.findIn K (.ref C) m) (some (some (.ref (He.ma K C m)))) && (decide (PySem.W.typeIn K (.ref (He.ma K C m)) = some (.type "staticmethod")) &&
  (He.eqO (PySem.W.specialIn K (.ref (He.ma K C m)) "__get__") (some (some (.builtin "staticmethod.__get__"))) && (decide (PySem.W.takesIn K (.ref (He.ma K C m)) = some false) && !PySem.W.copiedNames.contains m))))))))
/-- the def behind it -/
def staF (K : PySem.W.Frag) (C : Addr) (m : Str) : Addr := He5.wf K C "staticmethod" m
structure Sta (K : PySem.W.Frag) (C : Addr) (m : Str) : Prop where
  rd : ClX.CRead K C (.type "type")
  met : SMet K C (.type "type") m (He.ma K C m) (staF K C m)
  ins : SInst K C m (He.ma K C m) (staF K C m)
theorem staB_ok {K : PySem.W.Frag} {C : Addr} {m : Str} (h : staB K C m = true) : Sta K C m := by
  obtain ⟨h1, h⟩ := He.ba h
  obtain ⟨h2, h⟩ := He.ba h
  obtain ⟨h3, h⟩ := He.ba h
  obtain ⟨h4, h⟩ := He.ba h
  obtain ⟨h5, h⟩ := He.ba h
  obtain ⟨h6, h⟩ := He.ba h
  obtain ⟨h7, h⟩ := He.ba h
  obtain ⟨h8, h⟩ := He.ba h
  obtain ⟨h9, h10⟩ := He.ba h
  obtain ⟨w1, w2⟩ := He5.wrapB_ok h1
  exact ⟨⟨h2, He.eqO_ok h3⟩, ⟨w1, w2⟩, ⟨h4, h5, He.eqO_ok h6, of_decide_eq_true h7, He.eqO_ok h8, of_decide_eq_true h9, Bool.not_eq_true' _ ▸ h10, w2⟩⟩
/-! ### a hook: what the names reach and the interpreter's own statics, tables left out, defs at any address -/
abbrev AlZ : Type := He.AlX × List He5.FnW
def obsZ (n : Nat) (fa : List He.Fa) (fn : List He.DefD) (tf : List He.Defn) (da : List He5.DefA) (ex : PySem.W.Frag → Bool) (g : Addr → Option Obj) : AlZ :=
  ((He.obsT fa fn [] (OX.reachY g n), (ex (OX.reachY g n) && da.all fun d => d.ok (OX.reachY g n)) && He.tabsB g tf (OX.reachY g n)), da.map fun d => He5.fnA (OX.reachY g n) (d.at_ (OX.reachY g n)))
def valZ (fn : List He.DefD) (da : List He5.DefA) (w : World) : AlZ := (He.valX fn [] w, da.map He5.DefA.val)
structure SaysZ (fa : List He.Fa) (fn : List He.DefD) (tf : List He.Defn) (da : List He5.DefA) (ex : PySem.W.Frag → Bool) (w : World) (h : Heap) (K : PySem.W.Frag) : Prop where
  x : He.SaysX fa fn [] tf ex w h K
  dok : ∀ d ∈ da, d.ok K = true
  dat : da.map (fun d => He5.fnA K (d.at_ K)) = da.map He5.DefA.val
theorem saysZ {n : Nat} {fa : List He.Fa} {fn : List He.DefD} {tf : List He.Defn} {da : List He5.DefA} {ex : PySem.W.Frag → Bool} {w : World} {h : Heap} (e : obsZ n fa fn tf da ex h.get? = valZ fn da w) : SaysZ fa fn tf da ex w h (OX.reachY h.get? n) := by
  have e1 : He.obsT fa fn [] (OX.reachY h.get? n) = He.valT fn [] w := congrArg (fun z : AlZ => z.1.1) e
  have e2 : ((ex (OX.reachY h.get? n) && da.all fun d => d.ok (OX.reachY h.get? n)) && He.tabsB h.get? tf (OX.reachY h.get? n)) = true := congrArg (fun z : AlZ => z.1.2) e
  have e3 : da.map (fun d => He5.fnA (OX.reachY h.get? n) (d.at_ (OX.reachY h.get? n))) = da.map He5.DefA.val := congrArg (fun z : AlZ => z.2) e
  obtain ⟨h0, h2⟩ := He.ba e2
  obtain ⟨h1, hd⟩ := He.ba h0
  have key : ∀ p ∈ tf, PySem.W.codeHdIn (OX.reachY h.get? n) (He.cT (OX.reachY h.get? n) p).1 (He.cT (OX.reachY h.get? n) p).2 = true ∧ ∃ o, h.get? (He.cT (OX.reachY h.get? n) p).2 = some o ∧ He.emptyTab o = true := fun p hp => by
    obtain ⟨h3, h4⟩ := He.ba (List.all_eq_true.mp h2 p hp)
    refine ⟨h3, ?_⟩
    cases q : h.get? (He.cT (OX.reachY h.get? n) p).2 with
    | none =>
      rw [q] at h4
      cases h4
    | some o =>
      rw [q] at h4
      exact ⟨o, rfl, h4⟩
  exact ⟨⟨e1, h1, fun p hp => (key p hp).1, fun p hp => by
    obtain ⟨_, o, q, z⟩ := key p hp
    exact He.frT_none q z, fun p hp => by
    obtain ⟨_, o, q, z⟩ := key p hp
    rw [q, He.emptyTab_eq z]⟩, fun d hd' => List.all_eq_true.mp hd d hd', e3⟩
def hookZ (n : Nat) (fa : List He.Fa) (fn : List He.DefD) (tf : List He.Defn) (da : List He5.DefA) (ex : PySem.W.Frag → Bool) : PySem.W.Hook where
  α := AlZ
  obs s := obsZ n fa fn tf da ex s.heap.get?
  val w := valZ fn da w
  says w h := ∃ K : PySem.W.Frag, K.In h ∧ SaysZ fa fn tf da ex w h K
  of _ s e := ⟨OX.reachY s.heap.get? n, He.frT_in, saysZ e⟩
  keeps _ _ _ z k := by
    obtain ⟨K, hK, c⟩ := z
    exact ⟨K, hK.keeps k, ⟨⟨c.x.t, c.x.more, c.x.hd, c.x.out, fun p hp => k _ _ (c.x.empty p hp)⟩, c.dok, c.dat⟩⟩
theorem obsZ_eq {n : Nat} {fa : List He.Fa} {fn : List He.DefD} {tf : List He.Defn} {da : List He5.DefA} {ex : PySem.W.Frag → Bool} {g : Addr → Option Obj} {s : Shared} (h : ∀ a, g a = s.heap.get? a) : obsZ n fa fn tf da ex g = (hookZ n fa fn tf da ex).obs s := by
  rw [show g = s.heap.get? from funext h]
  rfl
theorem SaysZ.def_ {fa : List He.Fa} {fn : List He.DefD} {tf : List He.Defn} {da : List He5.DefA} {ex : PySem.W.Frag → Bool} {w : World} {h : Heap} {K : PySem.W.Frag} (c : SaysZ fa fn tf da ex w h K) (i : Nat) {d : He5.DefA} (e : da[i]? = some d := by rfl) : ∃ fd, L2.FunD K d.name d.qual d.params d.body d.scope (d.dvs K) (d.kws K) (d.at_ K) fd := by
  have e2 : (da.map fun d => He5.fnA K (d.at_ K))[i]? = (da.map He5.DefA.val)[i]? := by rw [c.dat]
  rw [List.getElem?_map, List.getElem?_map, e] at e2
  exact He5.DefA.funD (Option.some.inj e2) (c.dok d (List.mem_of_getElem? e))
end SM
set_option Elab.async false
set_option linter.all false
set_option maxRecDepth 100000
set_option maxHeartbeats 4000000
/-! methods whose text names super(): they have a cell __class__; told by their body; a hook that sees such defs -/
namespace CF
open PySem PySem.Spec PyProof.Rows L2 CM LamX NdefX
/-- what stands of such a def -/
structure ClsF (K : PySem.W.Frag) (f : Addr) (F : NF) (fd : FuncData) : Prop where
  ex : ∃ (oc : Value) (od : Option Addr) (doc pm ct : Value) (osl : Array (Option Value)) (cc : Addr) (cl : Value) (cld : Option Addr) (csl : Array (Option Value)) (D : Addr),
    fd = F.fd doc pm ct ∧ K.lookup f = some ⟨oc, od, .func (F.fd doc pm ct), osl⟩ ∧ F.cl = [(("__class__" : Str), cc)] ∧ PySem.W.codeIn K (.ref F.c) F.qual = true ∧ K.lookup cc = some ⟨cl, cld, .cell (some (.ref D)), csl⟩
  kp : PySem.W.keepIn K (.ref f) = true
section
variable {P : Program} {w : World} {K : PySem.W.Frag} {mg : Str → Option Value} {base : Heap} {CX : CXT} {k : Nat} {f : Addr} {F : NF} {fd : FuncData} {N ps : List Str} {sp : Sp}
theorem ok_clsF (Z : ClsF K f F fd) (S : NScope N ps ["__class__"] F.scope) (len : ∀ vs H Q E, sp vs H Q E → vs.length = ps.length)
    (hbody : ∀ (A : Around) (outer : List Env) (s : Shared) (H : Hp) (vs : List V) (Q : VK) (E : XK), Room k (A.deeper (envF F f s.heap.objs.size)) → sp vs H Q E →
      ∃ t, PSs (ncx CX P w K mg base N F f A outer s H E) F.body t ∧ t { nx := fun _ H' => Q .non H', rt := Q } (startF N vs [none]) H) : FnOk P w K mg base CX (k + 1) f fd ps sp := by
  obtain ⟨oc, od, doc, pm, ct, osl, cc, cl, cld, csl, D, rfl, lk, hcl, hcd, hcell⟩ := Z.ex
  refine ⟨len, fun A outer s H args us vs Q E hr e0 bt r h => ?_⟩
  have old : ∀ b o, base.get? b = some o → s.heap.get? b = some o := fun b o e => (e0.bs b o e).1
  have X0 : K.In s.heap := e0.mod.kin.keeps old
  have hH : ∀ {b : Addr} {o : Obj}, K.lookup b = some o → H b = none := fun {b o} e => (e0.bs b o (e0.mod.kin b o e)).2
  have look : ∀ {y c}, F.cl.lookup y = some c → y = "__class__" ∧ c = cc := fun {y c} z => by
    rw [hcl] at z
    simp only [List.lookup] at z
    split at z
    · rename_i q
      exact ⟨beq_iff_eq.mp q, (Option.some.inj z).symm⟩
    · cases z
  have Cl : CellsAt F.cl ["__class__"] [none] s.heap H := by
    refine ⟨rfl, fun y c z => ?_, fun x y c z1 z2 => (look z1).1.trans (look z2).1.symm, fun i y z => ?_⟩
    · rw [(look z).2]
      exact ⟨hH hcell, _, _, X0 _ _ hcell, rfl⟩
    · cases i with
      | zero =>
        have e1 : "__class__" = y := Option.some.inj z
        subst e1
        exact ⟨cc, by rw [hcl]; rfl, fun v q => by cases q⟩
      | succ i => cases z
  have lim : s.heap.NoLimit := e0.mod.nolimit.keeps old
  have hl := len _ _ _ _ h
  refine codeAny_call_function hr.depth (X0 _ _ lk) rfl S.co S.gen rfl (PySem.W.codeRec_of X0 hcd) (bt _ _ _ _ ?_)
  refine wpAny_newFunctionEnv S.nocell (fun ⟨n, _⟩ hy => S.par n (List.of_mem_zip hy).1) (fun h₁ hns hsb => ⟨lim.fresh _ hsb, ?_⟩) S.kind
  show codeAny _ _ (.func F.body (envF F f s.heap.objs.size)) _ _
  refine codeAny_func ?_
  have kp : ∀ b o, s.heap.get? b = some o → h₁.get? b = some o := fun b o e => hsb.extBut b o (Nat.ne_of_lt (Heap.lt_size e)) (Heap.get?_push_of_some _ e)
  obtain ⟨t, ht, hq⟩ := hbody A outer s H vs Q E (hr.deeper _) h
  have J : Inv (ncx CX P w K mg base N F f A outer s H E) [] (startF N vs [none]) H { s with heap := h₁, toks := s.toks + (ps.zip us).length } := inv_startN S hr.hd e0 hl r Cl hns kp
  refine wpAny_mono (ht.run [] _ _ _ _ J hq) (fun fl s' hs => ?_) fun e s' hs => hs
  cases fl with
  | ret u =>
    obtain ⟨v, σ', H', J', rv, q⟩ := hs
    exact ⟨v, H', J'.os, J'.bare, J'.base, J'.hok, rv, q⟩
  | next =>
    obtain ⟨σ', H', J', q⟩ := hs
    exact ⟨V.non, H', J'.os, J'.bare, J'.base, J'.hok, rfl, q⟩
  | brk =>
    obtain ⟨_, _, _, z⟩ := hs
    exact False.elim z
  | cont =>
    obtain ⟨_, _, _, z⟩ := hs
    exact False.elim z
end
/-! ### what a head sees of it -/
abbrev FnC : Type := Option (Str × Str × Arguments × List Stmt × Scope)
def fnC (K : PySem.W.Frag) (f : Addr) : FnC := match SU.fnAt K f with
  | some fd => some (fd.name, fd.qualname, fd.params, SU.bodyOf fd, fd.scope)
  | none => none
structure DefC where
  cls : Str
  name : Str
  qual : Str
  st : Stmt
def DefC.at_ (d : DefC) (K : PySem.W.Frag) : Addr := He.ma K (He.ga K d.cls) d.name
def DefC.val (d : DefC) : FnC := some (d.name, d.qual, defArgs d.st, defBody d.st, defScope d.st)
def DefC.ok (d : DefC) (K : PySem.W.Frag) : Bool := PySem.W.keepIn K (.ref (d.at_ K)) && (match SU.fnAt K (d.at_ K) with
  | some fd => (!(SU.bodyOf fd).isEmpty && (match SU.supEnd fd with
    | some (cc, c) => PySem.W.codeIn K (.ref c) fd.qualname && (SU.cellAt K cc).isSome
    | none => false))
  | none => false)
theorem DefC.get {K : PySem.W.Frag} {d : DefC} (h : d.ok K = true) (e : fnC K (d.at_ K) = d.val) : ∃ (F : NF) (fd : FuncData), ClsF K (d.at_ K) F fd ∧ F.params = defArgs d.st ∧ F.body = defBody d.st ∧ F.scope = defScope d.st ∧ F.name = d.name ∧ F.qual = d.qual := by
  obtain ⟨kp, h⟩ := He.ba h
  unfold fnC DefC.val at e
  split at h
  · rename_i fd e1
    rw [e1] at e
    obtain ⟨h1, h⟩ := He.ba h
    split at h
    · rename_i cc c e2
      obtain ⟨h2, h3⟩ := He.ba h
      obtain ⟨D, hD⟩ := Option.isSome_iff_exists.mp h3
      obtain ⟨cl, cld, csl, lcell⟩ := SU.cellAt_ok hD
      obtain ⟨oc, od, osl, lk⟩ := SU.fnAt_ok e1
      have nb : SU.bodyOf fd ≠ [] := fun z => by
        rw [z] at h1
        cases h1
      obtain ⟨doc, pm, ct, ef⟩ := SU.supEnd_ok e2 nb
      simp only [Option.some.injEq, Prod.mk.injEq] at e
      obtain ⟨n1, n2, n3, n4, n5⟩ := e
      refine ⟨⟨fd.name, fd.qualname, fd.params, SU.bodyOf fd, fd.scope, [(("__class__" : Str), cc)], c⟩, fd, ⟨⟨oc, od, doc, pm, ct, osl, cc, cl, cld, csl, D, ef, ?_, rfl, h2, lcell⟩, kp⟩, n3, n4, n5, n1, n2⟩
      rw [lk]
      exact congrArg (fun z => some (⟨oc, od, .func z, osl⟩ : Obj)) ef
    · cases h
  · cases h
/-! ### a hook that sees such defs too -/
abbrev AlW : Type := SM.AlZ × (Bool × List FnC)
def obsW (n : Nat) (fa : List He.Fa) (fn : List He.DefD) (tf : List He.Defn) (da : List He5.DefA) (dc : List DefC) (ex : PySem.W.Frag → Bool) (g : Addr → Option Obj) : AlW :=
  (SM.obsZ n fa fn tf da ex g, dc.all (fun d => d.ok (OX.reachY g n)), dc.map fun d => fnC (OX.reachY g n) (d.at_ (OX.reachY g n)))
def valW (fn : List He.DefD) (da : List He5.DefA) (dc : List DefC) (w : World) : AlW := (SM.valZ fn da w, true, dc.map DefC.val)
structure SaysW (fa : List He.Fa) (fn : List He.DefD) (tf : List He.Defn) (da : List He5.DefA) (dc : List DefC) (ex : PySem.W.Frag → Bool) (w : World) (h : Heap) (K : PySem.W.Frag) : Prop where
  z : SM.SaysZ fa fn tf da ex w h K
  ok : ∀ d ∈ dc, d.ok K = true
  dat : dc.map (fun d => fnC K (d.at_ K)) = dc.map DefC.val
theorem saysW {n : Nat} {fa : List He.Fa} {fn : List He.DefD} {tf : List He.Defn} {da : List He5.DefA} {dc : List DefC} {ex : PySem.W.Frag → Bool} {w : World} {h : Heap} (e : obsW n fa fn tf da dc ex h.get? = valW fn da dc w) : SaysW fa fn tf da dc ex w h (OX.reachY h.get? n) := by
  have e1 := congrArg (fun z : AlW => z.1) e
  have e2 := congrArg (fun z : AlW => z.2.1) e
  have e3 := congrArg (fun z : AlW => z.2.2) e
  exact ⟨SM.saysZ e1, fun d hd => List.all_eq_true.mp e2 d hd, e3⟩
def hookW (n : Nat) (fa : List He.Fa) (fn : List He.DefD) (tf : List He.Defn) (da : List He5.DefA) (dc : List DefC) (ex : PySem.W.Frag → Bool) : PySem.W.Hook where
  α := AlW
  obs s := obsW n fa fn tf da dc ex s.heap.get?
  val w := valW fn da dc w
  says w h := ∃ K : PySem.W.Frag, K.In h ∧ SaysW fa fn tf da dc ex w h K
  of _ s e := ⟨OX.reachY s.heap.get? n, He.frT_in, saysW e⟩
  keeps _ _ _ y k := by
    obtain ⟨K, hK, c⟩ := y
    exact ⟨K, hK.keeps k, ⟨⟨⟨c.z.x.t, c.z.x.more, c.z.x.hd, c.z.x.out, fun p hp => k _ _ (c.z.x.empty p hp)⟩, c.z.dok, c.z.dat⟩, c.ok, c.dat⟩⟩
theorem obsW_eq {n : Nat} {fa : List He.Fa} {fn : List He.DefD} {tf : List He.Defn} {da : List He5.DefA} {dc : List DefC} {ex : PySem.W.Frag → Bool} {g : Addr → Option Obj} {s : Shared} (h : ∀ a, g a = s.heap.get? a) : obsW n fa fn tf da dc ex g = (hookW n fa fn tf da dc ex).obs s := by
  rw [show g = s.heap.get? from funext h]
  rfl
theorem SaysW.cls_ {fa : List He.Fa} {fn : List He.DefD} {tf : List He.Defn} {da : List He5.DefA} {dc : List DefC} {ex : PySem.W.Frag → Bool} {w : World} {h : Heap} {K : PySem.W.Frag} (c : SaysW fa fn tf da dc ex w h K) (i : Nat) {d : DefC} (e : dc[i]? = some d := by rfl) :
    ∃ (F : NF) (fd : FuncData), ClsF K (d.at_ K) F fd ∧ F.params = defArgs d.st ∧ F.body = defBody d.st ∧ F.scope = defScope d.st ∧ F.name = d.name ∧ F.qual = d.qual := by
  have e2 : (dc.map fun d => fnC K (d.at_ K))[i]? = (dc.map DefC.val)[i]? := by rw [c.dat]
  rw [List.getElem?_map, List.getElem?_map, e] at e2
  exact DefC.get (c.ok d (List.mem_of_getElem? e)) (Option.some.inj e2)
end CF
set_option Elab.async false
set_option linter.all false
set_option maxRecDepth 100000
set_option maxHeartbeats 4000000
/-! a reach that costs little: what has been seen is a number's bits; hooks over it -/
namespace RC
open PySem PySem.Spec PyProof.Rows L2 CM
@[inline] def force {α : Type} (n : Nat) (f : Nat → α) : α := match n with
  | 0 => f 0
  | .succ p => f (.succ p)
/-- those of the addresses that m has not, each once -/
def fresh {α : Type} : List Addr → Nat → List Addr → (Nat → List Addr → α) → α
  | [], m, acc, k => k m acc
  | a :: as, m, acc, k => match Nat.land (Nat.shiftRight m a) 1 with
    | 0 => force (Nat.lor m (Nat.shiftLeft 1 a)) fun m2 => fresh as m2 (a :: acc) k
    | _ => fresh as m acc k
def refsA (g : Addr → Option Obj) (as : List Addr) : List Addr := as.flatMap fun a => match g a with
  | some o => He.refsD o
  | none => []
def levels (g : Addr → Option Obj) : Nat → List Addr → Nat → List Addr
  | 0, _, _ => []
  | n + 1, fr, m => fresh (refsA g fr) m [] fun m2 nw => nw ++ levels g n nw m2
def asB (g : Addr → Option Obj) (n : Nat) : List Addr := mainGlobals :: cStatics :: sysModules :: levels g n [mainGlobals] (Nat.lor (Nat.shiftLeft 1 mainGlobals) (Nat.lor (Nat.shiftLeft 1 cStatics) (Nat.shiftLeft 1 sysModules)))
def reach (g : Addr → Option Obj) (n : Nat) : PySem.W.Frag := He.frT g (asB g n)
def obsZ (n : Nat) (fa : List He.Fa) (fn : List He.DefD) (tf : List He.Defn) (da : List He5.DefA) (ex : PySem.W.Frag → Bool) (g : Addr → Option Obj) : SM.AlZ :=
  ((He.obsT fa fn [] (reach g n), (ex (reach g n) && da.all fun d => d.ok (reach g n)) && He.tabsB g tf (reach g n)), da.map fun d => He5.fnA (reach g n) (d.at_ (reach g n)))
theorem saysZ {n : Nat} {fa : List He.Fa} {fn : List He.DefD} {tf : List He.Defn} {da : List He5.DefA} {ex : PySem.W.Frag → Bool} {w : World} {h : Heap} (e : obsZ n fa fn tf da ex h.get? = SM.valZ fn da w) : SM.SaysZ fa fn tf da ex w h (reach h.get? n) := by
  have e1 : He.obsT fa fn [] (reach h.get? n) = He.valT fn [] w := congrArg (fun z : SM.AlZ => z.1.1) e
  have e2 : ((ex (reach h.get? n) && da.all fun d => d.ok (reach h.get? n)) && He.tabsB h.get? tf (reach h.get? n)) = true := congrArg (fun z : SM.AlZ => z.1.2) e
  have e3 : da.map (fun d => He5.fnA (reach h.get? n) (d.at_ (reach h.get? n))) = da.map He5.DefA.val := congrArg (fun z : SM.AlZ => z.2) e
  obtain ⟨h0, h2⟩ := He.ba e2
  obtain ⟨h1, hd⟩ := He.ba h0
  have key : ∀ p ∈ tf, PySem.W.codeHdIn (reach h.get? n) (He.cT (reach h.get? n) p).1 (He.cT (reach h.get? n) p).2 = true ∧ ∃ o, h.get? (He.cT (reach h.get? n) p).2 = some o ∧ He.emptyTab o = true := fun p hp => by
    obtain ⟨h3, h4⟩ := He.ba (List.all_eq_true.mp h2 p hp)
    refine ⟨h3, ?_⟩
    cases q : h.get? (He.cT (reach h.get? n) p).2 with
    | none =>
      rw [q] at h4
      cases h4
    | some o =>
      rw [q] at h4
      exact ⟨o, rfl, h4⟩
  exact ⟨⟨e1, h1, fun p hp => (key p hp).1, fun p hp => by
    obtain ⟨_, o, q, z⟩ := key p hp
    exact He.frT_none q z, fun p hp => by
    obtain ⟨_, o, q, z⟩ := key p hp
    rw [q, He.emptyTab_eq z]⟩, fun d hd' => List.all_eq_true.mp hd d hd', e3⟩
def hookZ (n : Nat) (fa : List He.Fa) (fn : List He.DefD) (tf : List He.Defn) (da : List He5.DefA) (ex : PySem.W.Frag → Bool) : PySem.W.Hook where
  α := SM.AlZ
  obs s := obsZ n fa fn tf da ex s.heap.get?
  val w := SM.valZ fn da w
  says w h := ∃ K : PySem.W.Frag, K.In h ∧ SM.SaysZ fa fn tf da ex w h K
  of _ s e := ⟨reach s.heap.get? n, He.frT_in, saysZ e⟩
  keeps _ _ _ z k := by
    obtain ⟨K, hK, c⟩ := z
    exact ⟨K, hK.keeps k, ⟨⟨c.x.t, c.x.more, c.x.hd, c.x.out, fun p hp => k _ _ (c.x.empty p hp)⟩, c.dok, c.dat⟩⟩
theorem obsZ_eq {n : Nat} {fa : List He.Fa} {fn : List He.DefD} {tf : List He.Defn} {da : List He5.DefA} {ex : PySem.W.Frag → Bool} {g : Addr → Option Obj} {s : Shared} (h : ∀ a, g a = s.heap.get? a) : obsZ n fa fn tf da ex g = (hookZ n fa fn tf da ex).obs s := by
  rw [show g = s.heap.get? from funext h]
  rfl
def obsW (n : Nat) (fa : List He.Fa) (fn : List He.DefD) (tf : List He.Defn) (da : List He5.DefA) (dc : List CF.DefC) (ex : PySem.W.Frag → Bool) (g : Addr → Option Obj) : CF.AlW :=
  (obsZ n fa fn tf da ex g, dc.all (fun d => d.ok (reach g n)), dc.map fun d => CF.fnC (reach g n) (d.at_ (reach g n)))
theorem saysW {n : Nat} {fa : List He.Fa} {fn : List He.DefD} {tf : List He.Defn} {da : List He5.DefA} {dc : List CF.DefC} {ex : PySem.W.Frag → Bool} {w : World} {h : Heap} (e : obsW n fa fn tf da dc ex h.get? = CF.valW fn da dc w) : CF.SaysW fa fn tf da dc ex w h (reach h.get? n) := by
  have e1 := congrArg (fun z : CF.AlW => z.1) e
  have e2 := congrArg (fun z : CF.AlW => z.2.1) e
  have e3 := congrArg (fun z : CF.AlW => z.2.2) e
  exact ⟨saysZ e1, fun d hd => List.all_eq_true.mp e2 d hd, e3⟩
def hookW (n : Nat) (fa : List He.Fa) (fn : List He.DefD) (tf : List He.Defn) (da : List He5.DefA) (dc : List CF.DefC) (ex : PySem.W.Frag → Bool) : PySem.W.Hook where
  α := CF.AlW
  obs s := obsW n fa fn tf da dc ex s.heap.get?
  val w := CF.valW fn da dc w
  says w h := ∃ K : PySem.W.Frag, K.In h ∧ CF.SaysW fa fn tf da dc ex w h K
  of _ s e := ⟨reach s.heap.get? n, He.frT_in, saysW e⟩
  keeps _ _ _ y k := by
    obtain ⟨K, hK, c⟩ := y
    exact ⟨K, hK.keeps k, ⟨⟨⟨c.z.x.t, c.z.x.more, c.z.x.hd, c.z.x.out, fun p hp => k _ _ (c.z.x.empty p hp)⟩, c.z.dok, c.z.dat⟩, c.ok, c.dat⟩⟩
theorem obsW_eq {n : Nat} {fa : List He.Fa} {fn : List He.DefD} {tf : List He.Defn} {da : List He5.DefA} {dc : List CF.DefC} {ex : PySem.W.Frag → Bool} {g : Addr → Option Obj} {s : Shared} (h : ∀ a, g a = s.heap.get? a) : obsW n fa fn tf da dc ex g = (hookW n fa fn tf da dc ex).obs s := by
  rw [show g = s.heap.get? from funext h]
  rfl
/-- how a def with a cell __class__ binds -/
theorem _root_.CF.ClsF.bindsN {K : PySem.W.Frag} {f : Addr} {F : NdefX.NF} {fd : FuncData} {pr : Arguments} {ps : List Str} (Z : CF.ClsF K f F fd) (hp : F.params = pr)
    (h : ∀ (nm ql : Str) (bo : List Stmt) (sc : Scope) (cl : List (Str × Addr)) (doc pm cdv ct : Value) (us : List Value), us.length = ps.length → bindArgs (PySem.W.fnX nm ql pr bo sc cl .none .none doc pm none cdv ct) ⟨us, []⟩ = pure (ps.zip us)) : Binds K fd ps [] := by
  obtain ⟨oc, od, doc, pm, ct, osl, cc, cl, cld, csl, D, rfl, _⟩ := Z.ex
  subst hp
  exact .all fun us hl => h _ _ _ _ _ _ _ _ _ us hl
end RC
set_option Elab.async false
set_option linter.all false
set_option maxRecDepth 100000
set_option maxHeartbeats 4000000
/-! xs.index(y) of data at any depth -/
namespace IDX
open PySem PySem.Spec PyProof.Rows L2 CM RZ DN
def rIndexN : V → List V → Hp → VK → Prop := fun x xs H Q => ∃ (a : Addr) (ys : List V) (y : V) (d : PyData) (ds : List PyData) (j : Nat), x = V.ref a ∧ xs = [y] ∧ H a = some (.lst ys) ∧ ShwAll H ys ds ∧ Shw H y d ∧ d.depth ≤ 40 ∧ SeqAt.dataPlace ds d = some j ∧ Q (.int (j : Nat)) H
theorem mt_indexN {X : Cx} (hu : X.A.units + 64 < cLine) : MtR X "list.index" rIndexN := by
  intro pins s σ H x xs v us Q I rx rxs h
  obtain ⟨a, ys, y, d, ds, j, rfl, rfl, ha, hall, hy, hdp, hp, q⟩ := h
  cases rx
  cases rxs with
  | cons ry rt =>
    rename_i uy ut
    cases rt
    obtain ⟨bs, r1⟩ := hy.reads I.hok ry
    have hroom : X.A.units + 1 + min (PyData.depthAll ds) d.depth < cLine := by
      have := Nat.min_le_right (PyData.depthAll ds) d.depth
      omega
    obtain ⟨its, rv, ⟨⟨cls, dd, data, sls⟩, n, ho, hc, hdn, hdt⟩, hlen⟩ := I.list (show SqL X.K H a ys from .inl (.inl ha))
    simp only at hc hdt
    subst hc hdt
    obtain ⟨as, h4⟩ := hall.reads I.hok rv
    have h5 : ReadsAll s.heap its.toArray.toList ds as := h4
    obtain ⟨hj, hit, hno⟩ := SeqAt.hit_at h5 (shws_plain hall) hp
    have hsl := sizeLine_eq
    have hvl := rv.length
    have hsz : its.toArray.size = its.length := by simp
    refine call_meets PySem.F.slot_list_index ⟨_, ho, rfl⟩ PySem.F.entry_list_index (PySem.F.args_list_index_2 _ _)
      (SeqAt.list_indexAt a its.toArray n dd sls uy (fun u => PyData.eqv (SeqAt.readOf s.heap u) d) j hj (by omega) hit hno) ⟨ho, SeqAt.items_plain h5 r1 (shws_plain hall) (shw_plain hy) hroom, ?_⟩
    exact ⟨.int (j : Nat), H, I.tok _, ⟨_, rfl⟩, q⟩
end IDX
set_option Elab.async false
set_option linter.all false
set_option maxRecDepth 100000
set_option maxHeartbeats 4000000
/-! lists of plain values, each once: labels, keys -/
namespace LB
open PySem PySem.Spec PyProof.Rows L2 CM RZ DN GR
mutual
theorem eqv_dat : ∀ a b : NK, PyData.eqv (dat a) (dat b) = NestedKey.beq a b
  | .none, b => by cases b <;> simp [dat, PyData.eqv, NestedKey.beq]
  | .num i, b => by
    cases b <;> simp [dat, PyData.eqv, NestedKey.beq]
    rw [Bool.eq_iff_iff]
    simp
  | .text z, b => by
    cases b <;> simp [dat, PyData.eqv, NestedKey.beq]
    rw [Bool.eq_iff_iff]
    simp
  | .tup ks, b => by
    cases b with
    | tup js =>
      rw [dat, dat, PyData.eqv, NestedKey.beq]
      exact eqvAll_dats ks js
    | _ => simp [dat, PyData.eqv, NestedKey.beq]
theorem eqvAll_dats : ∀ a b : List NK, PyData.eqvAll (dats a) (dats b) = NestedKey.beqAll a b
  | [], [] => by rw [dats, PyData.eqvAll, NestedKey.beqAll]
  | [], b :: bs => by rw [dats, dats, PyData.eqvAll, NestedKey.beqAll]
  | a :: as, [] => by rw [dats, dats, PyData.eqvAll, NestedKey.beqAll]
  | a :: as, b :: bs => by rw [dats, dats, PyData.eqvAll, NestedKey.beqAll, eqv_dat a b, eqvAll_dats as bs]
end
theorem eqv_dat_iff {a b : NK} : PyData.eqv (dat a) (dat b) = true ↔ a = b := by
  rw [eqv_dat]
  exact ⟨NestedKey.eq_of_beq a b, fun e => e ▸ NestedKey.beq_self a⟩
theorem dats_map : ∀ ks : List NK, dats ks = ks.map dat
  | [] => by rw [dats]; rfl
  | k :: ks => by rw [dats, dats_map ks]; rfl
/-- the first place of k -/
theorem place_of {ks : List NK} {i : Nat} {k : NK} (h : ks[i]? = some k) (hn : ∀ j, j < i → ks[j]? ≠ some k) : SeqAt.dataPlace (dats ks) (dat k) = some i := by
  unfold SeqAt.dataPlace
  rw [dats_map]
  obtain ⟨hi, ei⟩ := List.getElem?_eq_some_iff.mp h
  refine List.findIdx?_eq_some_iff_getElem.mpr ⟨by rw [List.length_map]; exact hi, ?_, fun j hj => ?_⟩
  · rw [List.getElem_map, ei]
    exact eqv_dat_iff.mpr rfl
  · rw [List.getElem_map]
    intro z
    have e := eqv_dat_iff.mp z
    exact hn j hj (by rw [List.getElem?_eq_getElem (by omega), e])
/-- the first place of what is in it -/
theorem place_mem : ∀ {ks : List NK} {k : NK}, k ∈ ks → ∃ i, i < ks.length ∧ ks[i]? = some k ∧ SeqAt.dataPlace (dats ks) (dat k) = some i
  | ks, k, hk => by
    have : ∃ i, ks[i]? = some k := List.mem_iff_getElem?.mp hk
    have h2 : ∃ i : Nat, ks[i]? = some k ∧ ∀ j : Nat, j < i → ks[j]? ≠ some k := by
      obtain ⟨i, hi⟩ := this
      induction i using Nat.strongRecOn with
      | ind i ih =>
        by_cases h : ∃ j, j < i ∧ ks[j]? = some k
        · obtain ⟨j, hj, e⟩ := h
          exact ih j hj e
        · exact ⟨i, hi, fun j hj e => h ⟨j, hj, e⟩⟩
    obtain ⟨i, h1, h3⟩ := h2
    exact ⟨i, (List.getElem?_eq_some_iff.mp h1).1, h1, place_of h1 h3⟩
/-- a list at D of plain values, no two alike -/
structure Labs (H : Hp) (D : Addr) (ls : List V) (ks : List NK) : Prop where
  at_ : H D = some (.lst ls)
  len : ls.length = ks.length
  pl : ∀ (i : Nat) (v : V) (k : NK), ls[i]? = some v → ks[i]? = some k → Pl H v k
  inj : ∀ (i j : Nat) (k : NK), ks[i]? = some k → ks[j]? = some k → i = j
theorem Labs.mono {H H' : Hp} {D : Addr} {ls : List V} {ks : List NK} (h : Labs H D ls ks) (e : H' D = some (.lst ls)) (s : ∀ a xs, H a = some (.tup xs) → H' a = some (.tup xs)) : Labs H' D ls ks :=
  ⟨e, h.len, fun i v k h1 h2 => (h.pl i v k h1 h2).same s, h.inj⟩
theorem Labs.shw {H : Hp} {D : Addr} : ∀ {ls : List V} {ks : List NK}, ls.length = ks.length → (∀ (i : Nat) (v : V) (k : NK), ls[i]? = some v → ks[i]? = some k → Pl H v k) → ShwAll H ls (dats ks)
  | [], [], _, _ => by rw [dats]; exact .nil
  | [], _ :: _, h, _ => by cases h
  | _ :: _, [], h, _ => by cases h
  | v :: ls, k :: ks, h, f => by
    rw [dats]
    exact .cons (f 0 v k rfl rfl).shw (Labs.shw (D := D) (Nat.succ.inj h) fun i x y h1 h2 => f (i + 1) x y h1 h2)
theorem Labs.get {H : Hp} {D : Addr} {ls : List V} {ks : List NK} (h : Labs H D ls ks) {i : Nat} (hi : i < ls.length) : ∃ v k, ls[i]? = some v ∧ ks[i]? = some k ∧ Pl H v k := by
  have h2 : i < ks.length := by rw [← h.len]; exact hi
  exact ⟨ls[i], ks[i], List.getElem?_eq_getElem hi, List.getElem?_eq_getElem h2, h.pl i _ _ (List.getElem?_eq_getElem hi) (List.getElem?_eq_getElem h2)⟩
/-- what xs.index(y) finds, y the i-th -/
theorem Labs.index {H H' : Hp} {D : Addr} {ls : List V} {ks : List NK} {i : Nat} {v : V} {Q : VK} (h : Labs H D ls ks) (hv : ls[i]? = some v) (q : Q (.int (i : Nat)) H) : IDX.rIndexN (.ref D) [v] H Q := by
  have hi := (List.getElem?_eq_some_iff.mp hv).1
  obtain ⟨v', k, e1, e2, p⟩ := h.get hi
  rw [hv] at e1
  cases e1
  exact ⟨D, ls, v, dat k, dats ks, i, rfl, rfl, h.at_, Labs.shw (D := D) h.len h.pl, p.shw, by rw [dat_depth]; exact Nat.le_trans p.dep (by decide), place_of e2 fun j hj e => by
    have := h.inj i j k e2 e
    omega, q⟩
theorem Labs.ix {H : Hp} {D : Addr} {ls : List V} {ks : List NK} {i : Nat} {v : V} (h : Labs H D ls ks) (hv : ls[i]? = some v) : ∃ (d : PyData) (ds : List PyData), ShwAll H ls ds ∧ Shw H v d ∧ d.depth ≤ 40 ∧ SeqAt.dataPlace ds d = some i := by
  have hi := (List.getElem?_eq_some_iff.mp hv).1
  obtain ⟨v', k, e1, e2, p⟩ := h.get hi
  rw [hv] at e1
  cases e1
  exact ⟨dat k, dats ks, Labs.shw (D := D) h.len h.pl, p.shw, by rw [dat_depth]; exact Nat.le_trans p.dep (by decide), place_of e2 fun j hj e => by
    have := h.inj i j k e2 e
    omega⟩
theorem inj_set {ks : List NK} {r : Nat} {k : NK} (h : ∀ (i j : Nat) (k : NK), ks[i]? = some k → ks[j]? = some k → i = j) (hk : k ∉ ks) : ∀ (i j : Nat) (z : NK), (ks.set r k)[i]? = some z → (ks.set r k)[j]? = some z → i = j := by
  intro i j z h1 h2
  rw [List.getElem?_set] at h1 h2
  by_cases e1 : r = i
  · by_cases e2 : r = j
    · omega
    · rw [if_neg e2] at h2
      rw [if_pos e1] at h1
      split at h1
      · cases h1
        exact absurd (List.mem_of_getElem? h2) hk
      · cases h1
  · rw [if_neg e1] at h1
    by_cases e2 : r = j
    · rw [if_pos e2] at h2
      split at h2
      · cases h2
        exact absurd (List.mem_of_getElem? h1) hk
      · cases h2
    · rw [if_neg e2] at h2
      exact h i j z h1 h2
/-- the sixteen values of which labels and keys are drawn -/
def k16 : List NK := [.num 0, .num 1, .num (-7), .text "", .text "a", .text "b c", .none, .tup [], .tup [.num 1, .text "a"], .tup [.tup [.none], .num 2], .num (10 ^ 20), .text "A", .tup [.num 0], .num 2, .text "zz", .tup [.tup [.tup [.tup [.num 1]]]]]
theorem k16_inj : ∀ i < 16, ∀ j < 16, k16[i]? = k16[j]? → i = j := by decide +kernel
theorem step_inj : ∀ at_ < 16, ∀ d < 8, ∀ k < 8, ∀ l < 8, (at_ + (1 + 2 * d) * k) % 16 = (at_ + (1 + 2 * d) * l) % 16 → k = l := by decide +kernel
theorem k16_pl : ∀ k ∈ k16, plN 4 k = true ∧ k.depth ≤ 6 := by decide +kernel
/-- those that a walk of odd steps meets -/
def walk16 (at_ d n : Nat) : List NK := (List.range n).map fun k => k16.getD ((at_ + (1 + 2 * d) * k) % 16) .none
theorem walk16_len (at_ d n : Nat) : (walk16 at_ d n).length = n := by
  unfold walk16
  rw [List.length_map, List.length_range]
theorem walk16_at {at_ d n i : Nat} (h : i < n) : (walk16 at_ d n)[i]? = k16[(at_ + (1 + 2 * d) * i) % 16]? := by
  have h2 : (at_ + (1 + 2 * d) * i) % 16 < k16.length := Nat.mod_lt _ (by decide)
  unfold walk16
  rw [List.getElem?_map, List.getElem?_range h]
  show some (k16.getD ((at_ + (1 + 2 * d) * i) % 16) .none) = _
  rw [List.getD_eq_getElem?_getD, List.getElem?_eq_getElem h2]
  rfl
theorem walk16_inj {at_ d n : Nat} (ha : at_ < 16) (hd : d < 8) (hn : n ≤ 8) : ∀ (i j : Nat) (k : NK), (walk16 at_ d n)[i]? = some k → (walk16 at_ d n)[j]? = some k → i = j := by
  intro i j k h1 h2
  have hi := (List.getElem?_eq_some_iff.mp h1).1
  have hj := (List.getElem?_eq_some_iff.mp h2).1
  rw [walk16_len] at hi hj
  rw [walk16_at hi] at h1
  rw [walk16_at hj] at h2
  exact step_inj at_ ha d hd i (by omega) j (by omega) (k16_inj _ (Nat.mod_lt _ (by decide)) _ (Nat.mod_lt _ (by decide)) (h1.trans h2.symm))
theorem walk16_no {at_ d n : Nat} {z : Int} (h0 : 0 ≤ z) (h1 : z < 10 ^ 9) : NestedKey.num (1000 + z) ∉ walk16 at_ d n := by
  intro h
  obtain ⟨i, hi⟩ := List.mem_iff_getElem?.mp h
  have hl := (List.getElem?_eq_some_iff.mp hi).1
  rw [walk16_len] at hl
  rw [walk16_at hl] at hi
  have hm := List.mem_of_getElem? hi
  simp only [k16, List.mem_cons, List.not_mem_nil, or_false, NestedKey.num.injEq, reduceCtorEq, false_or] at hm
  have e20 : (10 : Int) ^ 20 = 100000000000000000000 := by decide
  have e9 : (10 : Int) ^ 9 = 1000000000 := by decide
  rw [e20] at hm
  rw [e9] at h1
  omega
end LB
set_option Elab.async false
set_option linter.all false
set_option maxRecDepth 100000
set_option maxHeartbeats 4000000
/-! a method whose text is: if test: return super().m(..); and one statement more -/
namespace SU
open PySem PySem.Spec PySem.Calls PyProof.Rows L2 CM LamX NdefX ClX
/-- C's method at f has a cell __class__ that holds D; super().m, asked of a C, is f2 -/
def supI (F0 : Str) (K : PySem.W.Frag) (C D f f2 : Addr) (m : Str) : Bool := match fnAt K f with
  | some fd => (match supEnd fd with
    | some (cc, c) => decide (fileAt K c = some F0) && (decide (cellAt K cc = some D) && ((PySem.W.clsIn K D).isSome && (decide (PySem.W.mroIn K C (.ref D) = some true) && ((match PySem.W.clsIn K C with
        | some cd => decide (PySem.W.alongIn K m ((cd.mro.dropWhile (· != .ref D)).drop 1) = some (some (.ref f2)))
        | none => false) && (decide (PySem.W.typeIn K (.ref f2) = some (.type "function")) && (decide (PySem.W.nsIn K cStatics "thirdparty.any" = some none) && PySem.W.fnIn K f2))))))
    | none => false)
  | none => false
section
variable {P : Program} {w : World} {K : PySem.W.Frag} {mg : Str → Option Value} {base : Heap} {CX : CXT} {k : Nat}
theorem supI_ok {F0 : Str} {C D f f2 : Addr} {m : Str} {F : NF} {fd : FuncData} (h : supI F0 K C D f f2 m = true) (O : SupOk F0 P) (Z : CF.ClsF K f F fd) (hb : F.body ≠ []) : SupF P K C D f f2 m F fd := by
  obtain ⟨oc, od, doc, pm, ct, osl, cc, cl, cld, csl, D', rfl, lk, hcl, hcd, hcell⟩ := Z.ex
  have ef : fnAt K f = some (F.fd doc pm ct) := by
    unfold fnAt
    rw [lk]
  unfold supI at h
  rw [ef] at h
  dsimp only at h
  split at h
  · rename_i cc' c' e2
    simp only [Bool.and_eq_true, decide_eq_true_eq] at h
    obtain ⟨h6, h7, h8, h9, h10, h11, h12, h13⟩ := h
    obtain ⟨doc', pm', ct', ef'⟩ := supEnd_ok e2 hb
    obtain ⟨nm, qual, params, body, scope, cl0, co⟩ := F
    dsimp only at hcl hcd
    subst hcl
    have e3 : cc = cc' ∧ co = c' := by
      have q1 : [(("__class__" : Str), cc)] = [(("__class__" : Str), cc')] := congrArg FuncData.closure ef'
      have q2 : Value.ref co = Value.ref c' := congrArg FuncData.code ef'
      exact ⟨by injection q1 with q _; injection q, by injection q2⟩
    obtain ⟨rfl, rfl⟩ := e3
    obtain ⟨ccl, cdd, vs, ccs, tf, lc, hv⟩ := fileAt_ok h6
    obtain ⟨cl1, cld1, csl1, lcell⟩ := cellAt_ok h7
    obtain ⟨cdD, hD⟩ := Option.isSome_iff_exists.mp h8
    split at h10
    · rename_i cd hC
      have h10 := of_decide_eq_true h10
      exact ⟨oc, od, doc, pm, ct, osl, cc, ccl, cdd, vs, F0, tf, ccs, cl1, cld1, csl1, cdD, cd, rfl, lk, rfl, hcd, lc, hv, O.file, lcell, hD, h9, hC, h10, h11, h12, h13⟩
    · cases h10
  · cases h
def spSupI (N ps : List Str) (C : Addr) (tc : TT) (t : TA) (t2 : TS) (sp : Sp) : Sp := fun vs H Q E => vs.length = ps.length ∧ tc (startF N vs [none]) H fun b H1 =>
  if b = true then ∃ a dx fs, vs[0]? = some (.ref a) ∧ H1 a = some (.ins C dx fs) ∧ t (startF N vs [none]) H1 (fun ws H2 => sp (.ref a :: ws) H2 Q E) else t2 { nx := fun _ H' => Q .non H', rt := Q } (startF N vs [none]) H1
theorem ok_superIf {C D f f2 : Addr} {m : Str} {F : NF} {fd : FuncData} {N ps ps' : List Str} {sp : Sp} {t : TA} {tc : TT} {t2 : TS} {test : Expr} {st2 : Stmt} {ipos : Pos} {ar : Arg} {p0 p1 apos pos rp : Pos} {e : Expr} {es : List Expr} (S : NScope N ps ["__class__"] F.scope) (Z : SupF P K C D f f2 m F fd)
    (hps : ps = ar.arg :: ps') (hp : (F.params.posonlyargs ++ F.params.args).head? = some ar) (hks : F.scope.names.lookup ("super" : Str) = some .globalImplicit)
    (hbody : F.body = [.If test [.Return (some (.Call (.Attribute (.Call (.Name "super" p0) [] [] p1) m apos) (e :: es) [] pos)) rp] [] ipos, st2])
    (htop : (P.main.scope.names.lookup ("super" : Str)).isSome = false) (msup : mg "super" = none) (hn : (m == ("__class__" : Str)) = false) (G : FnR P w K mg base CX k f2 sp)
    (htest : ∀ (A : Around) (outer : List Env) (s : Shared) (H : Hp) (E : XK), Room k (A.deeper (envF F f s.heap.objs.size)) → PT (ncx CX P w K mg base N F f A outer s H E) test tc)
    (hst2 : ∀ (A : Around) (outer : List Env) (s : Shared) (H : Hp) (E : XK), Room k (A.deeper (envF F f s.heap.objs.size)) → PSs (ncx CX P w K mg base N F f A outer s H E) [st2] t2)
    (ha : ∀ (g : Addr) (A : Around) (outer : List Env) (s : Shared) (H : Hp) (E : XK), PA (ncx CX P w K mg base N F g A outer s H E) (e :: es) t) (hx : ∀ (g : Addr) (A : Around) (outer : List Env) (s : Shared) (H : Hp) (E : XK), Passes CX (ncx CX P w K mg base N F g A outer s H E) E)
    (hst : ∀ env : Env, starEach (e :: es) env = (false, eval e env) :: starEach es env) (hpl : ∀ env : Env, (backTo pos (starEach es env)).any (·.1) = false)
    {pl : Env → Sem Bool} (hev : ∀ env : Env, eval (.Call (.Attribute (.Call (.Name "super" p0) [] [] p1) m apos) (e :: es) [] pos) env = (do
      let ov ← attributeBase (.Call (.Name "super" p0) [] [] p1) m env (eval (.Call (.Name "super" p0) [] [] p1) env)
      standAt apos.atName
      let (f, first) ← holding [ov] (getMethod ov m (pl env))
      callWith pos f first (backTo pos (starEach (e :: es) env)) [])) :
    FnOk P w K mg base CX (k + 1) f fd ps (spSupI N ps C tc t t2 sp) := by
  obtain ⟨oc, od, doc, pm, ct, osl, cc, ccl, cdd, cvs, file, tf, ccs, cl, cld, csl, cdD, cd, rfl, lk, hcl, hcd, hcode, hvs, hfile, hcell, hD, hsub, hC, hal, hty, hno, hfn⟩ := Z.ex
  refine ⟨fun vs H Q E h => h.1, fun A outer s H args us vs Q E hr e0 bt r h => ?_⟩
  obtain ⟨hl, hq⟩ := h
  have old : ∀ b o, base.get? b = some o → s.heap.get? b = some o := fun b o e => (e0.bs b o e).1
  have X0 : K.In s.heap := e0.mod.kin.keeps old
  have hH : ∀ {b : Addr} {o : Obj}, K.lookup b = some o → H b = none := fun {b o} e => (e0.bs b o (e0.mod.kin b o e)).2
  have Cl : CellsAt F.cl ["__class__"] [none] s.heap H := by
    refine ⟨rfl, fun y c z => ?_, fun x y c z1 z2 => ?_, fun i y z => ?_⟩
    · rw [hcl] at z
      have e1 : cc = c := by
        simp only [List.lookup] at z
        split at z
        · exact Option.some.inj z
        · cases z
      subst e1
      exact ⟨hH hcell, _, _, X0 _ _ hcell, rfl⟩
    · rw [hcl] at z1 z2
      simp only [List.lookup] at z1 z2
      split at z1
      · rename_i q1
        split at z2
        · rename_i q2
          rw [beq_iff_eq.mp q1, beq_iff_eq.mp q2]
        · cases z2
      · cases z1
    · cases i with
      | zero =>
        have e1 : "__class__" = y := Option.some.inj z
        subst e1
        exact ⟨cc, by rw [hcl]; rfl, fun v q => by cases q⟩
      | succ i => cases z
  refine PySem.ks_codeAny_call_defAt (fd := F.fd doc pm ct) (body := F.body) (binds := ps.zip us) hr.depth (X0 _ _ lk) rfl (e0.mod.nolimit.keeps old) (PySem.W.codeRec_of X0 hcd) rfl bt S.nocell (fun y hy => S.par _ (List.of_mem_zip (show (y.1, y.2) ∈ ps.zip us from hy)).1) (fun h₁ hns kp => ?_) S.co S.gen S.kind
  have I : Inv (ncx CX P w K mg base N F f A outer s H E) [] (startF N vs [none]) H { s with heap := h₁, toks := s.toks + (ps.zip us).length } := inv_startN S hr.hd e0 hl r Cl hns kp
  have hEnv : PySem.callEnv (F.fd doc pm ct) s.heap.objs.size f = envF F f s.heap.objs.size := rfl
  rw [hEnv]
  rw [hbody]
  refine PySem.ks_wpAt_execs_cons (PySem.ks_wpAt_If (PySem.ks_wpAt_mono (PySem.wpAt_of_wpAny ((htest A outer s H E (hr.deeper _)).run [] _ _ _ _ I hq)) (fun b s1 hs1 => ?_) fun e s' h => h))
  obtain ⟨H1, I, hq⟩ := hs1
  cases b with
  | false =>
    have hq : t2 { nx := fun _ H' => Q .non H', rt := Q } (startF N vs [none]) H1 := hq
    refine PySem.wpAt_of_wpAny (wpAny_pure ?_)
    refine PySem.wpAt_of_wpAny (wpAny_mono ((hst2 A outer s H E (hr.deeper _)).run [] _ _ _ _ I hq) (fun fl s' hs => ?_) fun e s' hs => hs)
    cases fl with
    | ret u =>
      obtain ⟨v, σ', H', J', rv, q⟩ := hs
      exact ⟨v, H', J'.os, J'.bare, J'.base, J'.hok, rv, q⟩
    | next =>
      obtain ⟨σ', H', J', q⟩ := hs
      exact ⟨V.non, H', J'.os, J'.bare, J'.base, J'.hok, rfl, q⟩
    | brk =>
      obtain ⟨_, _, _, z⟩ := hs
      exact False.elim z
    | cont =>
      obtain ⟨_, _, _, z⟩ := hs
      exact False.elim z
  | true =>
  obtain ⟨a, dx, fs, h0, hi, hq⟩ := hq
  refine PySem.ks_wpAt_execs_cons (PySem.ks_wpAt_Return_some (PySem.ks_wpAt_MethodCall (pl := pl (envF F f s.heap.objs.size)) ?_ (hev _)))
  have lk1 := I.kIn _ _ lk
  have hk : (envF F f s.heap.objs.size).scope.kind = .function := S.kind
  have hfr : F.scope.names.lookup ("__class__" : Str) = some .free := S.frk _ (List.mem_singleton.mpr rfl)
  refine PySem.ks_wpAt_super_base (env := envF F f s.heap.objs.size) hks hfr hn rfl lk1 rfl hp rfl (I.kIn _ _ hcode) rfl hvs hfile htop ?_
  obtain ⟨mb, hmb, hbb⟩ := I.mod.blt
  refine PySem.W.ks_loadName_global hk hks (loadGlobal_builtin (env := envF F f s.heap.objs.size) (I.mod.glob.keeps I.bk) msup (hmb.keeps I.bk) ((hbb _ (by decide +kernel)).trans (by rfl)) ⟨rfl, ?_⟩)
  refine wpAny_loadName_free hk hfr (by rw [show (envF F f s.heap.objs.size).cells = F.cl from rfl, hcl]; rfl) ⟨_, I.kIn _ _ hcell, rfl⟩ ?_
  have hpar : F.scope.names.lookup ar.arg = some .local := S.par _ (by rw [hps]; exact List.mem_cons_self)
  have hN : N[0]? = some ar.arg := by
    have q := S.pre
    rw [hps] at q
    cases N with
    | nil => cases q
    | cons n0 N => exact congrArg some (List.cons.inj q).1
  have hσ : (startF N vs [none])[0]? = some (some (.ref a)) := by
    cases vs with
    | nil => cases h0
    | cons v0 vs => exact congrArg (fun z => some (some z)) (Option.some.inj h0)
  obtain ⟨mm, hns1, hlo⟩ := I.loc
  obtain ⟨u0, ru, look⟩ := hlo 0 _ _ hN hσ (.inl hpar)
  have ru : u0 = Value.ref a := ru
  subst ru
  have hmm : mm ar.arg = some (.ref a) := by
    rcases look with ⟨_, e⟩ | ⟨z, _⟩
    · exact e
    · rcases z with z | z
      · cases hpar.symm.trans z
      · cases hpar.symm.trans z
  refine wpAny_loadName_local hk hpar hns1 hmm ?_
  have X1 : K.In s1.heap := I.kIn
  obtain ⟨hh, g, dr, tk, os⟩ := s1
  obtain ⟨oD, hD1, hD2⟩ : ∃ oD, hh.get? D = some oD ∧ oD.data = .cls cdD := by
    unfold PySem.W.clsIn at hD
    split at hD
    · rename_i c d cd' sl ho
      cases hD
      exact ⟨_, X1 _ _ ho, rfl⟩
    · cases hD
  obtain ⟨mA, O, _⟩ := ins_get I.hok hi
  obtain ⟨odi, J, _⟩ := O.look
  refine PySem.ks_wpAny_isType_cls hD1 hD2 ⟨rfl, ?_⟩
  refine PySem.ks_wpAny_call_super hD1 hD2 J.at_ J.cls (fun c e => by cases e) (PySem.W.looks_mroIn X1 hsub) (fun h' eso k => ?_)
  have I1 : Inv (ncx CX P w K mg base N F f A outer s H E) [] (startF N vs [none]) H1 ⟨h', g, dr, tk, os⟩ := I.kept (t' := tk) k
  have X2 : K.In h' := I1.kIn
  obtain ⟨of, hof, hofc⟩ : ∃ of, h'.get? f2 = some of ∧ of.cls = .type "function" := by
    have ht' : (K.lookup f2).map (·.cls) = some (.type "function") := hty
    cases z : K.lookup f2 with
    | none => rw [z] at ht'; cases ht'
    | some of => rw [z] at ht'; exact ⟨of, X2 _ _ z, Option.some.inj ht'⟩
  obtain ⟨mA1, O1, _⟩ := ins_get I1.hok hi
  obtain ⟨odi1, J1, _⟩ := O1.look
  refine PySem.ks_wpAny_getMethod_super eso (PySem.W.looks_opaque X2 hno) (l₀ := cd.mro) (fun A Q E s k q => wpAny_bind ((PySem.W.looks_clsIn X2 hC) A _ E s k (wpAny_pure q))) rfl X2 hal hof hofc (PySem.W.ks_ne X2 J1 hC) hn ?_
  have I2 := met_new (g := f2) (C := a) I1
  have hb2 : (ncx CX P w K mg base N F f A outer s H E).base.get? h'.objs.size = none := base_none I1 (Nat.le_refl _)
  refine wpAny_mono (callwith_cm (X := ncx CX P w K mg base N F f A outer s H E) I2 hb2 hfn (thn ((ha f A outer s H E).run pos _ _ _ _ _ I2 hq) fun ws s3 ⟨zs, H2, I3, rv, q2⟩ => ⟨⟨pin_at I3, I3.kIn⟩, run_cm G (hr.deeper _) (hx f A outer s H E) I3 rv q2⟩) (hst _) (hpl _)) (fun u s' hs => ?_) fun e s' hs => hs
  obtain ⟨v, H', J, rv, qv⟩ := hs
  exact ⟨v, H', J.os, J.bare, J.base, J.hok, rv, qv⟩
end
end SU
set_option Elab.async false
set_option linter.all false
set_option maxRecDepth 100000
set_option maxHeartbeats 4000000
/-! lambdas of no arguments as values, called where errors leave them; a call while the running def's own cells stand frozen -/
namespace CLO
open PySem PySem.Spec PyProof.Rows L2 CM LamX NdefX
section
variable {P : Program} {w : World} {K : PySem.W.Frag} {mg : Str → Option Value} {base : Heap} {H H1 : Hp} {cl : List (Str × Addr)} {A : Around} {outer : List Env} {s s' : Shared} {Q : VK} {E : XK} {u : Value}
/-- behind an error in the hidden heap -/
theorem cx_back (e0 : Env0 P w K mg base A outer s H) (C : Cels H cl) (c : L2.CX P w outer (hide H cl) s (fun k d H' => (∀ b ∈ cl.map (·.2), H' b = Option.none) → E k d (back H cl H')) u s') : L2.CX P w outer H s E u s' := by
  obtain ⟨a, B, H1, cls, d, rfl, fly, hok, un, na, os, bare, q⟩ := c
  have cell : ∀ b ∈ cl.map (·.2), ∃ ob, H b = some (CelO ob) ∧ s.heap.get? b = some ob ∧ B.get? b = some ob ∧ H1 b = Option.none := fun b hb => by
    obtain ⟨p, hp, rfl⟩ := List.mem_map.mp hb
    obtain ⟨ob, v, h1, _⟩ := C p hp
    have g : s.heap.get? p.2 = some ob := (e0.hok p.2 _ h1).1
    have nf : p.2 ∉ frs outer := fun z => by
      have := e0.frf p.2 z
      rw [h1] at this
      cases this
    exact ⟨ob, h1, g, un.keep _ _ g (hide_in hb) nf, un.free _ _ g (hide_in hb)⟩
  have q := q fun b hb => let ⟨_, _, _, _, z⟩ := cell b hb; z
  refine ⟨a, B, back H cl H1, cls, d, rfl, fly, fun b o e => ?_, ⟨fun b o e n => ?_, un.slot, fun b o e n => ?_, un.there, fun b xs e => ?_, fun b o z e => ?_, fun b ps e => ?_⟩, ?_, os, bare, q⟩
  · by_cases hb : b ∈ cl.map (·.2)
    · rw [back_in hb] at e
      obtain ⟨ob, h1, g, g', _⟩ := cell b hb
      rw [e] at h1
      cases h1
      exact ⟨g', True.intro, ⟨ob, g'⟩, fun _ _ _ _ => True.intro⟩
    · rw [back_out hb] at e
      refine (hok b o e).stay (fun c q _ z => z) (fun c z => ?_) fun c xs z => ?_
      · rw [back_out fun hc => ?_]
        · exact z
        · obtain ⟨_, _, _, _, n⟩ := cell c hc
          rw [z] at n
          cases n
      · rw [back_out fun hc => ?_]
        · exact z
        · obtain ⟨_, _, _, _, n⟩ := cell c hc
          rw [z] at n
          cases n
  · refine un.keep b o e ?_
    by_cases hb : b ∈ cl.map (·.2)
    · exact hide_in hb
    · rw [hide_out hb]
      exact n
  · have hb : b ∉ cl.map (·.2) := fun hb => by
      obtain ⟨ob, h1, _⟩ := cell b hb
      rw [n] at h1
      cases h1
    rw [back_out hb]
    exact un.free b o e (by rw [hide_out hb]; exact n)
  · have hb := C.out e fun ob z => by
      unfold CelO at z
      cases z
    rw [back_out hb]
    exact un.tups b xs (by rw [hide_out hb]; exact e)
  · by_cases hb : b ∈ cl.map (·.2)
    · rw [back_in hb]
      exact e
    · rw [back_out hb]
      exact un.frzs b o z (by rw [hide_out hb]; exact e)
  · have hb := C.out e fun ob z => by
      unfold CelO at z
      cases z
    rw [back_out hb]
    exact un.tbls b ps (by rw [hide_out hb]; exact e)
  · rw [back_out fun hb => ?_]
    · exact na
    · obtain ⟨_, _, _, g, _⟩ := cell a hb
      rw [fly.2.1] at g
      cases g
theorem cx_imp {E E' : XK} (c : L2.CX P w outer H s E u s') (h : ∀ k d H', E k d H' → E' k d H') : L2.CX P w outer H s E' u s' := by
  obtain ⟨a, B, H1, cls, d, e, fly, hok, un, na, os, bare, q⟩ := c
  exact ⟨a, B, H1, cls, d, e, fly, hok, un, na, os, bare, h _ _ _ q⟩
theorem ce_imp {Q Q' : VK} (c : CE outer P w H s Q u s') (h : ∀ v H', Q v H' → Q' v H') : CE outer P w H s Q' u s' := by
  obtain ⟨v, H1, os, bare, un, hok, r, q⟩ := c
  exact ⟨v, H1, os, bare, un, hok, r, h _ _ q⟩
theorem CallsTo.impE {n : Nat} {b : Bool} {f : Addr} {vs : List V} {Q Q' : VK} {E E' : XK} (c : CallsTo P w K mg base (L2.CX P w) n b f vs H Q E) (hq : ∀ v H', Q v H' → Q' v H') (he : ∀ k d H', E k d H' → E' k d H') : CallsTo P w K mg base (L2.CX P w) n b f vs H Q' E' := fun A outer s us hr e0 r =>
  let ⟨h1, h2⟩ := c A outer s us hr e0 r
  ⟨h1, wpAny_mono h2 (fun u s' z => ce_imp z hq) fun e s' z => cx_imp z he⟩
end
section
variable {P : Program} {w : World} {K : PySem.W.Frag} {mg : Str → Option Value} {base : Heap} {N fr : List Str} {F : NF} {f : Addr} {k : Nat} {b : Expr} {H : Hp} {ws : List V} {Q : VK} {E : XK}
/-- a lambda without arguments, errors leave it -/
theorem lam_callsE (S : NScope N [] fr F.scope) (C : Clo H f F b fr ws)
    (hb : ∀ (pm ctv : Value), bindArgs (PySem.W.kla_fn "<lambda>" F.qual F.params b F.scope F.cl pm (.ref F.c) ctv) ⟨[], []⟩ = pure [])
    (hbody : ∀ (A : Around) (outer : List Env) (s : Shared), Room k (A.deeper (envF F f s.heap.objs.size)) →
      ∃ t, PE (ncx (L2.CX P w) P w K mg base N F f A outer s (hide H F.cl) (fun k d H' => (∀ b ∈ F.cl.map (·.2), H' b = Option.none) → E k d (back H F.cl H'))) b t ∧ t (startF N [] (ws.map some)) (hide H F.cl) (fun v H' => (∀ b ∈ F.cl.map (·.2), H' b = Option.none) → Q v (back H F.cl H'))) :
    CallsTo P w K mg base (L2.CX P w) (k + 1) true f [] H Q E := by
  intro A outer s us hr e0 r
  cases r
  obtain ⟨pm, ctv, ho⟩ := (e0.hok f _ C.fn).1
  refine ⟨⟨_, _, _, _, ho⟩, wpAny_call ?_⟩
  have e1 := env_hide e0 C.cels
  have lim : s.heap.NoLimit := e0.mod.nolimit.keeps fun b o e => (e0.bs b o e).1
  have CA : CellsAt F.cl fr (ws.map some) s.heap (hide H F.cl) := by
    refine ⟨by rw [List.length_map]; exact C.len, fun y c e => ?_, C.inj, fun i y hi => ?_⟩
    · have hp := PySem.mem_of_lookup e
      obtain ⟨ob, v, h1, h2⟩ := C.cels _ hp
      exact ⟨hide_in (List.mem_map.mpr ⟨_, hp, rfl⟩), v, ob, (e0.hok c _ h1).1, h2⟩
    · obtain ⟨c, v, h1, h2, ob, u, h3, h4, h5⟩ := C.has i y hi
      refine ⟨c, h1, fun v' ev => ?_⟩
      rw [List.getElem?_map, h2] at ev
      cases ev
      exact ⟨u, h5, ob, (e0.hok c _ h3).1, h4⟩
  refine PySem.W.kla_callFunE hr.depth ho rfl S.co S.gen rfl (codeO_at e0.hok C.co) ?_
  rw [hb pm ctv]
  refine wpAny_pure (wpAny_newFunctionEnv S.nocell (fun ⟨n, _⟩ hy => by cases hy) (fun h₁ hns hsb => ⟨lim.fresh _ hsb, ?_⟩) S.kind)
  show codeAny _ _ (.expr b (envF F f s.heap.objs.size)) _ _
  have kp : ∀ b o, s.heap.get? b = some o → h₁.get? b = some o := fun b o e => hsb.extBut b o (Nat.ne_of_lt (Heap.lt_size e)) (Heap.get?_push_of_some _ e)
  obtain ⟨t, ht, hq⟩ := hbody A outer s (hr.deeper _)
  have J : Inv (ncx (L2.CX P w) P w K mg base N F f A outer s (hide H F.cl) (fun k d H' => (∀ b ∈ F.cl.map (·.2), H' b = Option.none) → E k d (back H F.cl H'))) [] (startF N [] (ws.map some)) (hide H F.cl) { s with heap := h₁, toks := s.toks + (([] : List Str).zip ([] : List Value)).length } := inv_startN S hr.hd e1 rfl .nil CA hns kp
  refine PySem.W.kla_codeExpr (wpAny_mono (ht.run [] _ _ _ _ J hq) (fun v s' hs => ?_) fun e s' hs => ?_)
  · obtain ⟨v', H', J', rv, q⟩ := hs
    exact ce_back e0 C.cels ⟨v', H', J'.os, J'.bare, J'.base, J'.hok, rv, q⟩
  · exact wpAny_mono hs (fun _ _ z => cx_back e0 C.cels z) fun _ _ z => cx_back e0 C.cels z
end
/-- g(), g an expression that gives a function -/
def tVCall0 (P : Program) (w : World) (K : PySem.W.Frag) (mg : Str → Option Value) (base : Heap) (CX : CXT) (n : Nat) (E : XK) (tf : TE) : TE := fun σ H Q => tf σ H fun x H1 => ∃ f, x = .ref f ∧ Fnk H1 f ∧ CallsTo P w K mg base CX n true f [] H1 Q E
section
variable {X : Cx} {P : Program} {w : World} {K : PySem.W.Frag} {mg : Str → Option Value} {base : Heap} {CX : CXT} {n : Nat} {E : XK} {fe : Expr} {pos : Pos} {tf : TE}
theorem pe_vcall0 (hf : PE X fe tf) (hr : Room n X.A) (hx : Passes CX X E)
    (ht : eval (.Call fe [] [] pos) X.env = (do callWith pos (← eval fe X.env) [] (backTo pos (starEach [] X.env)) (backToKw pos (keywordEach [] X.env))) := by rfl)
    (h1 : X.prog = P := by rfl) (h2 : X.w = w := by rfl) (h3 : X.K = K := by rfl) (h4 : X.mg = mg := by rfl) (h5 : X.base = base := by rfl) :
    PE X (.Call fe [] [] pos) (tVCall0 P w K mg base CX n E tf) := by
  subst h1 h2 h3 h4 h5
  refine ⟨fun pins s σ H Q I h => ?_⟩
  refine Call_ (thn (hf.run pins s σ H _ I h) fun u s1 ⟨x, H1, I1, rx, f, ex, hb, q⟩ => ?_) ht
  subst ex
  obtain rfl : u = Value.ref f := rx
  exact PySem.W.callWith_F0 (first := []) (hb.at_ I1.hok) (run_calls (us := []) q hr hx I1 .nil).2
end
/-- a lambda stays known while the cells of another are hidden -/
theorem Clo.hide {H : Hp} {f : Addr} {F : NF} {b : Expr} {fr : List Str} {ws : List V} {cl : List (Str × Addr)} (C : Clo H f F b fr ws) (D : Cels H cl) (ap : ∀ p ∈ F.cl, p.2 ∉ cl.map (·.2)) : Clo (CLO.hide H cl) f F b fr ws := by
  refine ⟨D.keep C.fn (fun ob z => by unfold CelO LamO at z; cases z), D.keep C.co (fun ob z => by unfold CelO CodeO at z; cases z), fun p hp => ?_, C.inj, C.len, fun i y hi => ?_⟩
  · obtain ⟨ob, v, h1, h2⟩ := C.cels p hp
    exact ⟨ob, v, (hide_out (ap p hp)).trans h1, h2⟩
  · obtain ⟨c, v, h1, h2, ob, u, h3, h4⟩ := C.has i y hi
    exact ⟨c, v, h1, h2, ob, u, (hide_out (ap (y, c) (PySem.mem_of_lookup h1))).trans h3, h4⟩
/-- the cells of a lambda are the frame's -/
theorem clo_cell {lsc : Scope} {cells : List (Str × Addr)} (hf : ∀ y ∈ lsc.names, y.2 = .free → ∃ c, cells.lookup y.1 = some c) {b : Addr} (h : b ∈ (cloFrom cells lsc.names []).map (·.2)) : ∃ y, cells.lookup y = some b := by
  obtain ⟨p, hp, e⟩ := List.mem_map.mp h
  have e : p.2 = b := e
  subst e
  rcases cloFrom_mem (show (p.1, p.2) ∈ _ from hp) with hm | ⟨h1, h2⟩
  · cases hm
  · obtain ⟨c1, hc⟩ := hf _ h1 rfl
    have hc : cells.lookup p.1 = some c1 := hc
    have e2 : p.2 = c1 := by
      rw [h2, hc] <;> rfl
    exact ⟨p.1, by rw [e2]; exact hc⟩
/-- what is told of H is told of the frozen heap too, the lambda's cells hidden -/
theorem Frz.hid {sc lsc : Scope} {cells : List (Str × Addr)} {N : List Str} {σ : L2.St} {H Hz : Hp} (fz : Frz sc cells N σ H Hz) (hc : ∀ y c, cells.lookup y = some c → H c = Option.none) (hf : ∀ y ∈ lsc.names, y.2 = .free → ∃ c, cells.lookup y.1 = some c) : Same H (CLO.hide Hz (cloFrom cells lsc.names [])) := fun b o e =>
  (hide_out fun hb => by
    obtain ⟨y, hy⟩ := clo_cell hf hb
    rw [hc y b hy] at e
    cases e).trans (fz.same b o e)
/-- .. and behind the call -/
theorem Frz.unS {sc : Scope} {cells : List (Str × Addr)} {N : List Str} {σ : L2.St} {H Hz H' : Hp} (fz : Frz sc cells N σ H Hz) (hc : ∀ y c, cells.lookup y = some c → H c = Option.none) (s : Same Hz H') : Same H (CLO.unfz cells H') := fun b o e => by
  have nb : ¬ ∃ y, cells.lookup y = some b := fun ⟨y, z⟩ => by
    rw [hc y b z] at e
    cases e
  rw [unfz_out nb]
  exact s b o (fz.same b o e)
theorem Frz.unN {sc : Scope} {cells : List (Str × Addr)} {N : List Str} {σ : L2.St} {H Hz H' : Hp} {p : Addr} {o : HO} (fz : Frz sc cells N σ H Hz) (s : Same Hz H') (np : H' p = Option.none) : CLO.unfz cells (upd H' p o) p = some o := by
  refine (unfz_out fun ⟨y, z⟩ => ?_).trans upd_same
  obtain ⟨ob, v, h1, _⟩ := fz.cel y p z
  rw [s _ _ h1] at np
  cases np
theorem clo_apart {lsc1 lsc2 : Scope} {cells : List (Str × Addr)} (inj : ∀ x y c, cells.lookup x = some c → cells.lookup y = some c → x = y) (h1 : ∀ y ∈ lsc1.names, y.2 = .free → ∃ c, cells.lookup y.1 = some c)
    (h2 : ∀ y ∈ lsc2.names, y.2 = .free → ∃ c, cells.lookup y.1 = some c) (hd : ∀ y ∈ lsc1.names, y.2 = .free → ∀ z ∈ lsc2.names, z.2 = .free → y.1 ≠ z.1) : ∀ p ∈ cloFrom cells lsc1.names [], p.2 ∉ (cloFrom cells lsc2.names []).map (·.2) := fun p hp hq => by
  have at_ : ∀ {lsc : Scope} {p : Str × Addr}, (∀ y ∈ lsc.names, y.2 = .free → ∃ c, cells.lookup y.1 = some c) → p ∈ cloFrom cells lsc.names [] → (p.1, NameKind.free) ∈ lsc.names ∧ cells.lookup p.1 = some p.2 := fun {lsc p} hf hp => by
    rcases cloFrom_mem (show (p.1, p.2) ∈ _ from hp) with hm | ⟨h1, h2⟩
    · cases hm
    · obtain ⟨c1, hc⟩ := hf _ h1 rfl
      have hc : cells.lookup p.1 = some c1 := hc
      have e2 : p.2 = c1 := by
        rw [h2, hc] <;> rfl
      exact ⟨h1, by rw [e2]; exact hc⟩
  obtain ⟨q, hq, e⟩ := List.mem_map.mp hq
  obtain ⟨a1, a2⟩ := at_ h1 hp
  obtain ⟨b1, b2⟩ := at_ h2 hq
  have e : q.2 = p.2 := e
  rw [e] at b2
  exact hd _ a1 rfl _ b1 rfl (inj _ _ _ a2 b2)
/-- a call by the module's name, the frame's cells frozen meanwhile -/
def tCallZ (sc : Scope) (cells : List (Str × Addr)) (N : List Str) (sp : Sp) (E : XK) (t : TA) : TE := fun σ H Q => t σ H fun vs H2 => ∀ Hz, (∀ y c, cells.lookup y = some c → H2 c = Option.none) → Frz sc cells N σ H2 Hz → sp vs Hz (fun v H' => Q v (unfz cells H')) E
section
variable {X : Cx} {k : Nat} {f : Addr} {fd : FuncData} {ps : List Str} {sp : Sp} {E : XK} {x : Str} {e : Expr} {es : List Expr} {t : TA} {p pos : Pos}
theorem pe_callZG (hy : Young X) (F : GD.FnG X.prog X.w X.K X.mg X.base C8.CX0 k f fd ps sp) (hr : Room k X.A) (gd : X.A.guards = some []) (hg : Gl X x) (hm : X.mg x = some (.ref f)) (hk : PySem.W.keepIn X.K (.ref f) = true) (hb : Binds X.K fd ps [])
    (ha : PA X (e :: es) t) (hdb : (x == ("__debug__" : Str)) = false := by decide) (he : starEach (e :: es) X.env = (false, eval e X.env) :: starEach es X.env := by rfl) (hpl : (backTo pos (starEach es X.env)).any (·.1) = false := by rfl) :
    PE X (.Call (.Name x p) (e :: es) [] pos) (tCallZ X.env.scope X.env.cells X.N sp E t) := by
  refine ⟨fun pins s σ H Q I h => wpAny_Call_Name_kw (ld_glob I hg hm (PySem.W.callWith_K (h₀ := X.base) I.ok.mod.kin hk (thn (ha.run pos pins s σ H _ I h) fun us s1 ⟨vs, H1, I1, r, q⟩ => ⟨I1.kIn, ?_⟩) he hpl) hdb)⟩
  have q := q _ I1.freeC (frz_of I1)
  have hl := F.len _ _ _ _ q
  have rr := r.append (.nil : Vals [] [])
  have q' : sp (vs ++ []) (frzH X.env.cells s1.heap H1) (fun v H' => Q v (unfz X.env.cells H')) E := by
    rw [List.append_nil]
    exact q
  refine wpAny_call (codeAny_mono (F.run X.A X.stack s1 _ ⟨us, []⟩ (us ++ []) (vs ++ []) _ E hr gd (env_frz hy I1) (hb s1 us I1.kIn (rr.length.symm.trans (by rw [List.append_nil]; exact hl))) rr q') fun res s2 got => ?_)
  match res, got with
  | .error er, got => exact False.elim got
  | .ok (.ret u), got => exact I1.after (ce_unfz I1 got)
  | .ok .next, got => exact False.elim got
  | .ok .brk, got => exact False.elim got
  | .ok .cont, got => exact False.elim got
end
end CLO
set_option Elab.async false
set_option linter.all false
set_option maxRecDepth 100000
set_option maxHeartbeats 4000000
/-! okZ, and the cells are nowhere in what is told -/
namespace CLO
open PySem PySem.Spec PyProof.Rows L2 CM LamX NdefX
section
variable {P : Program} {w : World} {K : PySem.W.Frag} {mg : Str → Option Value} {base : Heap} {CX : CXT} {k : Nat} {fd : FuncData} {ps N : List Str} {sp : Sp} {x qual : Str} {params : Arguments} {body : List Stmt} {scope : Scope} {dvs : List V} {kws : List (Str × V)}
theorem okZ2 {p : He.Defn} (F : FunD K x qual params body scope dvs kws (He.fAd K p) fd) (S : FnScope N ps scope) (len : ∀ vs H Q E, sp vs H Q E → vs.length = ps.length)
    (hbody : ∀ (A : Around) (outer : List Env) (s : Shared) (H : Hp) (vs : List V) (Q : VK) (E : XK), Room k (A.deeper (envOfC qual scope s.heap.objs.size (He.fAd K p) (.ref (He.codeOf K p)))) → sp vs H Q E →
      ∃ t, PSZ (cxOf CX P w K mg base N qual scope (He.fAd K p) (.ref (He.codeOf K p)) A outer s H E) body t ∧ t (fun σ v H' => ∀ Hz, (∀ y c, (cellsFrom (s.heap.objs.size + 1) scope.names []).lookup y = some c → H' c = Option.none) → Frz scope (cellsFrom (s.heap.objs.size + 1) scope.names []) N σ H' Hz → Q v Hz) (L2.start N vs) H) :
    FnOk P w K mg base CX (k + 1) (He.fAd K p) fd ps sp := by
  obtain ⟨oc, od, dV, kV, doc, pm, an, cdv, ct, osl, rfl, lk, hcd, _, _⟩ := F.ex
  obtain ⟨c, rfl⟩ := He.codeIn_ref hcd
  have e : He.codeOf K p = c := He.codeOf_eq lk rfl
  rw [e] at hbody
  refine ⟨len, fun A outer s0 H args us vs Q E room e0 bt rv asked => ?_⟩
  have old : ∀ b o, base.get? b = some o → s0.heap.get? b = some o := fun b o e => (e0.bs b o e).1
  refine codeAny_call_function room.depth (e0.mod.kin.keeps old _ _ lk) rfl S.co S.gen rfl (PySem.W.codeRec_of (e0.mod.kin.keeps old) hcd) (bt _ _ _ _ (wpAny_newFunctionEnv_cells S.kind (fun y hy => ?_) fun env he t x => ?_))
  · exact (S.par y.1 (List.of_mem_zip (show (y.1, y.2) ∈ ps.zip us from hy)).1).elim .inl fun q => .inr ⟨q, PySem.W.cellsFrom_some _ _ _ (.inl q)⟩
  · subst he
    obtain ⟨tt, ht, rd⟩ := hbody A outer s0 H vs Q E (room.deeper _) asked
    have J : Inv (cxOf CX P w K mg base N qual scope (He.fAd K p) (.ref c) A outer s0 H E) [] (L2.start N vs) H t := inv_start S room.hd e0 (len _ _ _ _ asked) rv x
    refine ⟨(e0.mod.nolimit.keeps old).keeps x.toInCall.keep, codeAny_func (wpAny_mono (ht.run [] t (L2.start N vs) H _ J rd) (fun fl t2 got => ?_) fun _ _ got => got)⟩
    obtain ⟨u, v, σ2, H2, rfl, J2, r2, q2⟩ := got
    have fz := frz_of J2
    have big : ∀ y c, (cellsFrom (s0.heap.objs.size + 1) scope.names []).lookup y = some c → s0.heap.objs.size < c := fun y c z => cells_ge _ _ [] (s0.heap.objs.size + 1) (Nat.le_refl _) (fun _ q => by cases q) _ (PySem.mem_of_lookup z)
    have out : ∀ {b : Addr}, (∀ y, (cellsFrom (s0.heap.objs.size + 1) scope.names []).lookup y ≠ some b) → frzH (cellsFrom (s0.heap.objs.size + 1) scope.names []) t2.heap H2 b = H2 b := fun {b} z => if_neg fun ⟨y, q⟩ => z y q
    have oldc : ∀ {b : Addr} {o : Obj}, s0.heap.get? b = some o → ∀ y, (cellsFrom (s0.heap.objs.size + 1) scope.names []).lookup y ≠ some b := fun {b o} e y z => by
      exact Nat.lt_irrefl _ (Nat.lt_trans (big y b z) (Heap.lt_size e))
    refine ⟨v, frzH (cellsFrom (s0.heap.objs.size + 1) scope.names []) t2.heap H2, J2.os, J2.bare, ?_, fun b o e => ?_, r2, q2 _ J2.freeC fz⟩
    · have un : Un (frs outer) [] H H2 s0.heap t2.heap := J2.base
      exact ⟨un.keep, un.slot, fun b o e n nx => by rw [out (oldc e)]; exact un.free b o e n nx, un.there, fun b xs e => fz.same _ _ (un.tups b xs e), fun b o z e => fz.same _ _ (un.frzs b o z e), fun b ps e => let ⟨more, q⟩ := un.tbls b ps e; ⟨more, fz.same _ _ q⟩⟩
    · by_cases hb : ∃ y, (cellsFrom (s0.heap.objs.size + 1) scope.names []).lookup y = some b
      · obtain ⟨y, hy⟩ := hb
        obtain ⟨v', ob, h1, h2⟩ := J2.cell y b hy
        have e2 : frzH (cellsFrom (s0.heap.objs.size + 1) scope.names []) t2.heap H2 b = some (CelO ob) := (if_pos ⟨y, hy⟩).trans (by rw [h1]; rfl)
        rw [e2] at e
        cases e
        exact ⟨h1, True.intro, ⟨ob, h1⟩, fun _ _ _ _ => True.intro⟩
      · rw [out fun y z => hb ⟨y, z⟩] at e
        exact (J2.hok b o e).stay (fun c q _ z => z) (fun c z => fz.same _ _ z) fun c xs z => fz.same _ _ z
end
end CLO
set_option Elab.async false
set_option linter.all false
set_option maxRecDepth 100000
set_option maxHeartbeats 4000000
/-! == of an instance with itself, its class without an own == -/
namespace OBQ
open PySem PySem.Spec PyProof.Rows L2 CM PySem.SeqAt HN
section
variable {prog : Program} {w : World} {A : Around} {E : Value → Shared → Prop} {s : Shared} {K : PySem.W.Frag} {x C : Addr} {ox : Obj} {od : Option Obj}
theorem call_same {Q : Value → Shared → Prop} (X : K.In s.heap) (I : PySem.W.InstAt s.heap x ox C od) (hm : PySem.W.mroIn K C (.type "object") = some true) (hq : Q (.bool true) s) :
    wpAny (model prog w) A (call (.builtin "object.__eq__") [.ref x, .ref x]) Q E s :=
  wpAny_call (codeAny_call_builtin F.cmp_object.eq.plain F.cmpEntry_eq (PySem.W.check_slot F.cmpKind_eq F.cmpSplit_eq (I.type.andThen (PySem.W.looks_mroIn X hm)) (F.cmpArgs_eq _ _) (objEq_entry_same hq)))
theorem rc_self (hu : A.units < cLine) (X : K.In s.heap) (I : PySem.W.InstAt s.heap x ox C od) (hm : PySem.W.mroIn K C (.type "object") = some true) (hs : PySem.W.findIn K (.ref C) "__eq__" = some (some (.builtin "object.__eq__"))) {b : Bool} (hb : PySem.W.subIn K (.ref C) (.ref C) = some b) :
    RcAt A s (.ref x) (.ref x) true := fun prog w E Q h => by
  have one : wpAny (model prog w) A (tryCompare (.ref x) "__eq__" (.ref x)) (fun r s' => r = some (.bool true) ∧ s' = s) E s := by
    unfold tryCompare
    exact wpAny_bind (ifBound_objEq X I hs (call_same X I hm (wpAny_pure ⟨rfl, rfl⟩)))
  simp only [richCompare, cmpInfo_Eq, oneThing_ref]
  refine wpAny_holding (wpAny_bind (wpAny_cRoomFor hu ?_))
  refine wpAny_bind (I.type.here ?_)
  refine wpAny_bind (I.type.here ?_)
  split
  · refine wpAny_bind ((PySem.W.looks_subIn X hb).here ?_)
    cases b with
    | false =>
      simp only [Bool.false_eq_true, if_false]
      refine wpAny_bind (m := tryCompare (.ref x) _ (.ref x)) (wpAny_mono one (fun r s1 z => ?_) fun _ _ e => e)
      obtain ⟨z1, z2⟩ := z
      subst z1
      subst z2
      exact wpAny_pure h
    | true =>
      simp only [if_true]
      refine wpAny_bind (m := tryCompare (.ref x) _ (.ref x)) (wpAny_mono one (fun r s1 z => ?_) fun _ _ e => e)
      obtain ⟨z1, z2⟩ := z
      subst z1
      subst z2
      exact wpAny_bind (wpAny_rule (wpAny_pure h))
  · refine wpAny_bind (wpAny_pure ?_)
    simp only [Bool.false_eq_true, if_false]
    refine wpAny_bind (m := tryCompare (.ref x) _ (.ref x)) (wpAny_mono one (fun r s1 z => ?_) fun _ _ e => e)
    obtain ⟨z1, z2⟩ := z
    subst z1
    subst z2
    exact wpAny_pure h
end
/-- what is asked of a class without an own == -/
structure NoEq (K : PySem.W.Frag) (C : Addr) : Prop where
  mr : PySem.W.mroIn K C (.type "object") = some true
  eq : PySem.W.findIn K (.ref C) "__eq__" = some (some (.builtin "object.__eq__"))
  sb : ∃ b, PySem.W.subIn K (.ref C) (.ref C) = some b
/-- o == o -/
def rSelf (K : PySem.W.Frag) : R2 := fun x y H Q => ∃ a C dx fs, x = .ref a ∧ y = .ref a ∧ H a = some (.ins C dx fs) ∧ NoEq K C ∧ Q (.bl true) H
theorem op_eqSelf {X : Cx} (hu : X.A.units < cLine) : OpR X (compareOp .Eq) (rSelf X.K) := by
  intro pins s σ H x y v u Q I rx ry h
  obtain ⟨a, C, dx, fs, rfl, rfl, ha, ne, q⟩ := h
  obtain ⟨b, sb⟩ := ne.sb
  cases (show v = Value.ref a from rx)
  cases (show u = Value.ref a from ry)
  obtain ⟨mA, O, _⟩ := ins_get I.hok ha
  obtain ⟨od, J, _⟩ := O.look
  show wpAny _ X.A (richCompare .Eq (.ref a) (.ref a)) _ _ s
  exact rc_self hu I.kIn J ne.mr ne.eq sb _ _ _ _ ⟨.bl true, H, I, rfl, q⟩
end OBQ
set_option Elab.async false
set_option linter.all false
set_option maxRecDepth 100000
set_option maxHeartbeats 4000000
namespace EQ
open PySem PySem.Spec PyProof.Rows L2 CM
/-- a == b of two pairs of ints -/
def rEqI2 (K : PySem.W.Frag) : R2 := fun x y H Q => ∃ (a b : Addr) (i j k l : Int), x = .ref a ∧ y = .ref b ∧ SqT K H a [.int i, .int j] ∧ SqT K H b [.int k, .int l] ∧ Q (.bl (decide (i = k ∧ j = l))) H
theorem op_eqI2 {X : Cx} (hu : X.A.units + 64 < cLine) : OpR X (compareOp .Eq) (rEqI2 X.K) := by
  intro pns s σ H x y v u Q I rx ry h
  obtain ⟨a, b, i, j, k, l, rfl, rfl, ha, hb, q⟩ := h
  cases (show v = Value.ref a from rx)
  cases (show u = Value.ref b from ry)
  obtain ⟨us, r1, p1, _⟩ := I.tuple ha
  obtain ⟨ws, r2, p2, _⟩ := I.tuple hb
  obtain ⟨u1, u2, rfl, ⟨t1, rfl⟩, ⟨t2, rfl⟩⟩ := vals2 r1
  obtain ⟨w1, w2, rfl, ⟨t3, rfl⟩, ⟨t4, rfl⟩⟩ := vals2 r2
  refine SeqAt.eq_tupleAt (e := fun n => if n = 0 then i == k else j == l) p1 p2 (by omega) (fun n h1 h2 => ?_) ?_
  · match n, h1, h2 with
    | 0, _, _ => exact SeqAt.EqAt.int_int i t1 k t3
    | 1, _, _ => exact SeqAt.EqAt.int_int j t2 l t4
    | n + 2, h1, _ => exact absurd h1 (by simp)
  · refine ⟨.bl _, H, I, rfl, ?_⟩
    have e : ((List.range 2).all (fun n => if n = 0 then i == k else j == l) && true) = decide (i = k ∧ j = l) := by
      rw [show List.range 2 = [0, 1] from rfl]
      by_cases e1 : i = k <;> by_cases e2 : j = l <;> simp [e1, e2]
    rw [← e] at q
    exact q
end EQ
set_option Elab.async false
set_option linter.all false
set_option maxRecDepth 100000
set_option maxHeartbeats 4000000
/-! several except clauses, each with or without `as n` -/
namespace TRA
open PySem PySem.Spec PyProof.Rows L2
/-- a clause: the class, the slot of its name, its suite's reading -/
abbrev Cl := Value × Option Nat × (Addr → Value → Option Addr → TS)
/-- a suite that ends forgets its name -/
def offN (i : Nat) (D : Ends) : Ends := { nx := fun σ H => D.nx (σ.set i none) H, rt := D.rt, bk := fun σ H => D.bk (σ.set i none) H, ct := fun σ H => D.ct (σ.set i none) H }
/-- the suite, entered with the exception at a -/
def inSuite (oi : Option Nat) (ts : Addr → Value → Option Addr → TS) (a : Addr) (cls : Value) (d : Option Addr) (D : Ends) (σ : L2.St) (H : Hp) : Prop := match oi with
  | none => ts a cls d D σ H
  | some i => ts a cls d (offN i D) (σ.set i (some (.ref a))) H
def wClauses (K : PySem.W.Frag) (Wout : WX) (D : Ends) : List Cl → WX
  | [] => Wout
  | (c, oi, ts) :: r => fun cls d σ H => ∃ b, PySem.W.exmOne K cls c = some b ∧ (b = true → ∀ a, H a = none → inSuite oi ts a cls d D σ H) ∧ (b = false → wClauses K Wout D r cls d σ H)
/-- the name of a clause is a local of the def -/
def NameAt (X : Cx) : Option Str → Option Nat → Prop
  | none, none => True
  | some n, some i => X.N[i]? = some n ∧ X.env.kindOf n = some .local
  | _, _ => False
inductive ClsOk (X : Cx) : List ExceptHandler → List Cl → Prop
  | nil : ClsOk X [] []
  | cons {x : Str} {c : Value} {on : Option Str} {oi : Option Nat} {ts : Addr → Value → Option Addr → TS} {b₀ : Stmt} {suite : List Stmt} {np pos' : Pos} {hds : List ExceptHandler} {l : List Cl} (hc : Names X x c) (hn : NameAt X on oi)
      (hsu : ∀ (a : Addr) (oe : Obj) (cls : Value) (d : Option Addr) (pn : List (Addr × Obj)), Zc cls d oe → (∃ vs, oe.data = .fields vs) → PSs (X.suite a ((a, oe) :: pn)) (b₀ :: suite) (ts a cls d)) (r : ClsOk X hds l) :
      ClsOk X (.ExceptHandler (some (.Name x np)) on (b₀ :: suite) pos' :: hds) ((c, oi, ts) :: l)
section
variable {X : Cx} {body : List Stmt} {h₀ : ExceptHandler} {hds : List ExceptHandler} {l : List Cl} {pos : Pos} {tb : WX → TS} {Wout : WX}
/-- how the end of a suite is the end of the statement -/
theorem ends_plain {a : Addr} {pins : List (Addr × Obj)} {D : Ends} {f : Flow} {s : Shared} (ok : X.Ok) {oe : Obj} (h : SP (X.suite a ((a, oe) :: (X.pn ++ pins))) [] D f s) : SP X pins D f s := by
  cases f with
  | next =>
    obtain ⟨σ, H, S, q⟩ := h
    exact ⟨_, _, S.unsuite ok, q⟩
  | brk =>
    obtain ⟨σ, H, S, q⟩ := h
    exact ⟨_, _, S.unsuite ok, q⟩
  | cont =>
    obtain ⟨σ, H, S, q⟩ := h
    exact ⟨_, _, S.unsuite ok, q⟩
  | ret u =>
    obtain ⟨v, σ, H, S, r, q⟩ := h
    exact ⟨_, _, _, S.unsuite ok, r, q⟩
/-- .. with the name forgotten -/
theorem ends_named {a : Addr} {n : Str} {i : Nat} {pos' : Pos} {pins : List (Addr × Obj)} {D : Ends} {f : Flow} {s : Shared} (ok : X.Ok) (hN : X.N.Nodup) (hi : X.N[i]? = some n) (hln : X.env.kindOf n = some .local) {oe : Obj} (h : SP (X.suite a ((a, oe) :: (X.pn ++ pins))) [] (offN i D) f s) :
    wpAny (model X.prog X.w) X.A (do bindName X.env n .none; unbindBehindTheSuite X.env n pos') (fun _ s7 => SP X pins D f s7) X.xe s := by
  have fin : ∀ {σ6 : L2.St} {H6 : Hp} {Q : Shared → Prop}, Inv (X.suite a ((a, oe) :: (X.pn ++ pins))) [] σ6 H6 s → (∀ s7, Inv X pins (σ6.set i none) H6 s7 → Q s7) → wpAny (model X.prog X.w) X.A (do bindName X.env n .none; unbindBehindTheSuite X.env n pos') (fun _ s7 => Q s7) X.xe s :=
    fun {σ6 H6 Q} S6 hq => gone_ok (S6.unsuite ok) hN hi hln hq
  cases f with
  | next =>
    obtain ⟨σ, H, S, q⟩ := h
    exact fin S fun s7 J => ⟨_, _, J, q⟩
  | brk =>
    obtain ⟨σ, H, S, q⟩ := h
    exact fin S fun s7 J => ⟨_, _, J, q⟩
  | cont =>
    obtain ⟨σ, H, S, q⟩ := h
    exact fin S fun s7 J => ⟨_, _, J, q⟩
  | ret u =>
    obtain ⟨v, σ, H, S, r, q⟩ := h
    exact fin S fun s7 J => ⟨_, _, _, J, r, q⟩
theorem ps_tryC (hs : X.stack = X.env :: X.outer) (hf : X.env.frame = some X.env.locals) (hN : X.N.Nodup) (tk : Takes X Wout)
    (hb : ∀ (W : WX) (pn : List (Addr × Obj)) (xe : Value → Shared → Prop), Takes (X.tr pn xe) W → PassesOwn (model X.prog X.w) X.A X.env xe → PSs (X.tr pn xe) body (tb W))
    (hh : ClsOk X (h₀ :: hds) l) : PS X (.Try body (h₀ :: hds) [] [] pos) (fun D σ H => tb (wClauses X.K Wout D l) D σ H) := by
  refine ⟨fun pins s σ H D I h => ?_⟩
  have ok := I.ok
  have frames : X.A.frames = some (X.env :: X.outer) := ok.frames.trans (by rw [hs])
  refine wpAny_Try_except (wpAny_mono ((hb (wClauses X.K Wout D l) (X.pn ++ pins) (fun e s₁ => wpAny (model X.prog X.w) X.A (noteFrame e X.env) (fun _ s₂ => wpAny (model X.prog X.w) X.A (setFlight e none) (fun _ s₃ =>
    wpAny (model X.prog X.w) X.A (handleBy e X.env (h₀ :: hds)) (SP X pins D) X.xe s₃) X.xe s₂) X.xe s₁) (fun u s' xx => ?_) PassesOwn.looking).run [] s σ H D (I.toTry _) h) (fun f s1 hsp => ?_) (fun e s1 he => he))
  · obtain ⟨a, B, sI, pins', σ', H', cls, d, rfl, J', nb, up, sky, na, os, ag, w⟩ := xx
    have J : Inv X pins σ' H' sI := J'.ofTry ok
    rw [hs] at sky
    show wpAny (model X.prog X.w) X.A (noteFrame (.ref a) X.env) _ _ _
    refine Sky.land Zc.steady frames hf sky fun hA landA upA => ?_
    have JA : Inv X pins σ' H' { s' with heap := hA } := J.landed nb landA.1 (up.trans upA) os ag
    obtain ⟨oA, vA, atA, zA, dA⟩ := landA.there
    -- it is no frame
    have off : a ∉ frs (X.env :: X.outer) := fun hm => by
      obtain ⟨_, o', e', no⟩ := landA.2.2.1.mem hm
      rw [atA] at e'
      cases e'
      exact no _ dA
    have offL : a ≠ X.env.locals := fun z => off (List.mem_filterMap.mpr ⟨X.env, List.mem_cons_self, by rw [hf, z]⟩)
    have offF : a ∉ X.fs := fun hm => by
      obtain ⟨e, he, q⟩ := List.mem_filterMap.mp hm
      exact off (List.mem_filterMap.mpr ⟨e, List.mem_cons_of_mem _ he, q⟩)
    have SA := JA.suite atA dA na offL offF
    have clauses : ∀ {hds' : List ExceptHandler} {l' : List Cl}, ClsOk X hds' l' → wClauses X.K Wout D l' cls d σ' H' → wpAny (model X.prog X.w) X.A (handleBy (.ref a) X.env hds') (SP X pins D) X.xe { s' with heap := hA } := by
      intro hds' l' hk
      induction hk with
      | nil =>
        intro w
        obtain ⟨k1, k2, k3, oe, vs, T, oT, ts', he, hz, hd, h1, hr⟩ := id landA
        have out : wpAny (model X.prog X.w) X.A (setFlight (.ref a) X.env.frame) (fun _ s4 => wpAny (model X.prog X.w) X.A (throw (.ref a) : Sem Flow) (SP X pins D) X.xe s4) X.xe { s' with heap := hA } := by
          rw [hf]
          exact HandSPX.setFlight_upZ landA fun h4 hh4 up4 => wpAny_throw (tk _ _ ⟨a, B, sI, pins, σ', H', cls, d, rfl, J, nb, (up.trans upA).trans up4, .inr (.inr (by rw [hs]; exact hh4)), na, os, ag, w⟩)
        refine wpAny_handleBy_nil ?_
        unfold PySem.passOn
        refine wpAny_bind (wpAny_field he hd h1 ?_)
        rw [if_neg (show ¬ ((Value.ref T == Value.none) = true) from by simp)]
        first
          | exact wpAny_bind (wpAny_pure (wpAny_bind out))
          | exact wpAny_bind out
      | @cons x c on oi ts b₀ suite np pos' hds2 l2 hc hn hsu r ih =>
        rintro ⟨b, ask, yes, no⟩
        refine wpAny_handleBy_cons (codeAny_handlers_test ?_) (by intro q; cases q)
        have LT : PySem.W.Looks (model X.prog X.w) hA (typeOf (.ref a)) cls := fun A Q E s k q => wpAny_typeOf_ref (k _ _ atA) (by rw [zA.1]; exact q)
        have LM := PySem.W.exm_one (M := model X.prog X.w) (JA.kIn) LT ask
        have named : ∀ {Q : Value → Shared → Prop} {E : Value → Shared → Prop}, Q c { s' with heap := hA } → wpAny (model X.prog X.w) (X.A.mark (some (.ref a))) (eval (.Name x np) X.env) Q E { s' with heap := hA } := fun {Q E} q => by
          obtain ⟨hg, hdbg, hm | ⟨hm, hv, hnn⟩⟩ := hc
          · exact ld_glob (X := X.suite a ((a, oA) :: (X.pn ++ pins))) SA hg hm q hdbg
          · exact ld_blt (X := X.suite a ((a, oA) :: (X.pn ++ pins))) SA hg hm hv q hnn hdbg
        refine named (LM.here ?_)
        cases b with
        | false => exact ih (no rfl)
        | true =>
          have go := yes rfl a na
          match on, oi, hn with
          | none, none, _ =>
            refine codeAny_handlers_suite (HandSPX.lands_againZ landA fun hB landB upB => ?_)
            have JB : Inv X pins σ' H' { s' with heap := hB } := J.landed nb landB.1 ((up.trans upA).trans upB) os ag
            obtain ⟨oB, vB, atB, zB, dB⟩ := landB.there
            exact wpAny_mono ((hsu a oB cls d (X.pn ++ pins) zB ⟨_, dB⟩).run [] _ _ H' _ (JB.suite atB dB na offL offF) go) (fun f s6 hsp => ends_plain ok hsp) (fun _ _ z => False.elim z)
          | some n, some i, hn =>
            obtain ⟨hi, hln⟩ := hn
            refine codeAny_handlers_suite_as (HandSPX.lands_againZ landA fun hB landB upB => ?_)
            have JB : Inv X pins σ' H' { s' with heap := hB } := J.landed nb landB.1 ((up.trans upA).trans upB) os ag
            obtain ⟨oB, vB, atB, zB, dB⟩ := landB.there
            refine store_ok (X := X.suite a ((a, oB) :: (X.pn ++ pins))) (v := .ref a) (JB.suite atB dB na offL offF) hN hi (.inl hln) rfl (fun s5 S5 => ?_) (.inr hln)
            refine wpAny_mono ((hsu a oB cls d (X.pn ++ pins) zB ⟨_, dB⟩).run [] s5 _ H' _ S5 go) (fun f s6 hsp => ?_) (fun _ _ z => False.elim z)
            have z := ends_named (pos' := pos') ok hN hi hln hsp
            cases f <;> exact z
    exact clauses hh w
  · cases f with
    | next =>
      obtain ⟨σ', H', K', q⟩ := hsp
      exact wpAny_execs_nil ⟨σ', H', K'.ofTry ok, q⟩
    | brk =>
      obtain ⟨σ', H', K', q⟩ := hsp
      exact ⟨σ', H', K'.ofTry ok, q⟩
    | cont =>
      obtain ⟨σ', H', K', q⟩ := hsp
      exact ⟨σ', H', K'.ofTry ok, q⟩
    | ret u =>
      obtain ⟨v, σ', H', K', r, q⟩ := hsp
      exact ⟨v, σ', H', K'.ofTry ok, r, q⟩
end
end TRA
set_option Elab.async false
set_option linter.all false
set_option maxRecDepth 100000
set_option maxHeartbeats 2000000
namespace K10
open PySem PySem.Spec PyProof.Rows L2 CM DN GR SRT RZ
def topS (i : Nat) : Stmt := PySem.Challenge.pw_kindgrove_k10_kinds_by_themselves.main.body.getD i (.Pass ⟨0, 0, 0, 0⟩)
abbrev s_wall : Stmt := topS 0
abbrev n_wall : List Str := ["k"]
theorem sc_wall : FnScope n_wall ["k"] (defScope s_wall) := ⟨rfl, rfl, rfl, by decide +kernel, rfl, by decide +kernel, by decide +kernel⟩
abbrev s_BadValue___init : Stmt := inClass (topS 3) 0
abbrev n_BadValue___init : List Str := ["self", "value"]
theorem sc_BadValue___init : FnScope n_BadValue___init ["self", "value"] (defScope s_BadValue___init) := ⟨rfl, rfl, rfl, by decide +kernel, rfl, by decide +kernel, by decide +kernel⟩
abbrev s_NotGiven___init : Stmt := inClass (topS 4) 0
abbrev n_NotGiven___init : List Str := ["self", "name"]
theorem sc_NotGiven___init : FnScope n_NotGiven___init ["self", "name"] (defScope s_NotGiven___init) := ⟨rfl, rfl, rfl, by decide +kernel, rfl, by decide +kernel, by decide +kernel⟩
abbrev s_Kind_own : Stmt := inClass (topS 6) 0
abbrev n_Kind_own : List Str := ["self", "key"]
theorem sc_Kind_own : FnScope n_Kind_own ["self", "key"] (defScope s_Kind_own) := ⟨rfl, rfl, rfl, by decide +kernel, rfl, by decide +kernel, by decide +kernel⟩
abbrev s_Kind_join : Stmt := inClass (topS 6) 1
abbrev n_Kind_join : List Str := ["self", "one", "other"]
theorem sc_Kind_join : FnScope n_Kind_join ["self", "one", "other"] (defScope s_Kind_join) := ⟨rfl, rfl, rfl, by decide +kernel, rfl, by decide +kernel, by decide +kernel⟩
abbrev s_Kind_consistent : Stmt := inClass (topS 6) 2
abbrev n_Kind_consistent : List Str := ["self", "label", "question"]
theorem sc_Kind_consistent : FnScope n_Kind_consistent ["self", "label", "question"] (defScope s_Kind_consistent) := ⟨rfl, rfl, rfl, by decide +kernel, rfl, by decide +kernel, by decide +kernel⟩
abbrev s_Kind_matches : Stmt := inClass (topS 6) 3
abbrev n_Kind_matches : List Str := ["self", "key", "question"]
theorem sc_Kind_matches : FnScope n_Kind_matches ["self", "key", "question"] (defScope s_Kind_matches) := ⟨rfl, rfl, rfl, by decide +kernel, rfl, by decide +kernel, by decide +kernel⟩
abbrev s_Kind_penalty : Stmt := inClass (topS 6) 4
abbrev n_Kind_penalty : List Str := ["self", "label", "key"]
theorem sc_Kind_penalty : FnScope n_Kind_penalty ["self", "label", "key"] (defScope s_Kind_penalty) := ⟨rfl, rfl, rfl, by decide +kernel, rfl, by decide +kernel, by decide +kernel⟩
abbrev s_Kind_sides : Stmt := inClass (topS 6) 5
abbrev n_Kind_sides : List Str := ["self", "labels", "half"]
theorem sc_Kind_sides : FnScope n_Kind_sides ["self", "labels"] (defScope s_Kind_sides) := ⟨rfl, rfl, rfl, by decide +kernel, rfl, by decide +kernel, by decide +kernel⟩
abbrev s_Measured_distance : Stmt := inClass (topS 7) 0
abbrev n_Measured_distance : List Str := ["self", "key", "point"]
theorem sc_Measured_distance : FnScope n_Measured_distance ["self", "key", "point"] (defScope s_Measured_distance) := ⟨rfl, rfl, rfl, by decide +kernel, rfl, by decide +kernel, by decide +kernel⟩
abbrev s_Measured_bound : Stmt := inClass (topS 7) 1
abbrev n_Measured_bound : List Str := ["self", "label", "point"]
theorem sc_Measured_bound : FnScope n_Measured_bound ["self", "label", "point"] (defScope s_Measured_bound) := ⟨rfl, rfl, rfl, by decide +kernel, rfl, by decide +kernel, by decide +kernel⟩
abbrev s_Calls___init : Stmt := inClass (topS 8) 0
abbrev n_Calls___init : List Str := ["self", "own", "join", "consistent", "matches", "penalty", "sides", "distance", "bound"]
theorem sc_Calls___init : FnScope n_Calls___init ["self", "own", "join", "consistent", "matches", "penalty", "sides", "distance", "bound"] (defScope s_Calls___init) := ⟨rfl, rfl, rfl, by decide +kernel, rfl, by decide +kernel, by decide +kernel⟩
abbrev s_Calls_own : Stmt := inClass (topS 8) 1
abbrev n_Calls_own : List Str := ["self", "key"]
theorem sc_Calls_own : FnScope n_Calls_own ["self", "key"] (defScope s_Calls_own) := ⟨rfl, rfl, rfl, by decide +kernel, rfl, by decide +kernel, by decide +kernel⟩
abbrev s_Calls_join : Stmt := inClass (topS 8) 2
abbrev n_Calls_join : List Str := ["self", "one", "other"]
theorem sc_Calls_join : FnScope n_Calls_join ["self", "one", "other"] (defScope s_Calls_join) := ⟨rfl, rfl, rfl, by decide +kernel, rfl, by decide +kernel, by decide +kernel⟩
abbrev s_Calls_consistent : Stmt := inClass (topS 8) 3
abbrev n_Calls_consistent : List Str := ["self", "label", "question"]
theorem sc_Calls_consistent : FnScope n_Calls_consistent ["self", "label", "question"] (defScope s_Calls_consistent) := ⟨rfl, rfl, rfl, by decide +kernel, rfl, by decide +kernel, by decide +kernel⟩
abbrev s_Calls_matches : Stmt := inClass (topS 8) 4
abbrev n_Calls_matches : List Str := ["self", "key", "question"]
theorem sc_Calls_matches : FnScope n_Calls_matches ["self", "key", "question"] (defScope s_Calls_matches) := ⟨rfl, rfl, rfl, by decide +kernel, rfl, by decide +kernel, by decide +kernel⟩
abbrev s_Calls_penalty : Stmt := inClass (topS 8) 5
abbrev n_Calls_penalty : List Str := ["self", "label", "key", "__class__"]
theorem nsc_Calls_penalty : NdefX.NScope n_Calls_penalty ["self", "label", "key"] ["__class__"] (defScope s_Calls_penalty) := NdefX.nscope_by (by decide +kernel)
abbrev s_Calls_sides : Stmt := inClass (topS 8) 6
abbrev n_Calls_sides : List Str := ["self", "labels", "__class__"]
theorem nsc_Calls_sides : NdefX.NScope n_Calls_sides ["self", "labels"] ["__class__"] (defScope s_Calls_sides) := NdefX.nscope_by (by decide +kernel)
abbrev s_Calls_distance : Stmt := inClass (topS 8) 7
abbrev n_Calls_distance : List Str := ["self", "key", "point", "__class__"]
theorem nsc_Calls_distance : NdefX.NScope n_Calls_distance ["self", "key", "point"] ["__class__"] (defScope s_Calls_distance) := NdefX.nscope_by (by decide +kernel)
abbrev s_Calls_bound : Stmt := inClass (topS 8) 8
abbrev n_Calls_bound : List Str := ["self", "label", "point", "__class__"]
theorem nsc_Calls_bound : NdefX.NScope n_Calls_bound ["self", "label", "point"] ["__class__"] (defScope s_Calls_bound) := NdefX.nscope_by (by decide +kernel)
abbrev s_is_int : Stmt := topS 11
abbrev n_is_int : List Str := ["thing"]
theorem sc_is_int : FnScope n_is_int ["thing"] (defScope s_is_int) := ⟨rfl, rfl, rfl, by decide +kernel, rfl, by decide +kernel, by decide +kernel⟩
abbrev s_is_flag : Stmt := topS 12
abbrev n_is_flag : List Str := ["thing"]
theorem sc_is_flag : FnScope n_is_flag ["thing"] (defScope s_is_flag) := ⟨rfl, rfl, rfl, by decide +kernel, rfl, by decide +kernel, by decide +kernel⟩
abbrev s_by_repr : Stmt := topS 13
abbrev n_by_repr : List Str := ["things"]
theorem sc_by_repr : FnScope n_by_repr ["things"] (defScope s_by_repr) := ⟨rfl, rfl, rfl, by decide +kernel, rfl, by decide +kernel, by decide +kernel⟩
abbrev s_is_plain : Stmt := topS 14
abbrev n_is_plain : List Str := ["thing"]
theorem sc_is_plain : FnScope n_is_plain ["thing"] (defScope s_is_plain) := ⟨rfl, rfl, rfl, by decide +kernel, rfl, by decide +kernel, by decide +kernel⟩
abbrev s_is_plain_within : Stmt := topS 15
abbrev n_is_plain_within : List Str := ["thing", "deepest", "part"]
theorem sc_is_plain_within : FnScope n_is_plain_within ["thing", "deepest"] (defScope s_is_plain_within) := ⟨rfl, rfl, rfl, by decide +kernel, rfl, by decide +kernel, by decide +kernel⟩
abbrev s_own_label : Stmt := topS 17
abbrev n_own_label : List Str := ["kind", "key"]
theorem sc_own_label : FnScope n_own_label ["kind", "key"] (defScope s_own_label) := ⟨rfl, rfl, rfl, by decide +kernel, rfl, by decide +kernel, by decide +kernel⟩
abbrev s_joined : Stmt := topS 18
abbrev n_joined : List Str := ["kind", "one", "other"]
theorem sc_joined : FnScope n_joined ["kind", "one", "other"] (defScope s_joined) := ⟨rfl, rfl, rfl, by decide +kernel, rfl, by decide +kernel, by decide +kernel⟩
abbrev s_checked : Stmt := topS 19
abbrev n_checked : List Str := ["label"]
theorem sc_checked : FnScope n_checked ["label"] (defScope s_checked) := ⟨rfl, rfl, rfl, by decide +kernel, rfl, by decide +kernel, by decide +kernel⟩
abbrev s_Both___init : Stmt := inClass (topS 21) 0
abbrev n_Both___init : List Str := ["self", "one", "other"]
theorem sc_Both___init : FnScope n_Both___init ["self", "one", "other"] (defScope s_Both___init) := ⟨rfl, rfl, rfl, by decide +kernel, rfl, by decide +kernel, by decide +kernel⟩
abbrev s_Both_one : Stmt := inClass (topS 21) 1
abbrev n_Both_one : List Str := ["self"]
theorem sc_Both_one : FnScope n_Both_one ["self"] (defScope s_Both_one) := ⟨rfl, rfl, rfl, by decide +kernel, rfl, by decide +kernel, by decide +kernel⟩
abbrev s_Both_other : Stmt := inClass (topS 21) 2
abbrev n_Both_other : List Str := ["self"]
theorem sc_Both_other : FnScope n_Both_other ["self"] (defScope s_Both_other) := ⟨rfl, rfl, rfl, by decide +kernel, rfl, by decide +kernel, by decide +kernel⟩
abbrev s_Both_own : Stmt := inClass (topS 21) 3
abbrev n_Both_own : List Str := ["self", "key"]
theorem sc_Both_own : FnScope n_Both_own ["self", "key"] (defScope s_Both_own) := ⟨rfl, rfl, rfl, by decide +kernel, rfl, by decide +kernel, by decide +kernel⟩
abbrev s_Both_join : Stmt := inClass (topS 21) 4
abbrev n_Both_join : List Str := ["self", "one", "other"]
theorem sc_Both_join : FnScope n_Both_join ["self", "one", "other"] (defScope s_Both_join) := ⟨rfl, rfl, rfl, by decide +kernel, rfl, by decide +kernel, by decide +kernel⟩
abbrev s_Both_consistent : Stmt := inClass (topS 21) 5
abbrev n_Both_consistent : List Str := ["self", "label", "question"]
theorem sc_Both_consistent : FnScope n_Both_consistent ["self", "label", "question"] (defScope s_Both_consistent) := ⟨rfl, rfl, rfl, by decide +kernel, rfl, by decide +kernel, by decide +kernel⟩
abbrev s_Both_matches : Stmt := inClass (topS 21) 6
abbrev n_Both_matches : List Str := ["self", "key", "question"]
theorem sc_Both_matches : FnScope n_Both_matches ["self", "key", "question"] (defScope s_Both_matches) := ⟨rfl, rfl, rfl, by decide +kernel, rfl, by decide +kernel, by decide +kernel⟩
abbrev s_Both_penalty : Stmt := inClass (topS 21) 7
abbrev n_Both_penalty : List Str := ["self", "label", "key"]
theorem sc_Both_penalty : FnScope n_Both_penalty ["self", "label", "key"] (defScope s_Both_penalty) := ⟨rfl, rfl, rfl, by decide +kernel, rfl, by decide +kernel, by decide +kernel⟩
abbrev s_Both_sides : Stmt := inClass (topS 21) 8
abbrev n_Both_sides : List Str := ["self", "labels", "label"]
theorem sc_Both_sides : FnScope n_Both_sides ["self", "labels"] (defScope s_Both_sides) := ⟨rfl, rfl, rfl, by decide +kernel, rfl, by decide +kernel, by decide +kernel⟩
abbrev s_Both_distance : Stmt := inClass (topS 21) 9
abbrev n_Both_distance : List Str := ["self", "key", "point"]
theorem sc_Both_distance : FnScope n_Both_distance ["self", "key", "point"] (defScope s_Both_distance) := ⟨rfl, rfl, rfl, by decide +kernel, rfl, by decide +kernel, by decide +kernel⟩
abbrev s_Both_bound : Stmt := inClass (topS 21) 10
abbrev n_Both_bound : List Str := ["self", "label", "point"]
theorem sc_Both_bound : FnScope n_Both_bound ["self", "label", "point"] (defScope s_Both_bound) := ⟨rfl, rfl, rfl, by decide +kernel, rfl, by decide +kernel, by decide +kernel⟩
abbrev s_Coarse___init : Stmt := inClass (topS 22) 0
abbrev n_Coarse___init : List Str := ["self", "kind", "squeeze"]
theorem sc_Coarse___init : FnScope n_Coarse___init ["self", "kind", "squeeze"] (defScope s_Coarse___init) := ⟨rfl, rfl, rfl, by decide +kernel, rfl, by decide +kernel, by decide +kernel⟩
abbrev s_Coarse_own : Stmt := inClass (topS 22) 1
abbrev n_Coarse_own : List Str := ["self", "key"]
theorem sc_Coarse_own : FnScope n_Coarse_own ["self", "key"] (defScope s_Coarse_own) := ⟨rfl, rfl, rfl, by decide +kernel, rfl, by decide +kernel, by decide +kernel⟩
abbrev s_Coarse_join : Stmt := inClass (topS 22) 2
abbrev n_Coarse_join : List Str := ["self", "one", "other"]
theorem sc_Coarse_join : FnScope n_Coarse_join ["self", "one", "other"] (defScope s_Coarse_join) := ⟨rfl, rfl, rfl, by decide +kernel, rfl, by decide +kernel, by decide +kernel⟩
abbrev s_Coarse_consistent : Stmt := inClass (topS 22) 3
abbrev n_Coarse_consistent : List Str := ["self", "label", "question"]
theorem sc_Coarse_consistent : FnScope n_Coarse_consistent ["self", "label", "question"] (defScope s_Coarse_consistent) := ⟨rfl, rfl, rfl, by decide +kernel, rfl, by decide +kernel, by decide +kernel⟩
abbrev s_Coarse_matches : Stmt := inClass (topS 22) 4
abbrev n_Coarse_matches : List Str := ["self", "key", "question"]
theorem sc_Coarse_matches : FnScope n_Coarse_matches ["self", "key", "question"] (defScope s_Coarse_matches) := ⟨rfl, rfl, rfl, by decide +kernel, rfl, by decide +kernel, by decide +kernel⟩
abbrev s_Coarse_penalty : Stmt := inClass (topS 22) 5
abbrev n_Coarse_penalty : List Str := ["self", "label", "key"]
theorem sc_Coarse_penalty : FnScope n_Coarse_penalty ["self", "label", "key"] (defScope s_Coarse_penalty) := ⟨rfl, rfl, rfl, by decide +kernel, rfl, by decide +kernel, by decide +kernel⟩
abbrev s_Coarse_sides : Stmt := inClass (topS 22) 6
abbrev n_Coarse_sides : List Str := ["self", "labels"]
theorem sc_Coarse_sides : FnScope n_Coarse_sides ["self", "labels"] (defScope s_Coarse_sides) := ⟨rfl, rfl, rfl, by decide +kernel, rfl, by decide +kernel, by decide +kernel⟩
abbrev s_Coarse_distance : Stmt := inClass (topS 22) 7
abbrev n_Coarse_distance : List Str := ["self", "key", "point"]
theorem sc_Coarse_distance : FnScope n_Coarse_distance ["self", "key", "point"] (defScope s_Coarse_distance) := ⟨rfl, rfl, rfl, by decide +kernel, rfl, by decide +kernel, by decide +kernel⟩
abbrev s_Coarse_bound : Stmt := inClass (topS 22) 8
abbrev n_Coarse_bound : List Str := ["self", "label", "point"]
theorem sc_Coarse_bound : FnScope n_Coarse_bound ["self", "label", "point"] (defScope s_Coarse_bound) := ⟨rfl, rfl, rfl, by decide +kernel, rfl, by decide +kernel, by decide +kernel⟩
abbrev s_distance_by : Stmt := topS 23
abbrev n_distance_by : List Str := ["kind", "key", "point"]
theorem sc_distance_by : FnScope n_distance_by ["kind", "key", "point"] (defScope s_distance_by) := ⟨rfl, rfl, rfl, by decide +kernel, rfl, by decide +kernel, by decide +kernel⟩
abbrev s_bound_by : Stmt := topS 24
abbrev n_bound_by : List Str := ["kind", "label", "point"]
theorem sc_bound_by : FnScope n_bound_by ["kind", "label", "point"] (defScope s_bound_by) := ⟨rfl, rfl, rfl, by decide +kernel, rfl, by decide +kernel, by decide +kernel⟩
abbrev s_Counted___init : Stmt := inClass (topS 26) 0
abbrev n_Counted___init : List Str := ["self", "function", "arguments"]
theorem sc_Counted___init : FnScope n_Counted___init ["self", "function", "arguments"] (defScope s_Counted___init) := ⟨rfl, rfl, rfl, by decide +kernel, rfl, by decide +kernel, by decide +kernel⟩
abbrev s_Counted___call : Stmt := inClass (topS 26) 1
abbrev n_Counted___call : List Str := ["self", "one", "other"]
theorem sc_Counted___call : FnScope n_Counted___call ["self", "one", "other"] (defScope s_Counted___call) := ⟨rfl, rfl, rfl, by decide +kernel, rfl, by decide +kernel, by decide +kernel⟩
abbrev s_Counted_calls : Stmt := inClass (topS 26) 2
abbrev n_Counted_calls : List Str := ["self"]
theorem sc_Counted_calls : FnScope n_Counted_calls ["self"] (defScope s_Counted_calls) := ⟨rfl, rfl, rfl, by decide +kernel, rfl, by decide +kernel, by decide +kernel⟩
abbrev s_Counted_clear : Stmt := inClass (topS 26) 3
abbrev n_Counted_clear : List Str := ["self", "many"]
theorem sc_Counted_clear : FnScope n_Counted_clear ["self"] (defScope s_Counted_clear) := ⟨rfl, rfl, rfl, by decide +kernel, rfl, by decide +kernel, by decide +kernel⟩
abbrev s_Filling___init : Stmt := inClass (topS 28) 0
abbrev n_Filling___init : List Str := ["self", "default", "places", "place"]
theorem sc_Filling___init : FnScope n_Filling___init ["self", "default", "places"] (defScope s_Filling___init) := ⟨rfl, rfl, rfl, by decide +kernel, rfl, by decide +kernel, by decide +kernel⟩
abbrev s_Grid___init : Stmt := inClass (topS 29) 0
abbrev n_Grid___init : List Str := ["self", "default"]
theorem sc_Grid___init : FnScope n_Grid___init ["self", "default"] (defScope s_Grid___init) := ⟨rfl, rfl, rfl, by decide +kernel, rfl, by decide +kernel, by decide +kernel⟩
abbrev s_Grid___getitem : Stmt := inClass (topS 29) 1
abbrev n_Grid___getitem : List Str := ["self", "at"]
theorem sc_Grid___getitem : FnScope n_Grid___getitem ["self", "at"] (defScope s_Grid___getitem) := ⟨rfl, rfl, rfl, by decide +kernel, rfl, by decide +kernel, by decide +kernel⟩
abbrev s_Grid___setitem : Stmt := inClass (topS 29) 2
abbrev n_Grid___setitem : List Str := ["self", "at", "worth", "place"]
theorem sc_Grid___setitem : FnScope n_Grid___setitem ["self", "at", "worth"] (defScope s_Grid___setitem) := ⟨rfl, rfl, rfl, by decide +kernel, rfl, by decide +kernel, by decide +kernel⟩
abbrev s_Grid___call : Stmt := inClass (topS 29) 3
abbrev n_Grid___call : List Str := ["self", "one", "other"]
theorem sc_Grid___call : FnScope n_Grid___call ["self", "one", "other"] (defScope s_Grid___call) := ⟨rfl, rfl, rfl, by decide +kernel, rfl, by decide +kernel, by decide +kernel⟩
abbrev s_Grid___iter : Stmt := inClass (topS 29) 4
abbrev n_Grid___iter : List Str := ["self"]
theorem sc_Grid___iter : FnScope n_Grid___iter ["self"] (defScope s_Grid___iter) := ⟨rfl, rfl, rfl, by decide +kernel, rfl, by decide +kernel, by decide +kernel⟩
abbrev s_Grid___contains : Stmt := inClass (topS 29) 5
abbrev n_Grid___contains : List Str := ["self", "x"]
theorem sc_Grid___contains : FnScope n_Grid___contains ["self", "x"] (defScope s_Grid___contains) := ⟨rfl, rfl, rfl, by decide +kernel, rfl, by decide +kernel, by decide +kernel⟩
abbrev s_Grid___len : Stmt := inClass (topS 29) 6
abbrev n_Grid___len : List Str := ["self"]
theorem sc_Grid___len : FnScope n_Grid___len ["self"] (defScope s_Grid___len) := ⟨rfl, rfl, rfl, by decide +kernel, rfl, by decide +kernel, by decide +kernel⟩
abbrev s_Grid___bool : Stmt := inClass (topS 29) 7
abbrev n_Grid___bool : List Str := ["self"]
theorem sc_Grid___bool : FnScope n_Grid___bool ["self"] (defScope s_Grid___bool) := ⟨rfl, rfl, rfl, by decide +kernel, rfl, by decide +kernel, by decide +kernel⟩
abbrev s_Grid___eq : Stmt := inClass (topS 29) 8
abbrev n_Grid___eq : List Str := ["self", "other"]
theorem sc_Grid___eq : FnScope n_Grid___eq ["self", "other"] (defScope s_Grid___eq) := ⟨rfl, rfl, rfl, by decide +kernel, rfl, by decide +kernel, by decide +kernel⟩
abbrev s_Grid___and : Stmt := inClass (topS 29) 9
abbrev n_Grid___and : List Str := ["self", "other", "default", "unlike", "place"]
theorem sc_Grid___and : FnScope n_Grid___and ["self", "other"] (defScope s_Grid___and) := ⟨rfl, rfl, rfl, by decide +kernel, rfl, by decide +kernel, by decide +kernel⟩
abbrev s_Grid___or : Stmt := inClass (topS 29) 10
abbrev n_Grid___or : List Str := ["self", "other", "default", "unlike", "place"]
theorem sc_Grid___or : FnScope n_Grid___or ["self", "other"] (defScope s_Grid___or) := ⟨rfl, rfl, rfl, by decide +kernel, rfl, by decide +kernel, by decide +kernel⟩
abbrev s_Grid___invert : Stmt := inClass (topS 29) 11
abbrev n_Grid___invert : List Str := ["self"]
theorem sc_Grid___invert : FnScope n_Grid___invert ["self"] (defScope s_Grid___invert) := ⟨rfl, rfl, rfl, by decide +kernel, rfl, by decide +kernel, by decide +kernel⟩
abbrev s_Grid___ior : Stmt := inClass (topS 29) 12
abbrev n_Grid___ior : List Str := ["self", "other", "union"]
theorem sc_Grid___ior : FnScope n_Grid___ior ["self", "other"] (defScope s_Grid___ior) := ⟨rfl, rfl, rfl, by decide +kernel, rfl, by decide +kernel, by decide +kernel⟩
abbrev s_Grid_places : Stmt := inClass (topS 29) 13
abbrev n_Grid_places : List Str := ["self"]
theorem sc_Grid_places : FnScope n_Grid_places ["self"] (defScope s_Grid_places) := ⟨rfl, rfl, rfl, by decide +kernel, rfl, by decide +kernel, by decide +kernel⟩
abbrev s_Grid_under : Stmt := inClass (topS 29) 14
abbrev n_Grid_under : List Str := ["self", "other"]
theorem sc_Grid_under : FnScope n_Grid_under ["self", "other"] (defScope s_Grid_under) := ⟨rfl, rfl, rfl, by decide +kernel, rfl, by decide +kernel, by decide +kernel⟩
abbrev s_Grid_has_value : Stmt := inClass (topS 29) 15
abbrev n_Grid_has_value : List Str := ["self", "thing"]
theorem sc_Grid_has_value : FnScope n_Grid_has_value ["self", "thing"] (defScope s_Grid_has_value) := ⟨rfl, rfl, rfl, by decide +kernel, rfl, by decide +kernel, by decide +kernel⟩
abbrev s_is_place : Stmt := topS 30
abbrev n_is_place : List Str := ["thing"]
theorem sc_is_place : FnScope n_is_place ["thing"] (defScope s_is_place) := ⟨rfl, rfl, rfl, by decide +kernel, rfl, by decide +kernel, by decide +kernel⟩
abbrev s_checked_place : Stmt := topS 31
abbrev n_checked_place : List Str := ["thing", "part"]
theorem sc_checked_place : FnScope n_checked_place ["thing"] (defScope s_checked_place) := ⟨rfl, rfl, rfl, by decide +kernel, rfl, by decide +kernel, by decide +kernel⟩
abbrev s_standing_in : Stmt := topS 32
abbrev n_standing_in : List Str := ["one", "other", "further", "place"]
theorem sc_standing_in : FnScope n_standing_in ["one", "other"] (defScope s_standing_in) := ⟨rfl, rfl, rfl, by decide +kernel, rfl, by decide +kernel, by decide +kernel⟩
abbrev s_halves_by : Stmt := topS 34
abbrev n_halves_by : List Str := ["marks", "order", "first", "at"]
theorem sc_halves_by : FnScope n_halves_by ["marks"] (defScope s_halves_by) := ⟨rfl, rfl, rfl, by decide +kernel, rfl, by decide +kernel, by decide +kernel⟩
abbrev s_Ranges_own : Stmt := inClass (topS 37) 0
abbrev n_Ranges_own : List Str := ["self", "key"]
theorem sc_Ranges_own : FnScope n_Ranges_own ["self", "key"] (defScope s_Ranges_own) := ⟨rfl, rfl, rfl, by decide +kernel, rfl, by decide +kernel, by decide +kernel⟩
abbrev s_Ranges_join : Stmt := inClass (topS 37) 1
abbrev n_Ranges_join : List Str := ["self", "one", "other"]
theorem sc_Ranges_join : FnScope n_Ranges_join ["self", "one", "other"] (defScope s_Ranges_join) := ⟨rfl, rfl, rfl, by decide +kernel, rfl, by decide +kernel, by decide +kernel⟩
abbrev s_Ranges_consistent : Stmt := inClass (topS 37) 2
abbrev n_Ranges_consistent : List Str := ["self", "label", "question"]
theorem sc_Ranges_consistent : FnScope n_Ranges_consistent ["self", "label", "question"] (defScope s_Ranges_consistent) := ⟨rfl, rfl, rfl, by decide +kernel, rfl, by decide +kernel, by decide +kernel⟩
abbrev s_Ranges_matches : Stmt := inClass (topS 37) 3
abbrev n_Ranges_matches : List Str := ["self", "key", "question"]
theorem sc_Ranges_matches : FnScope n_Ranges_matches ["self", "key", "question"] (defScope s_Ranges_matches) := ⟨rfl, rfl, rfl, by decide +kernel, rfl, by decide +kernel, by decide +kernel⟩
abbrev s_Ranges_penalty : Stmt := inClass (topS 37) 4
abbrev n_Ranges_penalty : List Str := ["self", "label", "key"]
theorem sc_Ranges_penalty : FnScope n_Ranges_penalty ["self", "label", "key"] (defScope s_Ranges_penalty) := ⟨rfl, rfl, rfl, by decide +kernel, rfl, by decide +kernel, by decide +kernel⟩
abbrev s_Ranges_sides : Stmt := inClass (topS 37) 5
abbrev n_Ranges_sides : List Str := ["self", "labels", "low", "high"]
theorem sc_Ranges_sides : FnScope n_Ranges_sides ["self", "labels"] (defScope s_Ranges_sides) := ⟨rfl, rfl, rfl, by decide +kernel, rfl, by decide +kernel, by decide +kernel⟩
abbrev s_Ranges_distance : Stmt := inClass (topS 37) 6
abbrev n_Ranges_distance : List Str := ["self", "key", "point"]
theorem sc_Ranges_distance : FnScope n_Ranges_distance ["self", "key", "point"] (defScope s_Ranges_distance) := ⟨rfl, rfl, rfl, by decide +kernel, rfl, by decide +kernel, by decide +kernel⟩
abbrev s_Ranges_bound : Stmt := inClass (topS 37) 7
abbrev n_Ranges_bound : List Str := ["self", "label", "point"]
theorem sc_Ranges_bound : FnScope n_Ranges_bound ["self", "label", "point"] (defScope s_Ranges_bound) := ⟨rfl, rfl, rfl, by decide +kernel, rfl, by decide +kernel, by decide +kernel⟩
abbrev s_Boxes___init : Stmt := inClass (topS 38) 0
abbrev n_Boxes___init : List Str := ["self", "dimensions"]
theorem sc_Boxes___init : FnScope n_Boxes___init ["self", "dimensions"] (defScope s_Boxes___init) := ⟨rfl, rfl, rfl, by decide +kernel, rfl, by decide +kernel, by decide +kernel⟩
abbrev s_Boxes_dimensions : Stmt := inClass (topS 38) 1
abbrev n_Boxes_dimensions : List Str := ["self"]
theorem sc_Boxes_dimensions : FnScope n_Boxes_dimensions ["self"] (defScope s_Boxes_dimensions) := ⟨rfl, rfl, rfl, by decide +kernel, rfl, by decide +kernel, by decide +kernel⟩
abbrev s_Boxes_around : Stmt := inClass (topS 38) 2
abbrev n_Boxes_around : List Str := ["points"]
theorem sc_Boxes_around : FnScope n_Boxes_around ["points"] (defScope s_Boxes_around) := ⟨rfl, rfl, rfl, by decide +kernel, rfl, by decide +kernel, by decide +kernel⟩
abbrev s_Boxes_own : Stmt := inClass (topS 38) 3
abbrev n_Boxes_own : List Str := ["self", "key"]
theorem sc_Boxes_own : FnScope n_Boxes_own ["self", "key"] (defScope s_Boxes_own) := ⟨rfl, rfl, rfl, by decide +kernel, rfl, by decide +kernel, by decide +kernel⟩
abbrev s_Boxes_join : Stmt := inClass (topS 38) 4
abbrev n_Boxes_join : List Str := ["self", "one", "other"]
theorem sc_Boxes_join : FnScope n_Boxes_join ["self", "one", "other"] (defScope s_Boxes_join) := ⟨rfl, rfl, rfl, by decide +kernel, rfl, by decide +kernel, by decide +kernel⟩
abbrev s_Boxes_consistent : Stmt := inClass (topS 38) 5
abbrev n_Boxes_consistent : List Str := ["self", "label", "question"]
theorem sc_Boxes_consistent : FnScope n_Boxes_consistent ["self", "label", "question"] (defScope s_Boxes_consistent) := ⟨rfl, rfl, rfl, by decide +kernel, rfl, by decide +kernel, by decide +kernel⟩
abbrev s_Boxes_matches : Stmt := inClass (topS 38) 6
abbrev n_Boxes_matches : List Str := ["self", "key", "question"]
theorem sc_Boxes_matches : FnScope n_Boxes_matches ["self", "key", "question"] (defScope s_Boxes_matches) := ⟨rfl, rfl, rfl, by decide +kernel, rfl, by decide +kernel, by decide +kernel⟩
abbrev s_Boxes_penalty : Stmt := inClass (topS 38) 7
abbrev n_Boxes_penalty : List Str := ["self", "label", "key"]
theorem sc_Boxes_penalty : FnScope n_Boxes_penalty ["self", "label", "key"] (defScope s_Boxes_penalty) := ⟨rfl, rfl, rfl, by decide +kernel, rfl, by decide +kernel, by decide +kernel⟩
abbrev s_Boxes_sides : Stmt := inClass (topS 38) 8
abbrev n_Boxes_sides : List Str := ["self", "labels", "middles", "spreads", "axis", "row", "label"]
theorem sc_Boxes_sides : FnScope n_Boxes_sides ["self", "labels"] (defScope s_Boxes_sides) := ⟨rfl, rfl, rfl, by decide +kernel, rfl, by decide +kernel, by decide +kernel⟩
abbrev s_Boxes_distance : Stmt := inClass (topS 38) 9
abbrev n_Boxes_distance : List Str := ["self", "key", "point"]
theorem sc_Boxes_distance : FnScope n_Boxes_distance ["self", "key", "point"] (defScope s_Boxes_distance) := ⟨rfl, rfl, rfl, by decide +kernel, rfl, by decide +kernel, by decide +kernel⟩
abbrev s_Boxes_bound : Stmt := inClass (topS 38) 10
abbrev n_Boxes_bound : List Str := ["self", "label", "point"]
theorem sc_Boxes_bound : FnScope n_Boxes_bound ["self", "label", "point"] (defScope s_Boxes_bound) := ⟨rfl, rfl, rfl, by decide +kernel, rfl, by decide +kernel, by decide +kernel⟩
abbrev s_hull : Stmt := topS 39
abbrev n_hull : List Str := ["one", "other"]
theorem sc_hull : FnScope n_hull ["one", "other"] (defScope s_hull) := ⟨rfl, rfl, rfl, by decide +kernel, rfl, by decide +kernel, by decide +kernel⟩
abbrev s_share_integer : Stmt := topS 40
abbrev n_share_integer : List Str := ["one", "other"]
theorem sc_share_integer : FnScope n_share_integer ["one", "other"] (defScope s_share_integer) := ⟨rfl, rfl, rfl, by decide +kernel, rfl, by decide +kernel, by decide +kernel⟩
abbrev s_width_of : Stmt := topS 41
abbrev n_width_of : List Str := ["span"]
theorem sc_width_of : FnScope n_width_of ["span"] (defScope s_width_of) := ⟨rfl, rfl, rfl, by decide +kernel, rfl, by decide +kernel, by decide +kernel⟩
abbrev s_gap : Stmt := topS 42
abbrev n_gap : List Str := ["span", "number"]
theorem sc_gap : FnScope n_gap ["span", "number"] (defScope s_gap) := ⟨rfl, rfl, rfl, by decide +kernel, rfl, by decide +kernel, by decide +kernel⟩
abbrev s_hull_of_boxes : Stmt := topS 43
abbrev n_hull_of_boxes : List Str := ["one", "other", "first", "second"]
theorem sc_hull_of_boxes : FnScope n_hull_of_boxes ["one", "other"] (defScope s_hull_of_boxes) := ⟨rfl, rfl, rfl, by decide +kernel, rfl, by decide +kernel, by decide +kernel⟩
abbrev s_share_point : Stmt := topS 44
abbrev n_share_point : List Str := ["one", "other", "first", "second"]
theorem sc_share_point : FnScope n_share_point ["one", "other"] (defScope s_share_point) := ⟨rfl, rfl, rfl, by decide +kernel, rfl, by decide +kernel, by decide +kernel⟩
abbrev s_widths_of : Stmt := topS 45
abbrev n_widths_of : List Str := ["box", "span"]
theorem sc_widths_of : FnScope n_widths_of ["box"] (defScope s_widths_of) := ⟨rfl, rfl, rfl, by decide +kernel, rfl, by decide +kernel, by decide +kernel⟩
abbrev s_gaps : Stmt := topS 46
abbrev n_gaps : List Str := ["box", "point", "span", "number"]
theorem sc_gaps : FnScope n_gaps ["box", "point"] (defScope s_gaps) := ⟨rfl, rfl, rfl, by decide +kernel, rfl, by decide +kernel, by decide +kernel⟩
abbrev s_Rests_own : Stmt := inClass (topS 49) 0
abbrev n_Rests_own : List Str := ["self", "key"]
theorem sc_Rests_own : FnScope n_Rests_own ["self", "key"] (defScope s_Rests_own) := ⟨rfl, rfl, rfl, by decide +kernel, rfl, by decide +kernel, by decide +kernel⟩
abbrev s_Rests_join : Stmt := inClass (topS 49) 1
abbrev n_Rests_join : List Str := ["self", "one", "other"]
theorem sc_Rests_join : FnScope n_Rests_join ["self", "one", "other"] (defScope s_Rests_join) := ⟨rfl, rfl, rfl, by decide +kernel, rfl, by decide +kernel, by decide +kernel⟩
abbrev s_Rests_consistent : Stmt := inClass (topS 49) 2
abbrev n_Rests_consistent : List Str := ["self", "label", "question", "step"]
theorem sc_Rests_consistent : FnScope n_Rests_consistent ["self", "label", "question"] (defScope s_Rests_consistent) := ⟨rfl, rfl, rfl, by decide +kernel, rfl, by decide +kernel, by decide +kernel⟩
abbrev s_Rests_matches : Stmt := inClass (topS 49) 3
abbrev n_Rests_matches : List Str := ["self", "key", "question"]
theorem sc_Rests_matches : FnScope n_Rests_matches ["self", "key", "question"] (defScope s_Rests_matches) := ⟨rfl, rfl, rfl, by decide +kernel, rfl, by decide +kernel, by decide +kernel⟩
abbrev s_Rests_penalty : Stmt := inClass (topS 49) 4
abbrev n_Rests_penalty : List Str := ["self", "label", "key"]
theorem sc_Rests_penalty : FnScope n_Rests_penalty ["self", "label", "key"] (defScope s_Rests_penalty) := ⟨rfl, rfl, rfl, by decide +kernel, rfl, by decide +kernel, by decide +kernel⟩
abbrev s_Rests_sides : Stmt := inClass (topS 49) 5
abbrev n_Rests_sides : List Str := ["self", "labels", "__class__"]
theorem nsc_Rests_sides : NdefX.NScope n_Rests_sides ["self", "labels"] ["__class__"] (defScope s_Rests_sides) := NdefX.nscope_by (by decide +kernel)
abbrev s_Stems_own : Stmt := inClass (topS 50) 0
abbrev n_Stems_own : List Str := ["self", "key"]
theorem sc_Stems_own : FnScope n_Stems_own ["self", "key"] (defScope s_Stems_own) := ⟨rfl, rfl, rfl, by decide +kernel, rfl, by decide +kernel, by decide +kernel⟩
abbrev s_Stems_join : Stmt := inClass (topS 50) 1
abbrev n_Stems_join : List Str := ["self", "one", "other"]
theorem sc_Stems_join : FnScope n_Stems_join ["self", "one", "other"] (defScope s_Stems_join) := ⟨rfl, rfl, rfl, by decide +kernel, rfl, by decide +kernel, by decide +kernel⟩
abbrev s_Stems_consistent : Stmt := inClass (topS 50) 2
abbrev n_Stems_consistent : List Str := ["self", "label", "question"]
theorem sc_Stems_consistent : FnScope n_Stems_consistent ["self", "label", "question"] (defScope s_Stems_consistent) := ⟨rfl, rfl, rfl, by decide +kernel, rfl, by decide +kernel, by decide +kernel⟩
abbrev s_Stems_matches : Stmt := inClass (topS 50) 3
abbrev n_Stems_matches : List Str := ["self", "key", "question"]
theorem sc_Stems_matches : FnScope n_Stems_matches ["self", "key", "question"] (defScope s_Stems_matches) := ⟨rfl, rfl, rfl, by decide +kernel, rfl, by decide +kernel, by decide +kernel⟩
abbrev s_Stems_penalty : Stmt := inClass (topS 50) 4
abbrev n_Stems_penalty : List Str := ["self", "label", "key"]
theorem sc_Stems_penalty : FnScope n_Stems_penalty ["self", "label", "key"] (defScope s_Stems_penalty) := ⟨rfl, rfl, rfl, by decide +kernel, rfl, by decide +kernel, by decide +kernel⟩
abbrev s_Stems_sides : Stmt := inClass (topS 50) 5
abbrev n_Stems_sides : List Str := ["self", "labels"]
theorem sc_Stems_sides : FnScope n_Stems_sides ["self", "labels"] (defScope s_Stems_sides) := ⟨rfl, rfl, rfl, by decide +kernel, rfl, by decide +kernel, by decide +kernel⟩
abbrev s_Signs___init : Stmt := inClass (topS 51) 0
abbrev n_Signs___init : List Str := ["self", "width"]
theorem sc_Signs___init : FnScope n_Signs___init ["self", "width"] (defScope s_Signs___init) := ⟨rfl, rfl, rfl, by decide +kernel, rfl, by decide +kernel, by decide +kernel⟩
abbrev s_Signs_width : Stmt := inClass (topS 51) 1
abbrev n_Signs_width : List Str := ["self"]
theorem sc_Signs_width : FnScope n_Signs_width ["self"] (defScope s_Signs_width) := ⟨rfl, rfl, rfl, by decide +kernel, rfl, by decide +kernel, by decide +kernel⟩
abbrev s_Signs_own : Stmt := inClass (topS 51) 2
abbrev n_Signs_own : List Str := ["self", "key"]
theorem sc_Signs_own : FnScope n_Signs_own ["self", "key"] (defScope s_Signs_own) := ⟨rfl, rfl, rfl, by decide +kernel, rfl, by decide +kernel, by decide +kernel⟩
abbrev s_Signs_join : Stmt := inClass (topS 51) 3
abbrev n_Signs_join : List Str := ["self", "one", "other"]
theorem sc_Signs_join : FnScope n_Signs_join ["self", "one", "other"] (defScope s_Signs_join) := ⟨rfl, rfl, rfl, by decide +kernel, rfl, by decide +kernel, by decide +kernel⟩
abbrev s_Signs_consistent : Stmt := inClass (topS 51) 4
abbrev n_Signs_consistent : List Str := ["self", "label", "question", "signs"]
theorem sc_Signs_consistent : FnScope n_Signs_consistent ["self", "label", "question"] (defScope s_Signs_consistent) := ⟨rfl, rfl, rfl, by decide +kernel, rfl, by decide +kernel, by decide +kernel⟩
abbrev s_Signs_matches : Stmt := inClass (topS 51) 5
abbrev n_Signs_matches : List Str := ["self", "key", "question", "number"]
theorem sc_Signs_matches : FnScope n_Signs_matches ["self", "key", "question"] (defScope s_Signs_matches) := ⟨rfl, rfl, rfl, by decide +kernel, rfl, by decide +kernel, by decide +kernel⟩
abbrev s_Signs_penalty : Stmt := inClass (topS 51) 6
abbrev n_Signs_penalty : List Str := ["self", "label", "key"]
theorem sc_Signs_penalty : FnScope n_Signs_penalty ["self", "label", "key"] (defScope s_Signs_penalty) := ⟨rfl, rfl, rfl, by decide +kernel, rfl, by decide +kernel, by decide +kernel⟩
abbrev s_Signs_sides : Stmt := inClass (topS 51) 7
abbrev n_Signs_sides : List Str := ["self", "labels", "__class__"]
theorem nsc_Signs_sides : NdefX.NScope n_Signs_sides ["self", "labels"] ["__class__"] (defScope s_Signs_sides) := NdefX.nscope_by (by decide +kernel)
abbrev s_common_rest : Stmt := topS 52
abbrev n_common_rest : List Str := ["one", "other", "modulus", "rest", "step"]
theorem sc_common_rest : FnScope n_common_rest ["one", "other"] (defScope s_common_rest) := ⟨rfl, rfl, rfl, by decide +kernel, rfl, by decide +kernel, by decide +kernel⟩
abbrev s_common_divisor : Stmt := topS 53
abbrev n_common_divisor : List Str := ["one", "other"]
theorem sc_common_divisor : FnScope n_common_divisor ["one", "other"] (defScope s_common_divisor) := ⟨rfl, rfl, rfl, by decide +kernel, rfl, by decide +kernel, by decide +kernel⟩
abbrev s_common_stem : Stmt := topS 54
abbrev n_common_stem : List Str := ["one", "other", "many", "longest"]
theorem sc_common_stem : FnScope n_common_stem ["one", "other"] (defScope s_common_stem) := ⟨rfl, rfl, rfl, by decide +kernel, rfl, by decide +kernel, by decide +kernel⟩
abbrev s_signs_of : Stmt := topS 55
abbrev n_signs_of : List Str := ["numbers", "bits", "signs", "number"]
theorem sc_signs_of : FnScope n_signs_of ["numbers", "bits"] (defScope s_signs_of) := ⟨rfl, rfl, rfl, by decide +kernel, rfl, by decide +kernel, by decide +kernel⟩
abbrev s_bits_in : Stmt := topS 56
abbrev n_bits_in : List Str := ["number", "at"]
theorem sc_bits_in : FnScope n_bits_in ["number"] (defScope s_bits_in) := ⟨rfl, rfl, rfl, by decide +kernel, rfl, by decide +kernel, by decide +kernel⟩
abbrev s_law_well : Stmt := topS 58
abbrev n_law_well : List Str := ["_law_cell"]
theorem sc_law_well : FnScope n_law_well ["_law_cell"] (defScope s_law_well) := ⟨rfl, rfl, rfl, by decide +kernel, rfl, by decide +kernel, by decide +kernel⟩
abbrev s_law_draw : Stmt := topS 59
abbrev n_law_draw : List Str := ["_law_well_here", "_law_many", "_law_digit", "_law_number", "_law_more"]
theorem sc_law_draw : FnScope n_law_draw ["_law_well_here", "_law_many"] (defScope s_law_draw) := ⟨rfl, rfl, rfl, by decide +kernel, rfl, by decide +kernel, by decide +kernel⟩
abbrev s_law_one : Stmt := topS 60
abbrev n_law_one : List Str := ["_law_well_here", "_law_some"]
theorem sc_law_one : FnScope n_law_one ["_law_well_here", "_law_some"] (defScope s_law_one) := ⟨rfl, rfl, rfl, by decide +kernel, rfl, by decide +kernel, by decide +kernel⟩
abbrev s_law_name_of : Stmt := topS 61
abbrev n_law_name_of : List Str := ["_law_ask", "e"]
theorem sc_law_name_of : FnScope n_law_name_of ["_law_ask"] (defScope s_law_name_of) := ⟨rfl, rfl, rfl, by decide +kernel, rfl, by decide +kernel, by decide +kernel⟩
abbrev s_law_halves : Stmt := topS 62
abbrev n_law_halves : List Str := ["_law_count", "_law_at"]
theorem sc_law_halves : FnScope n_law_halves ["_law_count"] (defScope s_law_halves) := ⟨rfl, rfl, rfl, by decide +kernel, rfl, by decide +kernel, by decide +kernel⟩
abbrev s_law_bare_right : Stmt := topS 63
abbrev n_law_bare_right : List Str := ["_law_well_here", "_law_count", "_law_names", "_law_base", "_law_far", "_law_made", "_law_k"]
theorem sc_law_bare_right : FnScope n_law_bare_right ["_law_well_here"] (defScope s_law_bare_right) := ⟨rfl, rfl, rfl, by decide +kernel, rfl, by decide +kernel, by decide +kernel⟩
abbrev s_law_calls_right : Stmt := topS 64
abbrev n_law_calls_right : List Str := ["_law_well_here", "_law_made", "_law_a", "_law_b", "_law_c", "_law_one_here"]
theorem sc_law_calls_right : FnScope n_law_calls_right ["_law_well_here"] (defScope s_law_calls_right) := ⟨rfl, rfl, rfl, by decide +kernel, rfl, by decide +kernel, by decide +kernel⟩
abbrev s_law_grids_right : Stmt := topS 65
abbrev n_law_grids_right : List Str := ["_law_well_here", "_law_plain", "_law_flags", "_law_x", "_law_y", "_law_asked", "_law_owned", "_law_made", "_law_found"]
theorem sc_law_grids_right : FnScope n_law_grids_right ["_law_well_here"] (defScope s_law_grids_right) := ⟨rfl, rfl, rfl, by decide +kernel, rfl, by decide +kernel, by decide +kernel⟩
abbrev s_law_counted_right : Stmt := topS 66
abbrev n_law_counted_right : List Str := ["_law_well_here", "_law_times", "_law_asked", "_law_single", "_law_k", "_law_names", "_law_odd", "_law_said", "e", "_law_bare"]
theorem sc_law_counted_right : FnScope n_law_counted_right ["_law_well_here"] (defScope s_law_counted_right) := ⟨rfl, rfl, rfl, by decide +kernel, rfl, by decide +kernel, by decide +kernel⟩
abbrev s_law_classes_right : Stmt := topS 67
abbrev n_law_classes_right : List Str := ["_law_ready", "_law_rest", "_law_made", "_law_one_here"]
theorem sc_law_classes_right : FnScope n_law_classes_right [] (defScope s_law_classes_right) := ⟨rfl, rfl, rfl, by decide +kernel, rfl, by decide +kernel, by decide +kernel⟩
abbrev s_law : Stmt := topS 68
abbrev n_law : List Str := ["_law_script", "_law_cell", "_law_well_here"]
theorem sc_law : FnScope n_law ["_law_script"] (defScope s_law) := ⟨rfl, rfl, rfl, by decide +kernel, rfl, by decide +kernel, by decide +kernel⟩
abbrev FnP (K : PySem.W.Frag) (x q : Str) (st : Stmt) (f : Addr) (fd : FuncData) : Prop := FunD K x q (defArgs st) (defBody st) (defScope st) [] [] f fd
section
variable {P : Program} {w : World} {K : PySem.W.Frag} {mg : Str → Option Value} {base : Heap}
/-- a number of draws to be divided by -/
structure Sz (m : Int) : Prop where
  lt : m.natAbs.log2 < 9000
theorem Sz.of {m : Int} {k : Nat} (h : m.natAbs < 2 ^ k) (hk : k ≤ 9000) : Sz m := by
  refine ⟨?_⟩
  cases k with
  | zero =>
    have : m.natAbs = 0 := by omega
    rw [this]
    decide
  | succ k => exact Nat.lt_of_lt_of_le (PySem.Flt.log2_lt_of (Nat.succ_pos k) h) hk
def spWell : Sp := fun vs H Q _ => ∃ i : Int, vs = [.int i] ∧ ∀ p, H p = none → Q (.ref p) (upd H p (.lst [.int i, .int 0]))
def spDraw : Sp := fun vs H Q _ => ∃ (a : Addr) (x c m : Int), vs = [.ref a, .int m] ∧ H a = some (.lst [.int x, .int c]) ∧ 0 < m ∧ Sz m ∧
  ∀ r x' c' : Int, 0 ≤ r → r < m → Q (.int r) (upd H a (.lst [.int x', .int c']))
theorem ok_well {f : Addr} {fd : FuncData} {k : Nat} (F : FnP K "_law_well" "_law_well" s_law_well f fd) (m_int : mg "int" = none) : FnOk P w K mg base CX0 (k + 1) f fd ["_law_cell"] spWell := by
  refine F.ok sc_law_well (fun vs H Q E h => ?_) (fun cdv A outer s H vs Q E hr h => ?_)
  · obtain ⟨i, rfl, _⟩ := h
    rfl
  · obtain ⟨i, rfl, q⟩ := h
    refine ⟨_, pss_one (ps_ret (pe_lst (pa_cons (pe_callTy call_int1 (by rfl) m_int boot_int (pa_cons (pv 0) pa_nil)) (pa_cons pe_int pa_nil)))), ?_⟩
    exact ⟨_, rfl, .inl ⟨i, rfl, ⟨by show 2 ≤ sizeLine; decide, fun p hp => q p hp⟩⟩⟩
theorem ok_draw {f : Addr} {fd : FuncData} {k : Nat} (F : FnP K "_law_draw" "_law_draw" s_law_draw f fd) (m_int : mg "int" = none) : FnOk P w K mg base CX0 (k + 1) f fd ["_law_well_here", "_law_many"] spDraw := by
  refine F.ok sc_law_draw (fun vs H Q E h => ?_) (fun cdv A outer s H vs Q E hr h => ?_)
  · obtain ⟨a, x, c, m, rfl, _⟩ := h
    rfl
  · obtain ⟨a, x, c, m, rfl, ha, m0, m1, q⟩ := h
    refine ⟨_, pss_cons (ps_if (pt_cmpR op_ge (pe_ix ix_list (pv 0) pe_int (fun _ _ => rfl)) (pe_op op_pow pe_int pe_int) (nomark _)) (pss_cons (ps_set (i := 2) sc_law_draw.nd rfl (.inl rfl) (pe_op op_mod (pe_callTy call_int1 (by rfl) m_int boot_int (pa_cons (pe_ix ix_list (pv 0) pe_int (fun _ _ => rfl)) pa_nil)) (pv 1)))
      (pss_cons (ps_asg (pe_op op_fdivW (pe_ix ix_list (pv 0) pe_int (fun _ _ => rfl)) (pv 1)) (pg_sub (pv 0) pe_int set_list))
      (pss_one (ps_ret (pv 2))))) (pss_nil))
    (pss_cons (ps_asg (pe_op op_add (pe_ix ix_list (pv 0) pe_int (fun _ _ => rfl)) pe_int) (pg_sub (pv 0) pe_int set_list))
    (pss_cons (ps_set (i := 3) sc_law_draw.nd rfl (.inl rfl) (pe_op op_mod (pe_callTy call_int1 (by rfl) m_int boot_int (pa_cons (pe_op op_mul (pe_callTy call_int1 (by rfl) m_int boot_int (pa_cons (pe_op op_add (pe_op op_add (pe_op op_mod (pe_callTy call_int1 (by rfl) m_int boot_int (pa_cons (pe_ix ix_list (pv 0) pe_int (fun _ _ => rfl)) pa_nil)) pe_int) (pe_op op_mul pe_int (pe_ix ix_list (pv 0) pe_int (fun _ _ => rfl)))) pe_int) pa_nil)) pe_int) pa_nil)) pe_int))
    (pss_cons (ps_set (i := 4) sc_law_draw.nd rfl (.inl rfl) (pe_op op_mod (pe_callTy call_int1 (by rfl) m_int boot_int (pa_cons (pe_op op_fdivW (pe_ix ix_list (pv 0) pe_int (fun _ _ => rfl)) pe_int) pa_nil)) pe_int))
    (pss_cons (ps_set (i := 3) sc_law_draw.nd rfl (.inl rfl) (pe_op op_mod (pe_callTy call_int1 (by rfl) m_int boot_int (pa_cons (pe_op op_mul (pv 3) (pe_op op_add (pe_op op_add (pe_op op_fdiv (pv 3) pe_int) pe_int) (pv 4))) pa_nil)) pe_int))
    (pss_one (ps_ret (pe_op op_mod (pe_callTy call_int1 (by rfl) m_int boot_int (pa_cons (pe_op op_fdiv (pe_op op_mod (pe_callTy call_int1 (by rfl) m_int boot_int (pa_cons (pe_op op_mul (pv 3) (pe_op op_add (pe_op op_fdiv (pv 3) pe_int) pe_int)) pa_nil)) pe_int) pe_int) pa_nil)) (pv 1)))))))), ?_⟩
    have hA : SqL K H a [.int x, .int c] := .inl (.inl ha)
    -- if well[0] >= 10 ** 18
    refine ⟨_, rfl, a, _, 0, _, rfl, rfl, hA, rfl, ?_⟩
    refine ⟨10, 18, rfl, rfl, ⟨by decide, by decide, by decide⟩, ?_⟩
    refine ⟨x, _, rfl, rfl, _, rfl, ite2 (fun big => ?_) (fun small => ?_)⟩
    · refine ⟨_, rfl, a, _, 0, _, rfl, rfl, hA, rfl, .inl ⟨x, rfl, _, rfl, x, m, rfl, rfl, m0, ?_⟩⟩
      refine ⟨_, rfl, a, _, 0, _, rfl, rfl, hA, rfl, _, rfl, x, m, rfl, rfl, ⟨m0, m1.lt⟩, ?_⟩
      refine ⟨_, rfl, a, _, 0, 0, rfl, rfl, ha, rfl, ?_⟩
      exact ⟨_, rfl, q (x % m) (x / m) c (Int.emod_nonneg _ (by omega)) (Int.emod_lt_of_pos _ m0)⟩
    · -- well[1] = well[1] + 1
      refine ⟨_, rfl, a, _, 1, _, rfl, rfl, hA, rfl, c, 1, rfl, rfl, _, rfl, a, _, 1, 1, rfl, rfl, ha, rfl, ?_⟩
      have hB : SqL K (upd H a (.lst [.int x, .int (c + 1)])) a [.int x, .int (c + 1)] := .inl (.inl upd_same)
      have e2 : upd H a (.lst ([V.int x, V.int c].set 1 (.int (c + 1)))) = upd H a (.lst [.int x, .int (c + 1)]) := rfl
      rw [e2]
      have k1 : (0 : Int) < 2147483629 := by decide
      refine ⟨_, rfl, a, _, 0, _, rfl, rfl, hB, rfl, .inl ⟨x, rfl, x, 2147483629, rfl, rfl, (by show (0 : Int) < 2147483629; decide), ?_⟩⟩
      refine ⟨_, rfl, a, _, 1, _, rfl, rfl, hB, rfl, 60013, c + 1, rfl, rfl, .inl (by decide), _, _, rfl, rfl, _, _, rfl, rfl, .inl ⟨_, rfl, ?_⟩⟩
      refine ⟨_, _, rfl, rfl, .inr (by decide), .inl ⟨_, rfl, _, _, rfl, rfl, (by show (0 : Int) < 2147483647; decide), ?_⟩⟩
      dsimp only
      generalize hn : ((x % 2147483629 + 60013 * (c + 1) + 11) * 48271) % 2147483647 = n
      have n0 : 0 ≤ n := by rw [← hn]; exact Int.emod_nonneg _ (by decide)
      have n1 : n < 2147483647 := by rw [← hn]; exact Int.emod_lt_of_pos _ (by decide)
      refine ⟨_, rfl, a, _, 0, _, rfl, rfl, hB, rfl, x, _, rfl, rfl, wide_div (b := 40) (by decide) (by decide) (by decide) (by decide), .inl ⟨_, rfl, _, _, rfl, rfl, (by show (0 : Int) < 9973; decide), ?_⟩⟩
      dsimp only
      generalize hz : (x / 2147483629) % 9973 = z
      refine ⟨_, rfl, _, rfl, _, _, rfl, rfl, ⟨by decide, by decide⟩, _, _, rfl, rfl, _, rfl, _, _, rfl, rfl, n, _, rfl, rfl, .inl ⟨by omega, by omega⟩, .inl ⟨_, rfl, _, _, rfl, rfl, (by show (0 : Int) < 2147483587; decide), ?_⟩⟩
      dsimp only
      generalize hg : (n * (n / 1013 + 40692 + z)) % 2147483587 = g
      have g0 : 0 ≤ g := by rw [← hg]; exact Int.emod_nonneg _ (by decide)
      have g1 : g < 2147483587 := by rw [← hg]; exact Int.emod_lt_of_pos _ (by decide)
      refine ⟨_, rfl, _, rfl, _, _, rfl, rfl, ⟨by decide, by decide⟩, _, _, rfl, rfl, g, _, rfl, rfl, .inl ⟨by omega, by omega⟩, .inl ⟨_, rfl, _, _, rfl, rfl, (by show (0 : Int) < 2147483563; decide), ?_⟩⟩
      refine ⟨_, _, rfl, rfl, ⟨by decide, by decide⟩, .inl ⟨_, rfl, _, rfl, _, m, rfl, rfl, m0, ?_⟩⟩
      exact q _ x (c + 1) (Int.emod_nonneg _ (by omega)) (Int.emod_lt_of_pos _ m0)
/-- one of a list's items -/
def spOne (K : PySem.W.Frag) : Sp := fun vs H Q _ => ∃ (a b : Addr) (x c : Int) (xs : List V), vs = [.ref a, .ref b] ∧ H a = some (.lst [.int x, .int c]) ∧ SqL K H b xs ∧ (∀ x' c' : Int, SqL K (upd H a (.lst [.int x', .int c'])) b xs) ∧ 0 < xs.length ∧ xs.length ≤ 1000 ∧
  ∀ (v : V) (x' c' : Int), v ∈ xs → Q v (upd H a (.lst [.int x', .int c']))
theorem ok_one {f : Addr} {fd : FuncData} {k : Nat} (F : FnP K "_law_one" "_law_one" s_law_one f fd) (C_draw : Cal P w K mg base CX0 "_law_draw" (k + 1) ["_law_well_here", "_law_many"] spDraw) (m_len : mg "len" = none) :
    FnOk P w K mg base CX0 (k + 1 + 1) f fd ["_law_well_here", "_law_some"] (spOne K) := by
  obtain ⟨f_law_draw, fd_law_draw, G_law_draw, b_law_draw, m_law_draw, k_law_draw⟩ := C_draw
  refine F.ok sc_law_one (fun vs H Q E h => ?_) (fun cdv A outer s H vs Q E hr h => ?_)
  · obtain ⟨a, b, x, c, xs, rfl, _⟩ := h
    rfl
  · obtain ⟨a, b, x, c, xs, rfl, ha, hb, hb', l0, l1, q⟩ := h
    refine ⟨_, pss_one (ps_ret (pe_ix ix_list (pv 1) (pe_call G_law_draw (hr.mono (by omega)) (by rfl) m_law_draw k_law_draw b_law_draw .nil pass0 (pa_cons (pv 0) (pa_cons (pe_callB call_len_seq (by rfl) m_len PySem.boot_len (pa_cons (pv 1) pa_nil)) pa_nil))) (fun _ _ => rfl))), ?_⟩
    refine ⟨_, rfl, _, rfl, _, rfl, b, xs, rfl, .inl hb, a, x, c, xs.length, rfl, ha, by omega, .of (k := 10) (by show (xs.length : Int).natAbs < 1024; omega) (by decide), fun r x' c' r0 r1 => ?_⟩
    obtain ⟨i, rfl⟩ := Int.eq_ofNat_of_zero_le r0
    have hi : i < xs.length := by omega
    exact ⟨b, xs, _, xs[i], rfl, rfl, hb' x' c', atI_nat (List.getElem?_eq_getElem hi), q _ x' c' (List.getElem_mem hi)⟩

end
end K10
set_option Elab.async false
set_option linter.all false
set_option maxRecDepth 100000
set_option maxHeartbeats 2000000
namespace K10
open PySem PySem.Spec PyProof.Rows L2 CM DN GR SRT RZ
section
variable {P : Program} {w : World} {K : PySem.W.Frag} {mg : Str → Option Value} {base : Heap}
/-! ### values -/
def spInt (K : PySem.W.Frag) : Sp := fun vs H Q _ => ∃ (v : V) (t : Value) (bi bb : Bool), vs = [v] ∧ TyX K H v t ∧ PySem.W.kitOne K t (.type "int") = some bi ∧ (bi = true → PySem.W.kitOne K t (.type "bool") = some bb) ∧ Q (.bl (bi && !bb)) H
theorem ok_int {f : Addr} {fd : FuncData} {k : Nat} (F : FnP K "is_int" "is_int" s_is_int f fd) (m_isinstance : mg "isinstance" = none) (m_int : mg "int" = none) (m_bool : mg "bool" = none) : FnOk P w K mg base CX0 (k + 1) f fd ["thing"] (spInt K) := by
  refine F.ok sc_is_int (fun vs H Q E h => ?_) (fun cdv A outer s H vs Q E hr h => ?_)
  · obtain ⟨v, t, bi, bb, rfl, _⟩ := h
    rfl
  · obtain ⟨v, t, bi, bb, rfl, ty, ki, kb, q⟩ := h
    refine ⟨_, pss_one (ps_ret (pe_and (pe_callB call_isi (by rfl) m_isinstance (by decide +kernel) (pa_cons (pv 0) (pa_cons (pe_bltn (v := .ty "int") (by rfl) m_int (by decide +kernel) rfl) pa_nil))) (pe_one (pe_not (pe_callB call_isi (by rfl) m_isinstance (by decide +kernel) (pa_cons (pv 0) (pa_cons (pe_bltn (v := .ty "bool") (by rfl) m_bool (by decide +kernel) rfl) pa_nil))))))), ?_⟩
    refine ⟨_, rfl, v, _, t, _, bi, rfl, .ty _, ty, ki, bi, rfl, ite2 (fun e => ?_) (fun e => ?_)⟩
    · subst e
      exact ⟨_, rfl, v, _, t, _, bb, rfl, .ty _, ty, kb rfl, bb, rfl, q⟩
    · have e2 : bi = false := by simpa using e
      subst e2
      exact q
/-- what isinstance says of a leaf, of an odd thing, of a tuple -/
theorem odd_kinds {H : Hp} {v : V} (h : Odd K H v) : v ≠ .non ∧ ∃ (t : Value) (bi bb : Bool), TyX K H v t ∧ PySem.W.kitOne K t (.type "str") = some false ∧ PySem.W.kitOne K t (.type "int") = some bi ∧ (bi = true → PySem.W.kitOne K t (.type "bool") = some bb) ∧ (bi && !bb) = false ∧
    PySem.W.kitOne K t (.type "tuple") = some false := by
  rcases h with ⟨b, rfl⟩ | ⟨a, xs, rfl, h⟩ | ⟨a, kvs, rfl, h⟩ | ⟨a, C, dx, fs, rfl, h, k⟩
  · exact ⟨(fun z => by cases z), _, true, true, .base (.bl b), kit_bb (by decide +kernel), kit_bb (by decide +kernel), fun _ => kit_bb (by decide +kernel), rfl, kit_bb (by decide +kernel)⟩
  · exact ⟨(fun z => by cases z), _, false, false, .base (.lst h), kit_bb (by decide +kernel), kit_bb (by decide +kernel), (fun z => by cases z), rfl, kit_bb (by decide +kernel)⟩
  · exact ⟨(fun z => by cases z), _, false, false, .base (.dK h), kit_bb (by decide +kernel), kit_bb (by decide +kernel), (fun z => by cases z), rfl, kit_bb (by decide +kernel)⟩
  · exact ⟨(fun z => by cases z), _, false, false, .base (.ins h k.cl k.ca k.gs k.tk k.mr), k.ks, k.ki, (fun z => by cases z), rfl, k.kt⟩
/-- is_plain_within(thing, d), d below n -/
def spW (K : PySem.W.Frag) (n : Nat) : Sp := fun vs H Q _ => ∃ (v : V) (d : Nat) (b : Bool), vs = [v, .int d] ∧ d < n ∧ PN K H d v b ∧ Q (.bl b) H
theorem ok_within {f : Addr} {fd : FuncData} (F : FnP K "is_plain_within" "is_plain_within" s_is_plain_within f fd) (m_isinstance : mg "isinstance" = none) (m_str : mg "str" = none) (m_tuple : mg "tuple" = none) (m_len : mg "len" = none)
    (C_is_int : Cal P w K mg base CX0 "is_int" 1 ["thing"] (spInt K)) (b_is_plain_within : Binds K fd ["thing", "deepest"] []) (m_is_plain_within : mg "is_plain_within" = some (.ref f)) (k_is_plain_within : PySem.W.keepIn K (.ref f) = true) :
    ∀ n : Nat, FnOk P w K mg base CX0 (n + 1) f fd ["thing", "deepest"] (spW K n)
  | 0 => ⟨fun vs H Q E ⟨_, _, _, _, h, _⟩ => absurd h (Nat.not_lt_zero _), fun A outer s H args us vs Q E _ _ _ _ ⟨_, _, _, _, h, _⟩ => absurd h (Nat.not_lt_zero _)⟩
  | n + 1 => by
    have G_is_plain_within := ok_within F m_isinstance m_str m_tuple m_len C_is_int b_is_plain_within m_is_plain_within k_is_plain_within n
    obtain ⟨f_is_int, fd_is_int, G_is_int, b_is_int, m_is_int, k_is_int⟩ := C_is_int
    refine F.ok sc_is_plain_within (fun vs H Q E h => ?_) (fun cdv A outer s H vs Q E hr h => ?_)
    · obtain ⟨v, d, b, rfl, _⟩ := h
      rfl
    · obtain ⟨v, d, b, rfl, hd, pn, q⟩ := h
      refine ⟨_, PSs.nox (pss_cons (ps_if (PW.pt (pw_or (pt_cmp (pc_isN (pv 0))) (pw_or (pt_val (pe_callB call_isi (by rfl) m_isinstance (by decide +kernel) (pa_cons (pv 0) (pa_cons (pe_bltn (v := .ty "str") (by rfl) m_str (by decide +kernel) rfl) pa_nil)))) (pw_or1 (pt_val (pe_call G_is_int (hr.mono (by omega)) (by rfl) m_is_int k_is_int b_is_int .nil pass0 (pa_cons (pv 0) pa_nil))))))) (pss_one (ps_ret pe_bl)) (pss_nil))
    (pss_cons (ps_if (pt_not (pt_val (pe_callB call_isi (by rfl) m_isinstance (by decide +kernel) (pa_cons (pv 0) (pa_cons (pe_bltn (v := .ty "tuple") (by rfl) m_tuple (by decide +kernel) rfl) pa_nil))))) (pss_one (ps_ret pe_bl)) (pss_nil))
    (pss_cons (ps_if (pt_cmpR op_eq (pv 1) pe_int (nomark _)) (pss_one (ps_ret (pe_cmpR op_eq (pe_callB call_len_seq (by rfl) m_len PySem.boot_len (pa_cons (pv 0) pa_nil)) pe_int (nomark _)))) (pss_nil))
    (pss_cons (ps_for PassesOwn.never rfl (pi_tup (pv 0)) (pg_name (i := 2) sc_is_plain_within.nd rfl (.inl rfl))
      (pss_one (ps_if (pt_not (pt_val (pe_call G_is_plain_within (hr.mono (by omega)) (by rfl) m_is_plain_within k_is_plain_within b_is_plain_within .nil pass0 (pa_cons (pv 2) (pa_cons (pe_op op_sub (pv 1) pe_int) pa_nil))))) (pss_one (ps_ret pe_bl)) (pss_nil))))
    (pss_one (ps_ret pe_bl)))))), ?_⟩
      have hk : (leafB v = true ∧ b = true) ∨ (Odd K H v ∧ b = false) ∨ ∃ a xs, v = .ref a ∧ H a = some (.tup xs) ∧ (d = 0 → b = xs.isEmpty) ∧ (∀ e, d = e + 1 → (b = true ∧ ∀ x ∈ xs, PN K H e x true) ∨ (b = false ∧ ∃ (i : Nat) (x : V), xs[i]? = some x ∧ PN K H e x false ∧ ∀ (j : Nat) (y : V), j < i → xs[j]? = some y → PN K H e y true)) := by
        cases d with
        | zero =>
          rcases pn with h | h | ⟨a, xs, e1, e2, e3⟩
          · exact .inl h
          · exact .inr (.inl h)
          · exact .inr (.inr ⟨a, xs, e1, e2, fun _ => e3, fun e z => by cases z⟩)
        | succ d =>
          rcases pn with h | h | ⟨a, xs, e1, e2, e3⟩
          · exact .inl h
          · exact .inr (.inl h)
          · exact .inr (.inr ⟨a, xs, e1, e2, (fun z => by cases z), fun e z => by cases z; exact e3⟩)
      rcases hk with ⟨hv, rfl⟩ | ⟨ho, rfl⟩ | ⟨a, xs, rfl, ha, h0, h1⟩
      · cases v with
        | non =>
          refine ⟨_, rfl, _, rfl, iteT (iteT ?_)⟩
          exact q
        | str z =>
          refine ⟨_, rfl, _, rfl, iteF ⟨_, rfl, .str z, _, _, _, true, rfl, .ty _, .base (.str z), kit_bb (by decide +kernel), true, rfl, iteT (iteT ?_)⟩⟩
          exact q
        | int z =>
          refine ⟨_, rfl, _, rfl, iteF ⟨_, rfl, .int z, _, _, _, false, rfl, .ty _, .base (.int z), kit_bb (by decide +kernel), false, rfl, iteF ?_⟩⟩
          refine ⟨_, rfl, .int z, _, true, false, rfl, .base (.int z), kit_bb (by decide +kernel), fun _ => kit_bb (by decide +kernel), _, rfl, iteT ?_⟩
          exact q
        | _ => cases hv
      · obtain ⟨hn, t, bi, bb, ty, ks, ki, kb, e0, kt⟩ := odd_kinds ho
        have en : decide (v = V.non) = false := decide_eq_false hn
        refine ⟨v, rfl, decide (v = V.non), rfl, ?_⟩
        rw [en]
        refine iteF ⟨_, rfl, v, _, t, _, false, rfl, .ty _, ty, ks, false, rfl, iteF ?_⟩
        refine ⟨_, rfl, v, t, bi, bb, rfl, ty, ki, kb, _, rfl, ?_⟩
        rw [e0]
        refine iteF ⟨_, rfl, v, _, t, _, false, rfl, .ty _, ty, kt, false, rfl, iteT ?_⟩
        exact q
      · have ty : TyX K H (.ref a) (.type "tuple") := .base (.tup ha)
        refine ⟨_, rfl, _, rfl, iteF ⟨_, rfl, .ref a, _, _, _, false, rfl, .ty _, ty, kit_bb (by decide +kernel), false, rfl, iteF ?_⟩⟩
        refine ⟨_, rfl, .ref a, _, false, false, rfl, ty, kit_bb (by decide +kernel), (fun z => by cases z), _, rfl, iteF ?_⟩
        refine ⟨_, rfl, .ref a, _, _, _, true, rfl, .ty _, ty, kit_bb (by decide +kernel), true, rfl, iteF ?_⟩
        -- deepest == 0
        refine ⟨_, rfl, rfl, _, rfl, ite2 (fun e => ?_) (fun e => ?_)⟩
        · have d0 : d = 0 := by
            have z := V.int.inj (of_decide_eq_true e)
            omega
          refine ⟨_, rfl, a, xs, rfl, .inr (.inl (.inl ha)), rfl, ?_⟩
          have eb := h0 d0
          have e2 : decide (V.int (xs.length : Int) = V.int 0) = b := by
            rw [eb]
            cases xs with
            | nil => rfl
            | cons x r =>
              refine decide_eq_false fun z => ?_
              have z2 := V.int.inj z
              rw [List.length_cons] at z2
              omega
          rw [e2]
          exact q
        · obtain ⟨e', rfl⟩ : ∃ e', d = e' + 1 := by
            cases d with
            | zero => exact absurd (decide_eq_true rfl) e
            | succ m => exact ⟨m, rfl⟩
          have hm := h1 e' rfl
          have earg : ∀ x : V, [x, V.int (((e' + 1 : Nat) : Int) - 1)] = [x, V.int (e' : Int)] := fun x => by
            rw [show ((e' + 1 : Nat) : Int) - 1 = (e' : Int) by omega]
          rcases hm with ⟨rfl, hall⟩ | ⟨rfl, i0, x0, hx0, k0, kt⟩
          · refine ⟨_, rfl, a, rfl, ⟨xs, .inl (.inl ha)⟩, for_tup (K := K) (a := a) (xs := xs) (fun i σ H' => H' = H ∧ ∃ v2, σ = [some (.ref a), some (.int ((e' + 1 : Nat) : Int)), v2])
              ⟨rfl, none, rfl⟩ (fun i σ H' _ ⟨z, _⟩ => by rw [z]; exact .inl (.inl ha)) ?_ ?_⟩
            · rintro i x σ H' hx ⟨rfl, v2, rfl⟩
              refine ⟨_, rfl, _, rfl, _, 1, rfl, rfl, x, e', true, earg _, by omega, hall x (List.mem_of_getElem? hx), true, rfl, iteF ?_⟩
              exact ⟨rfl, _, rfl⟩
            · rintro σ H' ⟨rfl, v2, rfl⟩
              exact q
          · have hi0 := (List.getElem?_eq_some_iff.mp hx0).1
            refine ⟨_, rfl, a, rfl, ⟨xs, .inl (.inl ha)⟩, for_tup (K := K) (a := a) (xs := xs) (fun i σ H' => i ≤ i0 ∧ H' = H ∧ ∃ v2, σ = [some (.ref a), some (.int ((e' + 1 : Nat) : Int)), v2])
              ⟨Nat.zero_le _, rfl, none, rfl⟩ (fun i σ H' _ ⟨_, z, _⟩ => by rw [z]; exact .inl (.inl ha)) ?_ ?_⟩
            · rintro i x σ H' hx ⟨hi, rfl, v2, rfl⟩
              by_cases hlt : i < i0
              · refine ⟨_, rfl, _, rfl, _, 1, rfl, rfl, x, e', true, earg _, by omega, kt i x hlt hx, true, rfl, iteF ?_⟩
                exact ⟨hlt, rfl, _, rfl⟩
              · obtain rfl : i = i0 := by omega
                rw [hx0] at hx
                cases hx
                refine ⟨_, rfl, _, rfl, _, 1, rfl, rfl, _, e', false, earg _, by omega, k0, false, rfl, iteT ?_⟩
                exact q
            · rintro σ H' ⟨hi, _⟩
              exact absurd hi0 (by omega)
def spPlain (K : PySem.W.Frag) : Sp := fun vs H Q _ => ∃ (v : V) (b : Bool), vs = [v] ∧ PN K H 4 v b ∧ Q (.bl b) H
theorem ok_plain {f : Addr} {fd : FuncData} {k : Nat} {t : Tok} (F : FnP K "is_plain" "is_plain" s_is_plain f fd) (m_DEEPEST : mg "DEEPEST" = some (.int 4 t)) (C_w : Cal P w K mg base CX0 "is_plain_within" k ["thing", "deepest"] (spW K 5)) :
    FnOk P w K mg base CX0 (k + 1) f fd ["thing"] (spPlain K) := by
  obtain ⟨f_is_plain_within, fd_is_plain_within, G_is_plain_within, b_is_plain_within, m_is_plain_within, k_is_plain_within⟩ := C_w
  refine F.ok sc_is_plain (fun vs H Q E h => ?_) (fun cdv A outer s H vs Q E hr h => ?_)
  · obtain ⟨v, b, rfl, _⟩ := h
    rfl
  · obtain ⟨v, b, rfl, pn, q⟩ := h
    refine ⟨_, pss_one (ps_ret (pe_call G_is_plain_within (hr.mono (by omega)) (by rfl) m_is_plain_within k_is_plain_within b_is_plain_within .nil pass0 (pa_cons (pv 0) (pa_cons (pe_glob (v := .int 4) (by rfl) m_DEEPEST ⟨_, rfl⟩) pa_nil)))), ?_⟩
    exact ⟨_, rfl, v, 4, b, rfl, by decide, pn, q⟩
def spFlag (K : PySem.W.Frag) : Sp := fun vs H Q _ => ∃ (v : V) (t : Value) (bb : Bool), vs = [v] ∧ TyX K H v t ∧ PySem.W.kitOne K t (.type "bool") = some bb ∧ Q (.bl bb) H
theorem ok_flag {f : Addr} {fd : FuncData} {k : Nat} (F : FnP K "is_flag" "is_flag" s_is_flag f fd) (m_isinstance : mg "isinstance" = none) (m_bool : mg "bool" = none) : FnOk P w K mg base CX0 (k + 1) f fd ["thing"] (spFlag K) := by
  refine F.ok sc_is_flag (fun vs H Q E h => ?_) (fun cdv A outer s H vs Q E hr h => ?_)
  · obtain ⟨v, t, bb, rfl, _⟩ := h
    rfl
  · obtain ⟨v, t, bb, rfl, ty, kb, q⟩ := h
    refine ⟨_, pss_one (ps_ret (pe_callB call_isi (by rfl) m_isinstance (by decide +kernel) (pa_cons (pv 0) (pa_cons (pe_bltn (v := .ty "bool") (by rfl) m_bool (by decide +kernel) rfl) pa_nil)))), ?_⟩
    exact ⟨_, rfl, v, _, t, _, bb, rfl, .ty _, ty, kb, q⟩
end
end K10
set_option Elab.async false
set_option linter.all false
set_option maxRecDepth 100000
set_option maxHeartbeats 2000000
namespace K10
open PySem PySem.Spec PyProof.Rows L2 CM DN GR SRT RZ
section
variable {P : Program} {w : World} {K : PySem.W.Frag} {mg : Str → Option Value} {base : Heap}
/-! ### places -/
def spChk : Sp := fun vs H Q _ => ∃ (p : Addr) (k : NK), vs = [.ref p] ∧ Plc H p k ∧ Q (.ref p) H
theorem ok_chk {f : Addr} {fd : FuncData} {k : Nat} (F : FnP K "checked_place" "checked_place" s_checked_place f fd) (m_isinstance : mg "isinstance" = none) (m_tuple : mg "tuple" = none) (m_len : mg "len" = none) (C_plain : Cal P w K mg base CX0 "is_plain" k ["thing"] (spPlain K)) :
    FnOk P w K mg base CX0 (k + 1) f fd ["thing"] spChk := by
  obtain ⟨f_is_plain, fd_is_plain, G_is_plain, b_is_plain, m_is_plain, k_is_plain⟩ := C_plain
  refine F.ok sc_checked_place (fun vs H Q E h => ?_) (fun cdv A outer s H vs Q E hr h => ?_)
  · obtain ⟨p, kk, rfl, _⟩ := h
    rfl
  · obtain ⟨p, kk, rfl, hp, q⟩ := h
    refine ⟨_, PSs.nox (pss_cons (ps_if (PW.pt (pw_or (pt_not (pt_val (pe_callB call_isi (by rfl) m_isinstance (by decide +kernel) (pa_cons (pv 0) (pa_cons (pe_bltn (v := .ty "tuple") (by rfl) m_tuple (by decide +kernel) rfl) pa_nil))))) (pw_or1 (pt_cmpR op_ne (pe_callB call_len_seq (by rfl) m_len PySem.boot_len (pa_cons (pv 0) pa_nil)) pe_int (nomark _))))) (pss_one (ps_never)) (pss_nil))
    (pss_cons (ps_for PassesOwn.never rfl (pi_tup (pv 0)) (pg_name (i := 1) sc_checked_place.nd rfl (.inl rfl))
      (pss_one (ps_if (pt_not (pt_val (pe_call G_is_plain (hr.mono (by omega)) (by rfl) m_is_plain k_is_plain b_is_plain .nil pass0 (pa_cons (pv 1) pa_nil)))) (pss_one (ps_never)) (pss_nil))))
    (pss_one (ps_ret (pv 0))))), ?_⟩
    obtain ⟨v1, v2, k1, k2, e, h1, h2, _⟩ := hp.ex
    have ty : TyX K H (.ref p) (.type "tuple") := .base (.tup e)
    refine ⟨_, rfl, .ref p, _, _, _, true, rfl, .ty _, ty, kit_bb (by decide +kernel), true, rfl, iteF ?_⟩
    refine ⟨_, rfl, p, _, rfl, .inr (.inl (.inl e)), rfl, _, rfl, iteF ?_⟩
    refine ⟨_, rfl, p, rfl, ⟨_, .inl (.inl e)⟩, for_tup (K := K) (a := p) (xs := [v1, v2]) (fun i σ H' => H' = H ∧ ∃ v1 : Option V, σ = [some (.ref p), v1]) ⟨rfl, none, rfl⟩ (fun i σ H' _ ⟨z, _⟩ => by rw [z]; exact .inl (.inl e)) ?_ ?_⟩
    · rintro i x σ H' hx ⟨rfl, v1', rfl⟩
      have px : PN K H' 4 x true := by
        rcases List.mem_cons.mp (List.mem_of_getElem? hx) with rfl | hx
        · exact h1.pn
        · rw [List.mem_singleton.mp hx]
          exact h2.pn
      exact ⟨_, rfl, x, true, rfl, px, true, rfl, iteF ⟨rfl, _, rfl⟩⟩
    · rintro σ H' ⟨rfl, v1', rfl⟩
      exact ⟨_, rfl, q⟩
/-- a thing that is no place -/
def NoPl (K : PySem.W.Frag) (H : Hp) (v : V) : Prop := (∃ t, TyX K H v t ∧ PySem.W.kitOne K t (.type "tuple") = some false) ∨ ∃ a xs, v = .ref a ∧ H a = some (.tup xs) ∧ (xs.length ≠ 2 ∨ ∃ x y, xs = [x, y] ∧ (PN K H 4 x false ∨ (PN K H 4 x true ∧ PN K H 4 y false)))
def spPlace (K : PySem.W.Frag) : Sp := fun vs H Q _ => ∃ v : V, vs = [v] ∧ ((NoPl K H v ∧ Q (.bl false) H) ∨ ∃ p k, v = .ref p ∧ Plc H p k ∧ Q (.bl true) H)
theorem ok_place {f : Addr} {fd : FuncData} {k : Nat} (F : FnP K "is_place" "is_place" s_is_place f fd) (m_isinstance : mg "isinstance" = none) (m_tuple : mg "tuple" = none) (m_len : mg "len" = none) (C_plain : Cal P w K mg base CX0 "is_plain" k ["thing"] (spPlain K)) :
    FnOk P w K mg base CX0 (k + 1) f fd ["thing"] (spPlace K) := by
  obtain ⟨f_is_plain, fd_is_plain, G_is_plain, b_is_plain, m_is_plain, k_is_plain⟩ := C_plain
  refine F.ok sc_is_place (fun vs H Q E h => ?_) (fun cdv A outer s H vs Q E hr h => ?_)
  · obtain ⟨v, rfl, _⟩ := h
    rfl
  · obtain ⟨v, rfl, q⟩ := h
    refine ⟨_, pss_one (ps_ret (pe_and (pe_callB call_isi (by rfl) m_isinstance (by decide +kernel) (pa_cons (pv 0) (pa_cons (pe_bltn (v := .ty "tuple") (by rfl) m_tuple (by decide +kernel) rfl) pa_nil))) (pe_and (pe_cmpR op_eq (pe_callB call_len_seq (by rfl) m_len PySem.boot_len (pa_cons (pv 0) pa_nil)) pe_int (nomark _)) (pe_and (pe_call G_is_plain (hr.mono (by omega)) (by rfl) m_is_plain k_is_plain b_is_plain .nil pass0 (pa_cons (pe_ix ix_tup (pv 0) pe_int (fun _ _ => rfl)) pa_nil)) (pe_one (pe_call G_is_plain (hr.mono (by omega)) (by rfl) m_is_plain k_is_plain b_is_plain .nil pass0 (pa_cons (pe_ix ix_tup (pv 0) pe_int (fun _ _ => rfl)) pa_nil))))))), ?_⟩
    have isT : ∀ {a : Addr} {xs : List V}, H a = some (.tup xs) → TyX K H (.ref a) (.type "tuple") := fun e => .base (.tup e)
    have at0 : ∀ {x y : V}, atI [x, y] 0 = some x := fun {x y} => rfl
    have at1 : ∀ {x y : V}, atI [x, y] 1 = some y := fun {x y} => rfl
    rcases q with ⟨np, q⟩ | ⟨p, kk, rfl, hp, q⟩
    · rcases np with ⟨t, ty, kt⟩ | ⟨a, xs, rfl, ha, np⟩
      · refine ⟨_, rfl, v, _, t, _, false, rfl, .ty _, ty, kt, false, rfl, iteF ?_⟩
        exact q
      · refine ⟨_, rfl, .ref a, _, _, _, true, rfl, .ty _, isT ha, kit_bb (by decide +kernel), true, rfl, iteT ?_⟩
        refine ⟨_, rfl, a, xs, rfl, .inr (.inl (.inl ha)), rfl, _, rfl, ?_⟩
        rcases np with hl | ⟨x, y, rfl, np⟩
        · have e2 : decide (V.int (xs.length : Int) = V.int 2) = false := decide_eq_false fun z => hl (by have := V.int.inj z; omega)
          rw [e2]
          exact iteF q
        · refine iteT ?_
          rcases np with h1 | ⟨h1, h2⟩
          · exact ⟨_, rfl, a, _, 0, x, rfl, rfl, .inl (.inl ha), at0, x, false, rfl, h1, false, rfl, iteF q⟩
          · exact ⟨_, rfl, a, _, 0, x, rfl, rfl, .inl (.inl ha), at0, x, true, rfl, h1, true, rfl, iteT ⟨_, rfl, a, _, 1, y, rfl, rfl, .inl (.inl ha), at1, y, false, rfl, h2, q⟩⟩
    · obtain ⟨v1, v2, k1, k2, e, h1, h2, _⟩ := hp.ex
      refine ⟨_, rfl, .ref p, _, _, _, true, rfl, .ty _, isT e, kit_bb (by decide +kernel), true, rfl, iteT ?_⟩
      refine ⟨_, rfl, p, _, rfl, .inr (.inl (.inl e)), rfl, _, rfl, iteT ?_⟩
      exact ⟨_, rfl, p, _, 0, v1, rfl, rfl, .inl (.inl e), at0, v1, true, rfl, h1.pn, true, rfl, iteT ⟨_, rfl, p, _, 1, v2, rfl, rfl, .inl (.inl e), at1, v2, true, rfl, h2.pn, q⟩⟩
end
end K10
set_option Elab.async false
set_option linter.all false
set_option maxRecDepth 100000
set_option maxHeartbeats 2000000
namespace K10
open PySem PySem.Spec PyProof.Rows L2 CM DN GR SRT RZ
section
variable {P : Program} {w : World} {K : PySem.W.Frag} {mg : Str → Option Value} {base : Heap}
/-! ### the class -/
structure GCls (K : PySem.W.Frag) (C : Addr) : Prop where
  cl : Cls K C
  nd : NoAttr K C "default"
  ne : NoAttr K C "entries"
/-- Grid(default) -/
def spInit (P : Program) (w : World) (C : Addr) : Sp := fun vs H Q _ => ∃ (p dx : Addr) (fl : Bool) (v : V) (d : PyData), vs = [.ref p, v] ∧ H p = some (.ins C dx []) ∧ Wr H fl v d ∧
  ∀ (H' : Hp) (e : Addr), H e = none → e ≠ p → (∀ b o, b ≠ p → H b = some o → H' b = some o) → Gd P w C H' p v e [] → Q .non H'
abbrev FunG (K : PySem.W.Frag) (f : Addr) (fd : FuncData) : Prop := FunD K "__init__" "Grid.__init__" (defArgs s_Grid___init) (defBody s_Grid___init) (defScope s_Grid___init) [V.bl false] [] f fd
theorem ok_ginit {C CF f : Addr} {fd : FuncData} {k : Nat} (F : FunG K f fd) (m_isinstance : mg "isinstance" = none) (m_Filling : mg "Filling" = some (.ref CF)) (kF : ∀ T ∈ ["bool", "NoneType", "int", "str", "tuple"], PySem.W.kitOne K (.type T) (.ref CF) = some false)
    (gc : GCls K C) (C_flag : Cal P w K mg base CX0 "is_flag" (k + 1) ["thing"] (spFlag K)) (C_plain : Cal P w K mg base CX0 "is_plain" (k + 1) ["thing"] (spPlain K)) :
    FnOk P w K mg base CX0 (k + 2) f fd ["self", "default"] (spInit P w C) := by
  obtain ⟨f_is_flag, fd_is_flag, G_is_flag, b_is_flag, m_is_flag, k_is_flag⟩ := C_flag
  obtain ⟨f_is_plain, fd_is_plain, G_is_plain, b_is_plain, m_is_plain, k_is_plain⟩ := C_plain
  refine F.ok sc_Grid___init (fun vs H Q E h => ?_) (fun cdv A outer s H vs Q E hr h => ?_)
  · obtain ⟨p, dx, fl, v, d, rfl, _⟩ := h
    rfl
  · obtain ⟨p, dx, fl, v, d, rfl, hp, wr, q⟩ := h
    refine ⟨_, PSs.nox (pss_one (ps_if (pt_val (pe_callB call_isi (by rfl) m_isinstance (by decide +kernel) (pa_cons (pv 1) (pa_cons (pe_gref (by rfl) m_Filling) pa_nil)))) (pss_cons (ps_fld (pv 0) (pe_fld (pv 1) rfl) rfl)
      (pss_one (ps_fld (pv 0) (pe_fld (pv 1) rfl) rfl))) (pss_one (ps_if (PW.pt (pw_or (pt_val (pe_call G_is_flag (hr.mono (by omega)) (by rfl) m_is_flag k_is_flag b_is_flag .nil pass0 (pa_cons (pv 1) pa_nil))) (pw_or1 (pt_val (pe_call G_is_plain (hr.mono (by omega)) (by rfl) m_is_plain k_is_plain b_is_plain .nil pass0 (pa_cons (pv 1) pa_nil)))))) (pss_cons (ps_fld (pv 0) (pv 1) rfl)
        (pss_one (ps_fld (pv 0) DN.pe_dnewN rfl))) (pss_one (ps_never)))))), ?_⟩
    have ty := shw_ty (K := K) wr.shw.1
    refine ⟨_, rfl, v, _, _, _, false, rfl, .own CF, ty, kF _ wr.tyIn, false, rfl, iteF ?_⟩
    have wb := wr.bool (K := K)
    cases fl with
    | true =>
      refine ⟨_, rfl, v, _, true, rfl, ty, wb, true, rfl, iteT (iteT ?_)⟩
      refine ⟨_, rfl, _, rfl, p, C, dx, [], rfl, hp, gc.cl, gc.nd, by decide, fun d' hd => ?_⟩
      have np : p ≠ d' := ne_of_none (upd_same : upd H p (.ins C dx (putF "default" v [])) p = _) hd
      have hd0 : H d' = none := by
        rw [upd_ne (Ne.symm np)] at hd
        exact hd
      refine ⟨_, rfl, p, C, dx, [("default", v)], rfl, (by rw [upd_ne np]; exact upd_same), gc.cl, gc.ne, (show (1 : Nat) < 1000 by decide), q _ d' hd0 (Ne.symm np) (fun b o n e => ?_) ⟨⟨dx, upd_same⟩, ?_⟩⟩
      · rw [upd_ne n]
        have e2 : upd H p (.ins C dx (putF "default" v [])) b = some o := by rw [upd_ne n]; exact e
        rw [upd_ne (ne_of_none e2 hd)]
        exact e2
      · exact ⟨by rw [upd_ne (Ne.symm np)]; exact upd_same, fun x hx => by cases hx⟩
    | false =>
      obtain ⟨kk, hpl, hdd⟩ := wr
      refine ⟨_, rfl, v, _, false, rfl, ty, wb, false, rfl, iteF ⟨_, rfl, v, true, rfl, hpl.pn, true, rfl, iteT ?_⟩⟩
      refine ⟨_, rfl, _, rfl, p, C, dx, [], rfl, hp, gc.cl, gc.nd, by decide, fun d' hd => ?_⟩
      have np : p ≠ d' := ne_of_none (upd_same : upd H p (.ins C dx (putF "default" v [])) p = _) hd
      have hd0 : H d' = none := by
        rw [upd_ne (Ne.symm np)] at hd
        exact hd
      refine ⟨_, rfl, p, C, dx, [("default", v)], rfl, (by rw [upd_ne np]; exact upd_same), gc.cl, gc.ne, (show (1 : Nat) < 1000 by decide), q _ d' hd0 (Ne.symm np) (fun b o n e => ?_) ⟨⟨dx, upd_same⟩, ?_⟩⟩
      · rw [upd_ne n]
        have e2 : upd H p (.ins C dx (putF "default" v [])) b = some o := by rw [upd_ne n]; exact e
        rw [upd_ne (ne_of_none e2 hd)]
        exact e2
      · exact ⟨by rw [upd_ne (Ne.symm np)]; exact upd_same, fun x hx => by cases hx⟩
/-- grid[place] -/
def spGet (P : Program) (w : World) (C : Addr) : Sp := fun vs H Q _ => ∃ (g p e : Addr) (k : NK) (v : V) (xs : List Ent), vs = [.ref g, .ref p] ∧ Gd P w C H g v e xs ∧ Plc H p k ∧ Q ((at_ xs k).getD v) H
theorem ok_get {C f : Addr} {fd : FuncData} {k : Nat} (F : FnP K "__getitem__" "Grid.__getitem__" s_Grid___getitem f fd) (gc : GCls K C) (C_chk : Cal P w K mg base CX0 "checked_place" k ["thing"] spChk) : FnOk P w K mg base CX0 (k + 1) f fd ["self", "at"] (spGet P w C) := by
  obtain ⟨f_checked_place, fd_checked_place, G_checked_place, b_checked_place, m_checked_place, k_checked_place⟩ := C_chk
  refine F.ok sc_Grid___getitem (fun vs H Q E h => ?_) (fun cdv A outer s H vs Q E hr h => ?_)
  · obtain ⟨g, p, e, kk, v, xs, rfl, _⟩ := h
    rfl
  · obtain ⟨g, p, e, kk, v, xs, rfl, ⟨⟨dx, hg⟩, D⟩, hp, q⟩ := h
    refine ⟨_, pss_one (ps_ret (DN.pe_bmN PySem.F.plainAttrs_dict PySem.F.slot_dict_get PySem.F.type_dict_get (DN.mt_getN (u40 hr.units)) (pe_fld (pv 0) rfl) (pa_cons (pe_call G_checked_place (hr.mono (by omega)) (by rfl) m_checked_place k_checked_place b_checked_place .nil pass0 (pa_cons (pv 1) pa_nil)) (pa_cons (pe_fld (pv 0) rfl) pa_nil)))), ?_⟩
    have hk := hp.key
    exact ⟨_, rfl, g, C, dx, _, _, rfl, hg, gc.cl, gc.ne, rfl, ⟨e, xs, rfl, D⟩, _, rfl, p, kk, rfl, hp, _, rfl, g, C, dx, _, _, rfl, hg, gc.cl, gc.nd, rfl, e, p, xs, kk, v, rfl, rfl, D, hk.1, hk.2, q⟩
/-- self.has_value(v), it is one -/
def spHas (C : Addr) : Sp := fun vs H Q _ => ∃ (g dx e : Addr) (fl : Bool) (dv v : V) (dd d : PyData), vs = [.ref g, v] ∧ H g = some (.ins C dx [("default", dv), ("entries", .ref e)]) ∧ Wr H fl dv dd ∧ Wr H fl v d ∧ Q (.bl true) H
theorem ok_has {C f : Addr} {fd : FuncData} {k : Nat} (F : FnP K "has_value" "Grid.has_value" s_Grid_has_value f fd) (gc : GCls K C) (C_flag : Cal P w K mg base CX0 "is_flag" k ["thing"] (spFlag K)) (C_plain : Cal P w K mg base CX0 "is_plain" k ["thing"] (spPlain K)) :
    FnOk P w K mg base CX0 (k + 1) f fd ["self", "thing"] (spHas C) := by
  obtain ⟨f_is_flag, fd_is_flag, G_is_flag, b_is_flag, m_is_flag, k_is_flag⟩ := C_flag
  obtain ⟨f_is_plain, fd_is_plain, G_is_plain, b_is_plain, m_is_plain, k_is_plain⟩ := C_plain
  refine F.ok sc_Grid_has_value (fun vs H Q E h => ?_) (fun cdv A outer s H vs Q E hr h => ?_)
  · obtain ⟨g, dx, e, fl, dv, v, dd, d, rfl, _⟩ := h
    rfl
  · obtain ⟨g, dx, e, fl, dv, v, dd, d, rfl, hg, wd, wv, q⟩ := h
    refine ⟨_, PSs.nox (pss_cons (ps_if (pt_val (pe_call G_is_flag (hr.mono (by omega)) (by rfl) m_is_flag k_is_flag b_is_flag .nil pass0 (pa_cons (pe_fld (pv 0) rfl) pa_nil))) (pss_one (ps_ret (pe_call G_is_flag (hr.mono (by omega)) (by rfl) m_is_flag k_is_flag b_is_flag .nil pass0 (pa_cons (pv 1) pa_nil)))) (pss_nil))
    (pss_one (ps_ret (pe_call G_is_plain (hr.mono (by omega)) (by rfl) m_is_plain k_is_plain b_is_plain .nil pass0 (pa_cons (pv 1) pa_nil))))), ?_⟩
    have t1 := shw_ty (K := K) wd.shw.1
    have t2 := shw_ty (K := K) wv.shw.1
    refine ⟨_, rfl, g, C, dx, _, _, rfl, hg, gc.cl, gc.nd, rfl, dv, _, fl, rfl, t1, wd.bool, fl, rfl, ?_⟩
    cases fl with
    | true => exact iteT ⟨_, rfl, v, _, true, rfl, t2, wv.bool, q⟩
    | false =>
      obtain ⟨kk, hpl, _⟩ := wv
      exact iteF ⟨_, rfl, v, true, rfl, hpl.pn, q⟩
/-- grid[place] = v -/
def spSet (P : Program) (w : World) (C : Addr) : Sp := fun vs H Q _ => ∃ (g p e : Addr) (k : NK) (fl : Bool) (dv v : V) (dd d : PyData) (xs : List Ent), vs = [.ref g, .ref p, v] ∧ Gd P w C H g dv e xs ∧ Plc H p k ∧ Wr H fl dv dd ∧ Wr H fl v d ∧ xs.length < 1000 ∧
  (PyData.eqv d dd = false → Q .non (upd H e (dn P w e (putE xs k p v)))) ∧ (PyData.eqv d dd = true → at_ xs k = none → Q .non H) ∧ (PyData.eqv d dd = true → ∀ u, at_ xs k = some u → Q .non (upd H e (dn P w e (dropE xs k))))
theorem ok_set {C f : Addr} {fd : FuncData} {k : Nat} (F : FnP K "__setitem__" "Grid.__setitem__" s_Grid___setitem f fd) (gc : GCls K C) (C_chk : Cal P w K mg base CX0 "checked_place" k ["thing"] spChk) (C_has : CalM P w K mg base CX0 C "has_value" k ["self", "thing"] (spHas C)) :
    FnOk P w K mg base CX0 (k + 1) f fd ["self", "at", "worth"] (spSet P w C) := by
  obtain ⟨f_checked_place, fd_checked_place, G_checked_place, b_checked_place, m_checked_place, k_checked_place⟩ := C_chk
  obtain ⟨f_has_value, fd_has_value, G_has_value, b_has_value, me_has_value⟩ := C_has
  have cl_C := gc.cl
  refine F.ok sc_Grid___setitem (fun vs H Q E h => ?_) (fun cdv A outer s H vs Q E hr h => ?_)
  · obtain ⟨g, p, e, kk, fl, dv, v, dd, d, xs, rfl, _⟩ := h
    rfl
  · obtain ⟨g, p, e, kk, fl, dv, v, dd, d, xs, rfl, ⟨⟨dx, hg⟩, D⟩, hp, wd, wv, hz, q1, q2, q3⟩ := h
    refine ⟨_, PSs.nox (pss_cons (ps_set (i := 3) sc_Grid___setitem.nd rfl (.inl rfl) (pe_call G_checked_place (hr.mono (by omega)) (by rfl) m_checked_place k_checked_place b_checked_place .nil pass0 (pa_cons (pv 1) pa_nil)))
    (pss_cons (ps_if (pt_not (pt_val (pe_meth (pv 0) cl_C me_has_value G_has_value (hr.mono (by omega)) b_has_value .nil pass0 (pa_cons (pv 2) pa_nil)))) (pss_one (ps_never)) (pss_nil))
    (pss_one (ps_if (pt_cmpR (DN.op_neD hr.units) (pv 2) (pe_fld (pv 0) rfl) (nomark _)) (pss_one (ps_asg (pv 2) (pg_sub (pe_fld (pv 0) rfl) (pv 3) (DN.set_dictN (u40 hr.units))))) (pss_one (ps_if (pt_cmpR (DN.op_inN (u40 hr.units)) (pv 3) (pe_fld (pv 0) rfl) (by rfl)) (pss_one (DN.ps_delN (u40 hr.units) (pe_fld (pv 0) rfl) (pv 3))) (pss_nil))))))), ?_⟩
    have hk := hp.key
    refine ⟨_, rfl, p, kk, rfl, hp, ?_⟩
    refine ⟨_, rfl, g, dx, _, rfl, hg, rfl, _, rfl, g, dx, e, fl, dv, v, dd, d, rfl, hg, wd, wv, true, rfl, iteF ?_⟩
    refine ⟨_, rfl, _, rfl, g, C, dx, _, _, rfl, hg, gc.cl, gc.nd, rfl, d, dd, wv.shw.1, wd.shw.1, Nat.le_trans wv.shw.2 (by decide), _, rfl, ?_⟩
    cases he : PyData.eqv d dd with
    | false => exact iteT ⟨_, rfl, _, rfl, g, C, dx, _, _, rfl, hg, gc.cl, gc.ne, rfl, _, rfl, e, p, xs, kk, rfl, rfl, D, hk.1, hk.2, hz, q1 he⟩
    | true =>
      refine iteF ⟨_, rfl, _, rfl, g, C, dx, _, _, rfl, hg, gc.cl, gc.ne, rfl, p, e, xs, kk, rfl, rfl, D, hk.1, hk.2, _, rfl, ?_⟩
      cases ha : at_ xs kk with
      | none => exact iteF (q2 he ha)
      | some u => exact iteT ⟨_, rfl, g, C, dx, _, _, rfl, hg, gc.cl, gc.ne, rfl, _, rfl, e, p, xs, kk, rfl, rfl, D, hk.1, hk.2, by rw [ha]; rfl, q3 he u ha⟩
/-- grid(one, other) -/
def spCallG (P : Program) (w : World) (C : Addr) : Sp := fun vs H Q _ => ∃ (g e : Addr) (k1 k2 : NK) (x y v : V) (xs : List Ent), vs = [.ref g, x, y] ∧ Gd P w C H g v e xs ∧ Pl H x k1 ∧ Pl H y k2 ∧ ∀ H', Same H H' → Q ((at_ xs (.tup [k1, k2])).getD v) H'
theorem ok_callG {C f g0 : Addr} {fd : FuncData} {k : Nat} (F : FnP K "__call__" "Grid.__call__" s_Grid___call f fd) (O_get : OP.Own K C "__getitem__" g0) (G_get : FnR P w K mg base CX0 k g0 (spGet P w C)) : FnOk P w K mg base CX0 (k + 2) f fd ["self", "one", "other"] (spCallG P w C) := by
  refine F.ok sc_Grid___call (fun vs H Q E h => ?_) (fun cdv A outer s H vs Q E hr h => ?_)
  · obtain ⟨g, e, k1, k2, x, y, v, xs, rfl, _⟩ := h
    rfl
  · obtain ⟨g, e, k1, k2, x, y, v, xs, rfl, hG, h1, h2, q⟩ := h
    refine ⟨_, pss_one (ps_ret (OP.pe_ixO O_get G_get (hr.mono (by omega)) pass0 (pv 0) (pe_tup (pa_cons (pv 1) (pa_cons (pv 2) pa_nil))))), ?_⟩
    refine ⟨_, rfl, _, rfl, _, rfl, by show 2 ≤ sizeLine; decide, fun p np => ?_⟩
    have s1 := same_upd (o := .tup [x, y]) np
    have G1 := hG.same s1
    obtain ⟨⟨dx, hg⟩, D⟩ := G1
    exact ⟨g, dx, _, rfl, hg, g, p, e, _, v, xs, rfl, ⟨⟨dx, hg⟩, D⟩, ⟨x, y, k1, k2, upd_same, h1.same (same_tup s1), h2.same (same_tup s1), rfl⟩, q _ s1⟩
/-- thing in grid -/
def spCon (P : Program) (w : World) (K : PySem.W.Frag) (C : Addr) : Sp := fun vs H Q _ => ∃ (g e : Addr) (x v : V) (xs : List Ent), vs = [.ref g, x] ∧ Gd P w C H g v e xs ∧ ((NoPl K H x ∧ Q (.bl false) H) ∨ ∃ p k, x = .ref p ∧ Plc H p k ∧ Q (.bl (at_ xs k).isSome) H)
theorem ok_con {C f : Addr} {fd : FuncData} {k : Nat} (F : FnP K "__contains__" "Grid.__contains__" s_Grid___contains f fd) (gc : GCls K C) (C_place : Cal P w K mg base CX0 "is_place" k ["thing"] (spPlace K)) : FnOk P w K mg base CX0 (k + 1) f fd ["self", "x"] (spCon P w K C) := by
  obtain ⟨f_is_place, fd_is_place, G_is_place, b_is_place, m_is_place, k_is_place⟩ := C_place
  refine F.ok sc_Grid___contains (fun vs H Q E h => ?_) (fun cdv A outer s H vs Q E hr h => ?_)
  · obtain ⟨g, e, x, v, xs, rfl, _⟩ := h
    rfl
  · obtain ⟨g, e, x, v, xs, rfl, ⟨⟨dx, hg⟩, D⟩, q⟩ := h
    refine ⟨_, pss_one (ps_ret (pe_and (pe_call G_is_place (hr.mono (by omega)) (by rfl) m_is_place k_is_place b_is_place .nil pass0 (pa_cons (pv 1) pa_nil)) (pe_one (pe_cmpR (DN.op_inN (u40 hr.units)) (pv 1) (pe_fld (pv 0) rfl) (by rfl))))), ?_⟩
    rcases q with ⟨np, q⟩ | ⟨p, kk, rfl, hp, q⟩
    · exact ⟨_, rfl, x, rfl, .inl ⟨np, false, rfl, iteF q⟩⟩
    · have hk := hp.key
      exact ⟨_, rfl, .ref p, rfl, .inr ⟨p, kk, rfl, hp, true, rfl, iteT ⟨_, rfl, _, rfl, g, C, dx, _, _, rfl, hg, gc.cl, gc.ne, rfl, p, e, xs, kk, rfl, rfl, D, hk.1, hk.2, q⟩⟩⟩
/-- len(grid), bool(grid), grid.places() -/
def spLen (P : Program) (w : World) (C : Addr) : Sp := fun vs H Q _ => ∃ (g e : Addr) (v : V) (xs : List Ent), vs = [.ref g] ∧ Gd P w C H g v e xs ∧ Q (.int (xs.length : Nat)) H
theorem ok_len {C f : Addr} {fd : FuncData} {k : Nat} (F : FnP K "__len__" "Grid.__len__" s_Grid___len f fd) (gc : GCls K C) (m_len : mg "len" = none) : FnOk P w K mg base CX0 (k + 1) f fd ["self"] (spLen P w C) := by
  refine F.ok sc_Grid___len (fun vs H Q E h => ?_) (fun cdv A outer s H vs Q E hr h => ?_)
  · obtain ⟨g, e, v, xs, rfl, _⟩ := h
    rfl
  · obtain ⟨g, e, v, xs, rfl, ⟨⟨dx, hg⟩, D⟩, q⟩ := h
    refine ⟨_, pss_one (ps_ret (pe_callB DN.cr_lenN (by rfl) m_len PySem.boot_len (pa_cons (pe_fld (pv 0) rfl) pa_nil))), ?_⟩
    exact ⟨_, rfl, g, C, dx, _, _, rfl, hg, gc.cl, gc.ne, rfl, e, xs, rfl, D, q⟩
def spBool (P : Program) (w : World) (C : Addr) : Sp := fun vs H Q _ => ∃ (g e : Addr) (v : V) (xs : List Ent), vs = [.ref g] ∧ Gd P w C H g v e xs ∧ Q (.bl (!xs.isEmpty)) H
theorem ok_bool {C f : Addr} {fd : FuncData} {k : Nat} (F : FnP K "__bool__" "Grid.__bool__" s_Grid___bool f fd) (gc : GCls K C) (m_bool : mg "bool" = none) : FnOk P w K mg base CX0 (k + 1) f fd ["self"] (spBool P w C) := by
  refine F.ok sc_Grid___bool (fun vs H Q E h => ?_) (fun cdv A outer s H vs Q E hr h => ?_)
  · obtain ⟨g, e, v, xs, rfl, _⟩ := h
    rfl
  · obtain ⟨g, e, v, xs, rfl, ⟨⟨dx, hg⟩, D⟩, q⟩ := h
    refine ⟨_, pss_one (ps_ret (pe_callTy DN.cr_boolN (by rfl) m_bool (by decide +kernel) (pa_cons (pe_fld (pv 0) rfl) pa_nil))), ?_⟩
    exact ⟨_, rfl, g, C, dx, _, _, rfl, hg, gc.cl, gc.ne, rfl, e, xs, rfl, D, q⟩
def spPlaces (P : Program) (w : World) (C : Addr) : Sp := fun vs H Q _ => ∃ (g e : Addr) (v : V) (xs : List Ent), vs = [.ref g] ∧ Gd P w C H g v e xs ∧ ∀ p, H p = none → Q (.ref p) (upd H p (.lst (keyRefs xs)))
theorem ok_places {C f : Addr} {fd : FuncData} {k : Nat} (F : FnP K "places" "Grid.places" s_Grid_places f fd) (gc : GCls K C) (m_list : mg "list" = none) : FnOk P w K mg base CX0 (k + 1) f fd ["self"] (spPlaces P w C) := by
  refine F.ok sc_Grid_places (fun vs H Q E h => ?_) (fun cdv A outer s H vs Q E hr h => ?_)
  · obtain ⟨g, e, v, xs, rfl, _⟩ := h
    rfl
  · obtain ⟨g, e, v, xs, rfl, ⟨⟨dx, hg⟩, D⟩, q⟩ := h
    refine ⟨_, pss_one (ps_ret (pe_callTy (DN.cr_listN rfl) (by rfl) m_list (by decide +kernel) (pa_cons (pe_fld (pv 0) rfl) pa_nil))), ?_⟩
    exact ⟨_, rfl, g, C, dx, _, _, rfl, hg, gc.cl, gc.ne, rfl, e, xs, rfl, D, q⟩

end
end K10
set_option Elab.async false
set_option linter.all false
set_option maxRecDepth 100000
set_option maxHeartbeats 2000000
namespace K10
open PySem PySem.Spec PyProof.Rows L2 CM DN GR SRT RZ
section
variable {P : Program} {w : World} {K : PySem.W.Frag} {mg : Str → Option Value} {base : Heap}
/-! ### what is not given -/
/-- NotGiven is raised with the name -/
def Ng (CN : Addr) (E : XK) (H : Hp) (nm : Str) : Prop := ∀ (d : Addr) (H' : Hp), H d = none → Same H H' → H' d = some (.xd [("name", .str nm)]) → E (.ref CN) (some d) H'
def spNG (CN : Addr) : Sp := fun vs H Q _ => ∃ (e : Addr) (v : V), vs = [.ref e, v] ∧ H e = some (exo e CN none) ∧ ∀ dx, H dx = none → dx ≠ e → Q .non (upd (upd H dx (exd dx [("name", v)])) e (exo e CN (some dx)))
theorem ok_NG {CN f : Addr} {fd : FuncData} {k : Nat} (F : FnP K "__init__" "NotGiven.__init__" s_NotGiven___init f fd) (T : OexC K CN) (nv : PySem.W.findIn K (.ref CN) "name" = some none) : FnOk P w K mg base CX0 (k + 1) f fd ["self", "name"] (spNG CN) := by
  refine F.ok sc_NotGiven___init (fun vs H Q E h => ?_) (fun cdv A outer s H vs Q E hr h => ?_)
  · obtain ⟨e, v, rfl, _⟩ := h
    rfl
  · obtain ⟨e, v, rfl, he, q⟩ := h
    refine ⟨_, pss_one (ps_ost (pv 0) (pv 1)), ?_⟩
    exact ⟨_, rfl, _, rfl, e, CN, rfl, T, nv, .inl ⟨he, fun dx n ne => q dx n ne⟩⟩
theorem passF {X : Cx} : Passes (L2.CX X.prog X.w) X (fun _ _ _ => False) := fun _ _ _ _ _ _ _ h => by
  obtain ⟨_, _, _, _, _, _, _, _, _, _, _, _, z⟩ := h
  exact z.elim
/-- what NotGiven asks, to be raised -/
structure Er (P : Program) (w : World) (K : PySem.W.Frag) (mg : Str → Option Value) (base : Heap) (CN : Addr) (f_N : Addr) (fd_N : FuncData) : Prop where
  m : mg "NotGiven" = some (.ref CN)
  T : OexC K CN
  iC : PySem.W.findIn K (.ref CN) "__init__" = some (some (.ref f_N))
  tI : PySem.W.typeIn K (.ref f_N) = some (.type "function")
  G : FnOk P w K mg base CX0 1 f_N fd_N ["self", "name"] (spNG CN)
  b : Binds K fd_N ["self", "name"] []
theorem go_err {CN : Addr} {E : XK} {H : Hp} {σ : L2.St} {nm : Str} (q : Ng CN E H nm) : tMkO CN (spNG CN) [] (tCons (tC (.str nm)) tNil) σ H fun cls d H' => E cls d H' := by
  refine ⟨by show 1 ≤ 1000; decide, fun a na => ⟨a, .str nm, rfl, upd_same, fun d nd ne => ?_⟩⟩
  have hd : H d = none := by
    rw [upd_ne ne] at nd
    exact nd
  refine ⟨rfl, d, [("name", .str nm)], upd_same, by rw [upd_ne ne]; exact upd_same, hd, q d _ hd (fun b o e => ?_) upd_same⟩
  have bd : b ≠ d := ne_of_none e hd
  have ba : b ≠ a := ne_of_none e na
  rw [upd_ne bd, del_ne ba, upd_ne ba, upd_ne bd, upd_ne ba]
  exact e
/-- a method that is not given: n arguments, NotGiven with its name -/
def spNo (CN : Addr) (nm : Str) (n : Nat) : Sp := fun vs H Q E => vs.length = n ∧ Ng CN E H nm
theorem ok_Kindown {CN f f_N : Addr} {fd fd_N : FuncData} {k : Nat} (hk : 6 ≤ k) (F : FnP K "own" "Kind.own" s_Kind_own f fd) (N : Er P w K mg base CN f_N fd_N) : FnOk P w K mg base (L2.CX P w) (k + 1) f fd ["self", "key"] (spNo CN "own" 2) := by
  obtain ⟨m_NotGiven, T_N, iC_N, tI_N, G_N, b_N⟩ := N
  refine F.ok sc_Kind_own (fun vs H Q E h => h.1) (fun cdv A outer s H vs Q E hr h => ?_)
  obtain ⟨hl, q⟩ := h
  obtain ⟨kd, x, rfl⟩ : ∃ kd x, vs = [kd, x] := by
    match vs, hl with
    | [kd, x], _ => exact ⟨_, _, rfl⟩
  refine ⟨_, pss_one (ps_raise rfl (takes_of rfl rfl rfl rfl) (pmk_oex T_N iC_N tI_N G_N (hr.mono (by omega)) b_N .nil pass0 (by rfl) m_NotGiven (pa_cons pe_str pa_nil))), ?_⟩
  exact go_err q
theorem ok_Kindjoin {CN f f_N : Addr} {fd fd_N : FuncData} {k : Nat} (hk : 6 ≤ k) (F : FnP K "join" "Kind.join" s_Kind_join f fd) (N : Er P w K mg base CN f_N fd_N) : FnOk P w K mg base (L2.CX P w) (k + 1) f fd ["self", "one", "other"] (spNo CN "join" 3) := by
  obtain ⟨m_NotGiven, T_N, iC_N, tI_N, G_N, b_N⟩ := N
  refine F.ok sc_Kind_join (fun vs H Q E h => h.1) (fun cdv A outer s H vs Q E hr h => ?_)
  obtain ⟨hl, q⟩ := h
  obtain ⟨kd, x, y, rfl⟩ : ∃ kd x y, vs = [kd, x, y] := by
    match vs, hl with
    | [kd, x, y], _ => exact ⟨_, _, _, rfl⟩
  refine ⟨_, pss_one (ps_raise rfl (takes_of rfl rfl rfl rfl) (pmk_oex T_N iC_N tI_N G_N (hr.mono (by omega)) b_N .nil pass0 (by rfl) m_NotGiven (pa_cons pe_str pa_nil))), ?_⟩
  exact go_err q
theorem ok_Kindconsistent {CN f f_N : Addr} {fd fd_N : FuncData} {k : Nat} (hk : 6 ≤ k) (F : FnP K "consistent" "Kind.consistent" s_Kind_consistent f fd) (N : Er P w K mg base CN f_N fd_N) : FnOk P w K mg base (L2.CX P w) (k + 1) f fd ["self", "label", "question"] (spNo CN "consistent" 3) := by
  obtain ⟨m_NotGiven, T_N, iC_N, tI_N, G_N, b_N⟩ := N
  refine F.ok sc_Kind_consistent (fun vs H Q E h => h.1) (fun cdv A outer s H vs Q E hr h => ?_)
  obtain ⟨hl, q⟩ := h
  obtain ⟨kd, x, y, rfl⟩ : ∃ kd x y, vs = [kd, x, y] := by
    match vs, hl with
    | [kd, x, y], _ => exact ⟨_, _, _, rfl⟩
  refine ⟨_, pss_one (ps_raise rfl (takes_of rfl rfl rfl rfl) (pmk_oex T_N iC_N tI_N G_N (hr.mono (by omega)) b_N .nil pass0 (by rfl) m_NotGiven (pa_cons pe_str pa_nil))), ?_⟩
  exact go_err q
theorem ok_Kindmatches {CN f f_N : Addr} {fd fd_N : FuncData} {k : Nat} (hk : 6 ≤ k) (F : FnP K "matches" "Kind.matches" s_Kind_matches f fd) (N : Er P w K mg base CN f_N fd_N) : FnOk P w K mg base (L2.CX P w) (k + 1) f fd ["self", "key", "question"] (spNo CN "matches" 3) := by
  obtain ⟨m_NotGiven, T_N, iC_N, tI_N, G_N, b_N⟩ := N
  refine F.ok sc_Kind_matches (fun vs H Q E h => h.1) (fun cdv A outer s H vs Q E hr h => ?_)
  obtain ⟨hl, q⟩ := h
  obtain ⟨kd, x, y, rfl⟩ : ∃ kd x y, vs = [kd, x, y] := by
    match vs, hl with
    | [kd, x, y], _ => exact ⟨_, _, _, rfl⟩
  refine ⟨_, pss_one (ps_raise rfl (takes_of rfl rfl rfl rfl) (pmk_oex T_N iC_N tI_N G_N (hr.mono (by omega)) b_N .nil pass0 (by rfl) m_NotGiven (pa_cons pe_str pa_nil))), ?_⟩
  exact go_err q
theorem ok_Measureddistance {CN f f_N : Addr} {fd fd_N : FuncData} {k : Nat} (hk : 6 ≤ k) (F : FnP K "distance" "Measured.distance" s_Measured_distance f fd) (N : Er P w K mg base CN f_N fd_N) : FnOk P w K mg base (L2.CX P w) (k + 1) f fd ["self", "key", "point"] (spNo CN "distance" 3) := by
  obtain ⟨m_NotGiven, T_N, iC_N, tI_N, G_N, b_N⟩ := N
  refine F.ok sc_Measured_distance (fun vs H Q E h => h.1) (fun cdv A outer s H vs Q E hr h => ?_)
  obtain ⟨hl, q⟩ := h
  obtain ⟨kd, x, y, rfl⟩ : ∃ kd x y, vs = [kd, x, y] := by
    match vs, hl with
    | [kd, x, y], _ => exact ⟨_, _, _, rfl⟩
  refine ⟨_, pss_one (ps_raise rfl (takes_of rfl rfl rfl rfl) (pmk_oex T_N iC_N tI_N G_N (hr.mono (by omega)) b_N .nil pass0 (by rfl) m_NotGiven (pa_cons pe_str pa_nil))), ?_⟩
  exact go_err q
theorem ok_Measuredbound {CN f f_N : Addr} {fd fd_N : FuncData} {k : Nat} (hk : 6 ≤ k) (F : FnP K "bound" "Measured.bound" s_Measured_bound f fd) (N : Er P w K mg base CN f_N fd_N) : FnOk P w K mg base (L2.CX P w) (k + 1) f fd ["self", "label", "point"] (spNo CN "bound" 3) := by
  obtain ⟨m_NotGiven, T_N, iC_N, tI_N, G_N, b_N⟩ := N
  refine F.ok sc_Measured_bound (fun vs H Q E h => h.1) (fun cdv A outer s H vs Q E hr h => ?_)
  obtain ⟨hl, q⟩ := h
  obtain ⟨kd, x, y, rfl⟩ : ∃ kd x y, vs = [kd, x, y] := by
    match vs, hl with
    | [kd, x, y], _ => exact ⟨_, _, _, rfl⟩
  refine ⟨_, pss_one (ps_raise rfl (takes_of rfl rfl rfl rfl) (pmk_oex T_N iC_N tI_N G_N (hr.mono (by omega)) b_N .nil pass0 (by rfl) m_NotGiven (pa_cons pe_str pa_nil))), ?_⟩
  exact go_err q
end
end K10
set_option Elab.async false
set_option linter.all false
set_option maxRecDepth 100000
set_option maxHeartbeats 2000000
namespace K10
open PySem PySem.Spec PyProof.Rows L2 CM DN GR SRT RZ
section
variable {P : Program} {w : World} {K : PySem.W.Frag} {mg : Str → Option Value} {base : Heap}
/-! ### what a kind gives by itself -/
def spPen0 : Sp := fun vs H Q _ => vs.length = 3 ∧ Q (.int 0) H
theorem ok_Kindpenalty {f : Addr} {fd : FuncData} {k : Nat} (F : FnP K "penalty" "Kind.penalty" s_Kind_penalty f fd) : FnOk P w K mg base CX0 (k + 1) f fd ["self", "label", "key"] spPen0 := by
  refine F.ok sc_Kind_penalty (fun vs H Q E h => h.1) (fun cdv A outer s H vs Q E hr h => ?_)
  obtain ⟨hl, q⟩ := h
  refine ⟨_, pss_one (ps_ret pe_int), ?_⟩
  exact q
def sidesOf (n : Nat) : List V := (List.range n).map fun i => V.int (if i < n / 2 then 0 else 1)
def spKind (K : PySem.W.Frag) : Sp := fun vs H Q _ => ∃ (m l : Addr) (xs : List V), vs = [.ref m, .ref l] ∧ SqL K H l xs ∧ xs.length ≤ 30 ∧ ∀ (t : Addr) (H' : Hp), Same H H' → H' t = some (.lst (sidesOf xs.length)) → Q (.ref t) H'
theorem sides_eq {n : Nat} (h : n ≤ 30) : (List.replicate (((n : Int) / 2).toNat) [V.int 0]).flatten ++ (List.replicate (((n : Int) - (n : Int) / 2).toNat) [V.int 1]).flatten = sidesOf n := by
  have all : ∀ i : Fin 31, (List.replicate (((i.val : Int) / 2).toNat) [V.int 0]).flatten ++ (List.replicate (((i.val : Int) - (i.val : Int) / 2).toNat) [V.int 1]).flatten = sidesOf i.val := by decide +kernel
  exact all ⟨n, by omega⟩
theorem ok_kind {f : Addr} {fd : FuncData} {k : Nat} (F : FnP K "sides" "Kind.sides" s_Kind_sides f fd) (m_len : mg "len" = none) : FnOk P w K mg base CX0 (k + 1) f fd ["self", "labels"] (spKind K) := by
  refine F.ok sc_Kind_sides (fun vs H Q E h => ?_) (fun cdv A outer s H vs Q E hr h => ?_)
  · obtain ⟨m, l, xs, rfl, _⟩ := h
    rfl
  · obtain ⟨m, l, xs, rfl, hl, hn, q⟩ := h
    refine ⟨_, PSs.nox (pss_cons (ps_set (i := 2) sc_Kind_sides.nd rfl (.inl rfl) (pe_op op_fdiv (pe_callB call_len_seq (by rfl) m_len PySem.boot_len (pa_cons (pv 1) pa_nil)) pe_int))
    (pss_one (ps_ret (pe_op op_cat (pe_op op_rep (pe_lst (pa_cons pe_int pa_nil)) (pv 2)) (pe_op op_rep (pe_lst (pa_cons pe_int pa_nil)) (pe_op op_sub (pe_callB call_len_seq (by rfl) m_len PySem.boot_len (pa_cons (pv 1) pa_nil)) (pv 2))))))), ?_⟩
    have sz : ∀ {z : V} {i : Int}, i ≤ 30 → [z].length * i.toNat ≤ sizeLine := fun {z i} h => by
      rw [List.length_singleton, Nat.one_mul]
      exact Nat.le_of_lt (small1000 (by omega))
    refine ⟨_, rfl, l, xs, rfl, .inl hl, _, 2, rfl, rfl, ⟨by decide, by decide⟩, ?_⟩
    refine ⟨by show 1 ≤ sizeLine; decide, fun a na => ⟨_, rfl, a, _, [.int 0], rfl, rfl, upd_same, by omega, by omega, sz (by omega), fun b nb => ?_⟩⟩
    have s1 := (same_upd (o := .lst [.int 0]) na).trans (same_upd (o := .lst (List.replicate (((xs.length : Int) / 2).toNat) [V.int 0]).flatten) nb)
    have hb : (upd (upd H a (.lst [.int 0])) b (.lst (List.replicate (((xs.length : Int) / 2).toNat) [V.int 0]).flatten)) b = some (.lst (List.replicate (((xs.length : Int) / 2).toNat) [V.int 0]).flatten) := upd_same
    generalize upd (upd H a (.lst [.int 0])) b (.lst (List.replicate (((xs.length : Int) / 2).toNat) [V.int 0]).flatten) = G at s1 hb
    refine ⟨by show 1 ≤ sizeLine; decide, fun d nd => ⟨_, rfl, l, xs, rfl, .inl ((s1.trans (same_upd nd)).seq hl), _, rfl, _, _, rfl, rfl, d, _, [.int 1], rfl, rfl, upd_same, by omega, by omega, sz (by omega), fun g ng => ?_⟩⟩
    have s2 := (same_upd (o := .lst [.int 1]) nd).trans (same_upd (o := .lst (List.replicate (((xs.length : Int) - (xs.length : Int) / 2).toNat) [V.int 1]).flatten) ng)
    refine ⟨b, g, _, _, rfl, rfl, s2 _ _ hb, upd_same, ?_, fun t nt => q t _ (s1.trans (s2.trans (same_upd nt))) ?_⟩
    · have e := congrArg List.length (sides_eq hn)
      rw [List.length_append, sidesOf, List.length_map, List.length_range] at e
      rw [e]
      exact Nat.le_of_lt (small1000 (by omega))
    · rw [upd_same, sides_eq hn]
end
end K10
set_option Elab.async false
set_option linter.all false
set_option maxRecDepth 100000
set_option maxHeartbeats 2000000
namespace K10
open PySem PySem.Spec PyProof.Rows L2 CM DN GR SRT RZ
section
variable {P : Program} {w : World} {K : PySem.W.Frag} {mg : Str → Option Value} {base : Heap}
/-! ### Calls -/
abbrev kNames : List Str := ["own_function", "join_function", "consistent_function", "matches_function", "penalty_function", "sides_function", "distance_function", "bound_function"]
structure KC (K : PySem.W.Frag) (C : Addr) : Prop where
  cl : Cls K C
  na : ∀ x ∈ kNames, NoAttr K C x
def fs8 (o j c m p s d b : V) : List (Str × V) := [("own_function", o), ("join_function", j), ("consistent_function", c), ("matches_function", m), ("penalty_function", p), ("sides_function", s), ("distance_function", d), ("bound_function", b)]
def spKInit (C : Addr) : Sp := fun vs H Q _ => ∃ (kd dx : Addr) (o j c m p s d b : V), vs = [.ref kd, o, j, c, m, p, s, d, b] ∧ H kd = some (.ins C dx []) ∧ Q .non (upd H kd (.ins C dx (fs8 o j c m p s d b)))
theorem ok_Kinit {C f : Addr} {fd : FuncData} {k : Nat} {kws : List (Str × V)} (F : FunD K "__init__" "Calls.__init__" (defArgs s_Calls___init) (defBody s_Calls___init) (defScope s_Calls___init) [] kws f fd) (c : KC K C) : FnOk P w K mg base CX0 (k + 1) f fd ["self", "own", "join", "consistent", "matches", "penalty", "sides", "distance", "bound"] (spKInit C) := by
  refine F.ok sc_Calls___init (fun vs H Q E h => ?_) (fun cdv A outer s H vs Q E hr h => ?_)
  · obtain ⟨kd, dx, o, j, cc, m, p, s, d, b, rfl, _⟩ := h
    rfl
  · obtain ⟨kd, dx, o, j, cc, m, p, s, d, b, rfl, hb, q⟩ := h
    refine ⟨_, pss_cons (ps_fld (pv 0) (pv 1) rfl)
    (pss_cons (ps_fld (pv 0) (pv 2) rfl)
    (pss_cons (ps_fld (pv 0) (pv 3) rfl)
    (pss_cons (ps_fld (pv 0) (pv 4) rfl)
    (pss_cons (ps_fld (pv 0) (pv 5) rfl)
    (pss_cons (ps_fld (pv 0) (pv 6) rfl)
    (pss_cons (ps_fld (pv 0) (pv 7) rfl)
    (pss_one (ps_fld (pv 0) (pv 8) rfl)))))))), ?_⟩
    refine ⟨_, rfl, _, rfl, kd, C, dx, [], rfl, hb, c.cl, c.na _ (by decide), (by show 0 < 1000; decide), ?_⟩
    refine ⟨_, rfl, _, rfl, kd, C, dx, [("own_function", o)], rfl, upd_same, c.cl, c.na _ (by decide), (by show 1 < 1000; decide), ?_⟩
    rw [upd_upd]
    refine ⟨_, rfl, _, rfl, kd, C, dx, [("own_function", o), ("join_function", j)], rfl, upd_same, c.cl, c.na _ (by decide), (by show 2 < 1000; decide), ?_⟩
    rw [upd_upd]
    refine ⟨_, rfl, _, rfl, kd, C, dx, [("own_function", o), ("join_function", j), ("consistent_function", cc)], rfl, upd_same, c.cl, c.na _ (by decide), (by show 3 < 1000; decide), ?_⟩
    rw [upd_upd]
    refine ⟨_, rfl, _, rfl, kd, C, dx, [("own_function", o), ("join_function", j), ("consistent_function", cc), ("matches_function", m)], rfl, upd_same, c.cl, c.na _ (by decide), (by show 4 < 1000; decide), ?_⟩
    rw [upd_upd]
    refine ⟨_, rfl, _, rfl, kd, C, dx, [("own_function", o), ("join_function", j), ("consistent_function", cc), ("matches_function", m), ("penalty_function", p)], rfl, upd_same, c.cl, c.na _ (by decide), (by show 5 < 1000; decide), ?_⟩
    rw [upd_upd]
    refine ⟨_, rfl, _, rfl, kd, C, dx, [("own_function", o), ("join_function", j), ("consistent_function", cc), ("matches_function", m), ("penalty_function", p), ("sides_function", s)], rfl, upd_same, c.cl, c.na _ (by decide), (by show 6 < 1000; decide), ?_⟩
    rw [upd_upd]
    refine ⟨_, rfl, _, rfl, kd, C, dx, [("own_function", o), ("join_function", j), ("consistent_function", cc), ("matches_function", m), ("penalty_function", p), ("sides_function", s), ("distance_function", d)], rfl, upd_same, c.cl, c.na _ (by decide), (by show 7 < 1000; decide), ?_⟩
    rw [upd_upd]
    exact q
def spKO (P : Program) (w : World) (K : PySem.W.Frag) (mg : Str → Option Value) (base : Heap) (C : Addr) (m : Str) : Sp := fun vs H Q _ => ∃ (kd dx f : Addr) (fs : List (Str × V)) (bo : Bool) (x : V), vs = [.ref kd, x] ∧ H kd = some (.ins C dx fs) ∧ fs.lookup m = some (.ref f) ∧ (bo = true → CLO.Fnk H f) ∧ CLO.CallsTo P w K mg base CX0 14 bo f [x] H Q E0
def spKF (P : Program) (w : World) (K : PySem.W.Frag) (mg : Str → Option Value) (base : Heap) (C : Addr) (m : Str) : Sp := fun vs H Q _ => ∃ (kd dx f : Addr) (fs : List (Str × V)) (bo : Bool) (x y : V), vs = [.ref kd, x, y] ∧ H kd = some (.ins C dx fs) ∧ fs.lookup m = some (.ref f) ∧ (bo = true → CLO.Fnk H f) ∧ CLO.CallsTo P w K mg base CX0 14 bo f [x, y] H Q E0
theorem ok_Kown {C f : Addr} {fd : FuncData} {k : Nat} (hk : 14 ≤ k) (F : FnP K "own" "Calls.own" s_Calls_own f fd) (c : KC K C) : FnOk P w K mg base CX0 (k + 1) f fd ["self", "key"] (spKO P w K mg base C "own_function") := by
  refine F.ok sc_Calls_own (fun vs H Q E h => ?_) (fun cdv A outer s H vs Q E hr h => ?_)
  · obtain ⟨kd, dx, g, fs, bo, x, rfl, _⟩ := h
    rfl
  · obtain ⟨kd, dx, g, fs, bo, x, rfl, hkd, hl, hf, q⟩ := h
    refine ⟨_, pss_one (ps_ret (CLO.pe_fcall (P := P) (w := w) (K := K) (mg := mg) (base := base) (CX := CX0) (n := 14) (pv 0) (hr.mono (by omega)) pass0 (pa_cons (pv 1) pa_nil))), ?_⟩
    exact ⟨_, rfl, kd, C, dx, fs, g, bo, rfl, hkd, c.cl, c.na _ (by decide), hl, hf, _, rfl, q⟩
theorem ok_Kjoin {C f : Addr} {fd : FuncData} {k : Nat} (hk : 14 ≤ k) (F : FnP K "join" "Calls.join" s_Calls_join f fd) (c : KC K C) : FnOk P w K mg base CX0 (k + 1) f fd ["self", "one", "other"] (spKF P w K mg base C "join_function") := by
  refine F.ok sc_Calls_join (fun vs H Q E h => ?_) (fun cdv A outer s H vs Q E hr h => ?_)
  · obtain ⟨kd, dx, g, fs, bo, x, y, rfl, _⟩ := h
    rfl
  · obtain ⟨kd, dx, g, fs, bo, x, y, rfl, hkd, hl, hf, q⟩ := h
    refine ⟨_, pss_one (ps_ret (CLO.pe_fcall (P := P) (w := w) (K := K) (mg := mg) (base := base) (CX := CX0) (n := 14) (pv 0) (hr.mono (by omega)) pass0 (pa_cons (pv 1) (pa_cons (pv 2) pa_nil)))), ?_⟩
    exact ⟨_, rfl, kd, C, dx, fs, g, bo, rfl, hkd, c.cl, c.na _ (by decide), hl, hf, _, rfl, _, rfl, q⟩
theorem ok_Kconsistent {C f : Addr} {fd : FuncData} {k : Nat} (hk : 14 ≤ k) (F : FnP K "consistent" "Calls.consistent" s_Calls_consistent f fd) (c : KC K C) : FnOk P w K mg base CX0 (k + 1) f fd ["self", "label", "question"] (spKF P w K mg base C "consistent_function") := by
  refine F.ok sc_Calls_consistent (fun vs H Q E h => ?_) (fun cdv A outer s H vs Q E hr h => ?_)
  · obtain ⟨kd, dx, g, fs, bo, x, y, rfl, _⟩ := h
    rfl
  · obtain ⟨kd, dx, g, fs, bo, x, y, rfl, hkd, hl, hf, q⟩ := h
    refine ⟨_, pss_one (ps_ret (CLO.pe_fcall (P := P) (w := w) (K := K) (mg := mg) (base := base) (CX := CX0) (n := 14) (pv 0) (hr.mono (by omega)) pass0 (pa_cons (pv 1) (pa_cons (pv 2) pa_nil)))), ?_⟩
    exact ⟨_, rfl, kd, C, dx, fs, g, bo, rfl, hkd, c.cl, c.na _ (by decide), hl, hf, _, rfl, _, rfl, q⟩
theorem ok_Kmatches {C f : Addr} {fd : FuncData} {k : Nat} (hk : 14 ≤ k) (F : FnP K "matches" "Calls.matches" s_Calls_matches f fd) (c : KC K C) : FnOk P w K mg base CX0 (k + 1) f fd ["self", "key", "question"] (spKF P w K mg base C "matches_function") := by
  refine F.ok sc_Calls_matches (fun vs H Q E h => ?_) (fun cdv A outer s H vs Q E hr h => ?_)
  · obtain ⟨kd, dx, g, fs, bo, x, y, rfl, _⟩ := h
    rfl
  · obtain ⟨kd, dx, g, fs, bo, x, y, rfl, hkd, hl, hf, q⟩ := h
    refine ⟨_, pss_one (ps_ret (CLO.pe_fcall (P := P) (w := w) (K := K) (mg := mg) (base := base) (CX := CX0) (n := 14) (pv 0) (hr.mono (by omega)) pass0 (pa_cons (pv 1) (pa_cons (pv 2) pa_nil)))), ?_⟩
    exact ⟨_, rfl, kd, C, dx, fs, g, bo, rfl, hkd, c.cl, c.na _ (by decide), hl, hf, _, rfl, _, rfl, q⟩
end
end K10
set_option Elab.async false
set_option linter.all false
set_option maxRecDepth 100000
set_option maxHeartbeats 2000000
namespace K10
open PySem PySem.Spec PyProof.Rows L2 CM DN GR SRT RZ
section
variable {P : Program} {w : World} {K : PySem.W.Frag} {mg : Str → Option Value} {base : Heap}
theorem sup_ev1 {p0 p1 p2 p3 p4 : Pos} {m x : Str} (hl : (p2.endLine == p4.line) = true) (env : Env) : eval (.Call (.Attribute (.Call (.Name "super" p0) [] [] p1) m p2) [.Name x p3] [] p4) env = (do
      let ov ← attributeBase (.Call (.Name "super" p0) [] [] p1) m env (eval (.Call (.Name "super" p0) [] [] p1) env)
      standAt p2.atName
      let (f, first) ← holding [ov] (getMethod ov m (do return (← importBound (.Call (.Name "super" p0) [] [] p1) env).getD true))
      callWith p4 f first (backTo p4 (starEach [.Name x p3] env)) []) := by
  have hpos : ∀ o : Expr, methodCallPos true o env p2 p4 = pure p4 := fun o => by
    unfold methodCallPos
    simp [hl]
  conv => lhs; unfold eval
  show (do
      let ov ← attributeBase (.Call (.Name "super" p0) [] [] p1) m env (eval (.Call (.Name "super" p0) [] [] p1) env)
      standAt p2.atName
      let (f, first) ← holding [ov] (calleeOf true (.Call (.Name "super" p0) [] [] p1) env ov m)
      let callPos ← methodCallPos true (.Call (.Name "super" p0) [] [] p1) env p2 p4
      callWith callPos f first (backTo p4 (starEach [.Name x p3] env)) (backToKw p4 (keywordEach [] env))) = _
  simp only [hpos]
  rfl
theorem sup_ev2 {p0 p1 p2 p3 p4 p5 : Pos} {m x y : Str} (hl : (p2.endLine == p4.line) = true) (env : Env) : eval (.Call (.Attribute (.Call (.Name "super" p0) [] [] p1) m p2) [.Name x p3, .Name y p5] [] p4) env = (do
      let ov ← attributeBase (.Call (.Name "super" p0) [] [] p1) m env (eval (.Call (.Name "super" p0) [] [] p1) env)
      standAt p2.atName
      let (f, first) ← holding [ov] (getMethod ov m (do return (← importBound (.Call (.Name "super" p0) [] [] p1) env).getD true))
      callWith p4 f first (backTo p4 (starEach [.Name x p3, .Name y p5] env)) []) := by
  have hpos : ∀ o : Expr, methodCallPos true o env p2 p4 = pure p4 := fun o => by
    unfold methodCallPos
    simp [hl]
  conv => lhs; unfold eval
  show (do
      let ov ← attributeBase (.Call (.Name "super" p0) [] [] p1) m env (eval (.Call (.Name "super" p0) [] [] p1) env)
      standAt p2.atName
      let (f, first) ← holding [ov] (calleeOf true (.Call (.Name "super" p0) [] [] p1) env ov m)
      let callPos ← methodCallPos true (.Call (.Name "super" p0) [] [] p1) env p2 p4
      callWith callPos f first (backTo p4 (starEach [.Name x p3, .Name y p5] env)) (backToKw p4 (keywordEach [] env))) = _
  simp only [hpos]
  rfl
/-- a method of Calls whose function may be lacking: then the class above answers -/
def spKS (P : Program) (w : World) (K : PySem.W.Frag) (mg : Str → Option Value) (base : Heap) (C : Addr) (mf : Str) (n : Nat) (sp : Sp) : Sp := fun vs H Q E => ∃ (kd dx : Addr) (fs : List (Str × V)) (xs : List V), vs = .ref kd :: xs ∧ xs.length = n ∧ H kd = some (.ins C dx fs) ∧
  ((fs.lookup mf = some .non ∧ sp vs H Q E) ∨ ∃ (f : Addr) (bo : Bool), fs.lookup mf = some (.ref f) ∧ (bo = true → CLO.Fnk H f) ∧ CLO.CallsTo P w K mg base CX0 14 bo f xs H Q E0)
theorem ok_Kpenalty {C f f2 : Addr} {F : NdefX.NF} {fd fd2 : FuncData} {F0 : Str} {k : Nat} {sp : Sp} (hk : 14 ≤ k) (Z : CF.ClsF K f F fd) (ep : F.params = defArgs s_Calls_penalty) (eb : F.body = defBody s_Calls_penalty) (es : F.scope = defScope s_Calls_penalty) (c : KC K C) (hs : SU.supI F0 K C C f f2 "penalty" = true) (O : SU.SupOk F0 P) (msup : mg "super" = none)
    (G : FnOk P w K mg base CX0 k f2 fd2 ["self", "label", "key"] sp) (hb2 : Binds K fd2 ["self", "label", "key"] []) : FnOk P w K mg base CX0 (k + 1) f fd ["self", "label", "key"] (spKS P w K mg base C "penalty_function" 2 sp) := by
  obtain ⟨nm, qual, params, body, scope, cl, co⟩ := F
  obtain rfl : body = _ := eb
  obtain rfl : scope = _ := es
  obtain rfl : params = _ := ep
  refine FnOk.imp (SU.ok_superIf (N := n_Calls_penalty) (ps := ["self", "label", "key"]) (ps' := ["label", "key"]) (t := tCons (tVar 1) (tCons (tVar 2) tNil)) (C := C) nsc_Calls_penalty (SU.supI_ok hs O Z (by intro h; cases h)) rfl rfl (by show (defScope s_Calls_penalty).names.lookup ("super" : Str) = _; decide +kernel) rfl O.top msup (by decide +kernel) (SU.fnR_of G hb2)
    (fun A outer s H E hr => pt_cmp (pc_isN (DN.pe_fldK (K := K) (pe_var (i := 0) rfl (.inl (nsc_Calls_penalty.par _ (by decide +kernel)))) rfl)))
    (fun A outer s H E hr => pss_one (ps_ret (CLO.pe_fcall (P := P) (w := w) (K := K) (mg := mg) (base := base) (CX := CX0) (n := 14) (pe_var (i := 0) rfl (.inl (nsc_Calls_penalty.par _ (by decide +kernel)))) (hr.mono (by omega)) pass0 (pa_cons (pe_var (i := 1) rfl (.inl (nsc_Calls_penalty.par _ (by decide +kernel)))) (pa_cons (pe_var (i := 2) rfl (.inl (nsc_Calls_penalty.par _ (by decide +kernel)))) pa_nil)))))
    (fun g A outer s H E => (pa_cons (pe_var (i := 1) rfl (.inl (nsc_Calls_penalty.par _ (by decide +kernel)))) (pa_cons (pe_var (i := 2) rfl (.inl (nsc_Calls_penalty.par _ (by decide +kernel)))) pa_nil))) (fun _ _ _ _ _ _ => pass0) (fun _ => rfl) (fun _ => rfl) (sup_ev2 rfl)) (fun vs H Q E hh => ?_)
  obtain ⟨kd, dx, fs, xs, rfl, hn, hkd, q⟩ := hh
  obtain ⟨x, y, rfl⟩ : ∃ x y, xs = [x, y] := by
    match xs, hn with
    | [x, y], _ => exact ⟨_, _, rfl⟩
  rcases q with ⟨hl, q⟩ | ⟨g, bo, hl, hf, q⟩
  · exact ⟨rfl, _, rfl, kd, C, dx, fs, _, rfl, hkd, c.cl, c.na _ (by decide), hl, _, rfl, iteT ⟨kd, dx, fs, rfl, hkd, _, rfl, _, rfl, q⟩⟩
  · exact ⟨rfl, _, rfl, kd, C, dx, fs, _, rfl, hkd, c.cl, c.na _ (by decide), hl, _, rfl, iteF ⟨_, rfl, kd, C, dx, fs, g, bo, rfl, hkd, c.cl, c.na _ (by decide), hl, hf, _, rfl, _, rfl, q⟩⟩
theorem ok_Ksides {C f f2 : Addr} {F : NdefX.NF} {fd fd2 : FuncData} {F0 : Str} {k : Nat} {sp : Sp} (hk : 14 ≤ k) (Z : CF.ClsF K f F fd) (ep : F.params = defArgs s_Calls_sides) (eb : F.body = defBody s_Calls_sides) (es : F.scope = defScope s_Calls_sides) (c : KC K C) (hs : SU.supI F0 K C C f f2 "sides" = true) (O : SU.SupOk F0 P) (msup : mg "super" = none)
    (G : FnOk P w K mg base CX0 k f2 fd2 ["self", "labels"] sp) (hb2 : Binds K fd2 ["self", "labels"] []) : FnOk P w K mg base CX0 (k + 1) f fd ["self", "labels"] (spKS P w K mg base C "sides_function" 1 sp) := by
  obtain ⟨nm, qual, params, body, scope, cl, co⟩ := F
  obtain rfl : body = _ := eb
  obtain rfl : scope = _ := es
  obtain rfl : params = _ := ep
  refine FnOk.imp (SU.ok_superIf (N := n_Calls_sides) (ps := ["self", "labels"]) (ps' := ["labels"]) (t := tCons (tVar 1) tNil) (C := C) nsc_Calls_sides (SU.supI_ok hs O Z (by intro h; cases h)) rfl rfl (by show (defScope s_Calls_sides).names.lookup ("super" : Str) = _; decide +kernel) rfl O.top msup (by decide +kernel) (SU.fnR_of G hb2)
    (fun A outer s H E hr => pt_cmp (pc_isN (DN.pe_fldK (K := K) (pe_var (i := 0) rfl (.inl (nsc_Calls_sides.par _ (by decide +kernel)))) rfl)))
    (fun A outer s H E hr => pss_one (ps_ret (CLO.pe_fcall (P := P) (w := w) (K := K) (mg := mg) (base := base) (CX := CX0) (n := 14) (pe_var (i := 0) rfl (.inl (nsc_Calls_sides.par _ (by decide +kernel)))) (hr.mono (by omega)) pass0 (pa_cons (pe_var (i := 1) rfl (.inl (nsc_Calls_sides.par _ (by decide +kernel)))) pa_nil))))
    (fun g A outer s H E => (pa_cons (pe_var (i := 1) rfl (.inl (nsc_Calls_sides.par _ (by decide +kernel)))) pa_nil)) (fun _ _ _ _ _ _ => pass0) (fun _ => rfl) (fun _ => rfl) (sup_ev1 rfl)) (fun vs H Q E hh => ?_)
  obtain ⟨kd, dx, fs, xs, rfl, hn, hkd, q⟩ := hh
  obtain ⟨x, rfl⟩ : ∃ x, xs = [x] := by
    match xs, hn with
    | [x], _ => exact ⟨_, rfl⟩
  rcases q with ⟨hl, q⟩ | ⟨g, bo, hl, hf, q⟩
  · exact ⟨rfl, _, rfl, kd, C, dx, fs, _, rfl, hkd, c.cl, c.na _ (by decide), hl, _, rfl, iteT ⟨kd, dx, fs, rfl, hkd, _, rfl, q⟩⟩
  · exact ⟨rfl, _, rfl, kd, C, dx, fs, _, rfl, hkd, c.cl, c.na _ (by decide), hl, _, rfl, iteF ⟨_, rfl, kd, C, dx, fs, g, bo, rfl, hkd, c.cl, c.na _ (by decide), hl, hf, _, rfl, q⟩⟩
theorem ok_Kdistance {C f f2 : Addr} {F : NdefX.NF} {fd fd2 : FuncData} {F0 : Str} {k : Nat} {sp : Sp} (hk : 14 ≤ k) (Z : CF.ClsF K f F fd) (ep : F.params = defArgs s_Calls_distance) (eb : F.body = defBody s_Calls_distance) (es : F.scope = defScope s_Calls_distance) (c : KC K C) (hs : SU.supI F0 K C C f f2 "distance" = true) (O : SU.SupOk F0 P) (msup : mg "super" = none)
    (G : FnOk P w K mg base (L2.CX P w) k f2 fd2 ["self", "key", "point"] sp) (hb2 : Binds K fd2 ["self", "key", "point"] []) : FnOk P w K mg base (L2.CX P w) (k + 1) f fd ["self", "key", "point"] (spKS P w K mg base C "distance_function" 2 sp) := by
  obtain ⟨nm, qual, params, body, scope, cl, co⟩ := F
  obtain rfl : body = _ := eb
  obtain rfl : scope = _ := es
  obtain rfl : params = _ := ep
  refine FnOk.imp (SU.ok_superIf (N := n_Calls_distance) (ps := ["self", "key", "point"]) (ps' := ["key", "point"]) (t := tCons (tVar 1) (tCons (tVar 2) tNil)) (C := C) nsc_Calls_distance (SU.supI_ok hs O Z (by intro h; cases h)) rfl rfl (by show (defScope s_Calls_distance).names.lookup ("super" : Str) = _; decide +kernel) rfl O.top msup (by decide +kernel) (SU.fnR_of G hb2)
    (fun A outer s H E hr => pt_cmp (pc_isN (DN.pe_fldK (K := K) (pe_var (i := 0) rfl (.inl (nsc_Calls_distance.par _ (by decide +kernel)))) rfl)))
    (fun A outer s H E hr => pss_one (ps_ret (CLO.pe_fcall (P := P) (w := w) (K := K) (mg := mg) (base := base) (CX := CX0) (n := 14) (pe_var (i := 0) rfl (.inl (nsc_Calls_distance.par _ (by decide +kernel)))) (hr.mono (by omega)) pass0 (pa_cons (pe_var (i := 1) rfl (.inl (nsc_Calls_distance.par _ (by decide +kernel)))) (pa_cons (pe_var (i := 2) rfl (.inl (nsc_Calls_distance.par _ (by decide +kernel)))) pa_nil)))))
    (fun g A outer s H E => (pa_cons (pe_var (i := 1) rfl (.inl (nsc_Calls_distance.par _ (by decide +kernel)))) (pa_cons (pe_var (i := 2) rfl (.inl (nsc_Calls_distance.par _ (by decide +kernel)))) pa_nil))) (fun _ _ _ _ _ _ => (passes_call (takes_of rfl rfl rfl rfl) (fun _ _ _ _ h => h))) (fun _ => rfl) (fun _ => rfl) (sup_ev2 rfl)) (fun vs H Q E hh => ?_)
  obtain ⟨kd, dx, fs, xs, rfl, hn, hkd, q⟩ := hh
  obtain ⟨x, y, rfl⟩ : ∃ x y, xs = [x, y] := by
    match xs, hn with
    | [x, y], _ => exact ⟨_, _, rfl⟩
  rcases q with ⟨hl, q⟩ | ⟨g, bo, hl, hf, q⟩
  · exact ⟨rfl, _, rfl, kd, C, dx, fs, _, rfl, hkd, c.cl, c.na _ (by decide), hl, _, rfl, iteT ⟨kd, dx, fs, rfl, hkd, _, rfl, _, rfl, q⟩⟩
  · exact ⟨rfl, _, rfl, kd, C, dx, fs, _, rfl, hkd, c.cl, c.na _ (by decide), hl, _, rfl, iteF ⟨_, rfl, kd, C, dx, fs, g, bo, rfl, hkd, c.cl, c.na _ (by decide), hl, hf, _, rfl, _, rfl, q⟩⟩
theorem ok_Kbound {C f f2 : Addr} {F : NdefX.NF} {fd fd2 : FuncData} {F0 : Str} {k : Nat} {sp : Sp} (hk : 14 ≤ k) (Z : CF.ClsF K f F fd) (ep : F.params = defArgs s_Calls_bound) (eb : F.body = defBody s_Calls_bound) (es : F.scope = defScope s_Calls_bound) (c : KC K C) (hs : SU.supI F0 K C C f f2 "bound" = true) (O : SU.SupOk F0 P) (msup : mg "super" = none)
    (G : FnOk P w K mg base (L2.CX P w) k f2 fd2 ["self", "label", "point"] sp) (hb2 : Binds K fd2 ["self", "label", "point"] []) : FnOk P w K mg base (L2.CX P w) (k + 1) f fd ["self", "label", "point"] (spKS P w K mg base C "bound_function" 2 sp) := by
  obtain ⟨nm, qual, params, body, scope, cl, co⟩ := F
  obtain rfl : body = _ := eb
  obtain rfl : scope = _ := es
  obtain rfl : params = _ := ep
  refine FnOk.imp (SU.ok_superIf (N := n_Calls_bound) (ps := ["self", "label", "point"]) (ps' := ["label", "point"]) (t := tCons (tVar 1) (tCons (tVar 2) tNil)) (C := C) nsc_Calls_bound (SU.supI_ok hs O Z (by intro h; cases h)) rfl rfl (by show (defScope s_Calls_bound).names.lookup ("super" : Str) = _; decide +kernel) rfl O.top msup (by decide +kernel) (SU.fnR_of G hb2)
    (fun A outer s H E hr => pt_cmp (pc_isN (DN.pe_fldK (K := K) (pe_var (i := 0) rfl (.inl (nsc_Calls_bound.par _ (by decide +kernel)))) rfl)))
    (fun A outer s H E hr => pss_one (ps_ret (CLO.pe_fcall (P := P) (w := w) (K := K) (mg := mg) (base := base) (CX := CX0) (n := 14) (pe_var (i := 0) rfl (.inl (nsc_Calls_bound.par _ (by decide +kernel)))) (hr.mono (by omega)) pass0 (pa_cons (pe_var (i := 1) rfl (.inl (nsc_Calls_bound.par _ (by decide +kernel)))) (pa_cons (pe_var (i := 2) rfl (.inl (nsc_Calls_bound.par _ (by decide +kernel)))) pa_nil)))))
    (fun g A outer s H E => (pa_cons (pe_var (i := 1) rfl (.inl (nsc_Calls_bound.par _ (by decide +kernel)))) (pa_cons (pe_var (i := 2) rfl (.inl (nsc_Calls_bound.par _ (by decide +kernel)))) pa_nil))) (fun _ _ _ _ _ _ => (passes_call (takes_of rfl rfl rfl rfl) (fun _ _ _ _ h => h))) (fun _ => rfl) (fun _ => rfl) (sup_ev2 rfl)) (fun vs H Q E hh => ?_)
  obtain ⟨kd, dx, fs, xs, rfl, hn, hkd, q⟩ := hh
  obtain ⟨x, y, rfl⟩ : ∃ x y, xs = [x, y] := by
    match xs, hn with
    | [x, y], _ => exact ⟨_, _, rfl⟩
  rcases q with ⟨hl, q⟩ | ⟨g, bo, hl, hf, q⟩
  · exact ⟨rfl, _, rfl, kd, C, dx, fs, _, rfl, hkd, c.cl, c.na _ (by decide), hl, _, rfl, iteT ⟨kd, dx, fs, rfl, hkd, _, rfl, _, rfl, q⟩⟩
  · exact ⟨rfl, _, rfl, kd, C, dx, fs, _, rfl, hkd, c.cl, c.na _ (by decide), hl, _, rfl, iteF ⟨_, rfl, kd, C, dx, fs, g, bo, rfl, hkd, c.cl, c.na _ (by decide), hl, hf, _, rfl, _, rfl, q⟩⟩
end
end K10
set_option Elab.async false
set_option linter.all false
set_option maxRecDepth 100000
set_option maxHeartbeats 2000000
namespace K10
open PySem PySem.Spec PyProof.Rows L2 CM DN GR SRT RZ
section
variable {P : Program} {w : World} {K : PySem.W.Frag} {mg : Str → Option Value} {base : Heap}
/-! ### Counted -/
def spErr (CB : Addr) : Sp := fun vs H Q _ => ∃ (e : Addr) (v : V), vs = [.ref e, v] ∧ H e = some (exo e CB none) ∧ ∀ dx, H dx = none → dx ≠ e → Q .non (upd (upd H dx (exd dx [("value", v)])) e (exo e CB (some dx)))
theorem ok_err {CB f : Addr} {fd : FuncData} {k : Nat} (F : FnP K "__init__" "BadValue.__init__" s_BadValue___init f fd) (T : OexC K CB) (nv : PySem.W.findIn K (.ref CB) "value" = some none) : FnOk P w K mg base CX0 (k + 1) f fd ["self", "value"] (spErr CB) := by
  refine F.ok sc_BadValue___init (fun vs H Q E h => ?_) (fun cdv A outer s H vs Q E hr h => ?_)
  · obtain ⟨e, v, rfl, _⟩ := h
    rfl
  · obtain ⟨e, v, rfl, he, q⟩ := h
    refine ⟨_, pss_one (ps_ost (pv 0) (pv 1)), ?_⟩
    exact ⟨_, rfl, _, rfl, e, CB, rfl, T, nv, .inl ⟨he, fun dx n ne => q dx n ne⟩⟩
structure NC (K : PySem.W.Frag) (C : Addr) : Prop where
  cl : Cls K C
  n1 : NoAttr K C "function"
  n2 : NoAttr K C "arguments"
  n3 : NoAttr K C "made"
def cnt (f : V) (ar n : Int) : List (Str × V) := [("function", f), ("arguments", .int ar), ("made", .int n)]
/-- what is no number of arguments, and how it shows -/
def BadA (K : PySem.W.Frag) (H : Hp) (v : V) : Prop := ∃ (t : Value) (bi bb : Bool), TyX K H v t ∧ PySem.W.kitOne K t (.type "int") = some bi ∧ (bi = true → PySem.W.kitOne K t (.type "bool") = some bb) ∧ ((bi && !bb) = true → ∃ i : Int, v = .int i ∧ ¬ (1 ≤ i ∧ i ≤ 2))
def spNInit (K : PySem.W.Frag) (C CB : Addr) : Sp := fun vs H Q E => ∃ (b dx : Addr) (f v : V), vs = [.ref b, f, v] ∧ H b = some (.ins C dx []) ∧
  ((∃ a : Int, v = .int a ∧ 1 ≤ a ∧ a ≤ 2 ∧ Q .non (upd H b (.ins C dx (cnt f a 0)))) ∨ (BadA K H v ∧ ∀ (d : Addr) (H' : Hp), H d = none → Same H H' → H' d = some (.xd [("value", v)]) → E (.ref CB) (some d) H'))
/-- what BadValue asks, to be raised -/
structure ErB (P : Program) (w : World) (K : PySem.W.Frag) (mg : Str → Option Value) (base : Heap) (CB : Addr) (f_B : Addr) (fd_B : FuncData) : Prop where
  m : mg "BadValue" = some (.ref CB)
  T : OexC K CB
  iC : PySem.W.findIn K (.ref CB) "__init__" = some (some (.ref f_B))
  tI : PySem.W.typeIn K (.ref f_B) = some (.type "function")
  G : FnOk P w K mg base CX0 1 f_B fd_B ["self", "value"] (spErr CB)
  b : Binds K fd_B ["self", "value"] []
theorem ok_Ninit {C CB f f_B : Addr} {fd fd_B : FuncData} {k : Nat} (hk : 3 ≤ k) (F : FunD K "__init__" "Counted.__init__" (defArgs s_Counted___init) (defBody s_Counted___init) (defScope s_Counted___init) [V.int 2] [] f fd) (c : NC K C) (B : ErB P w K mg base CB f_B fd_B) (C_is_int : Cal P w K mg base CX0 "is_int" 1 ["thing"] (spInt K)) :
    FnOk P w K mg base (L2.CX P w) (k + 1) f fd ["self", "function", "arguments"] (spNInit K C CB) := by
  obtain ⟨f_is_int, fd_is_int, G_is_int, b_is_int, m_is_int, k_is_int⟩ := C_is_int
  obtain ⟨m_BadValue, T_B, iC_B, tI_B, G_B, b_B⟩ := B
  refine F.ok sc_Counted___init (fun vs H Q E h => ?_) (fun cdv A outer s H vs Q E hr h => ?_)
  · obtain ⟨b, dx, g, v, rfl, _⟩ := h
    rfl
  · obtain ⟨b, dx, g, v, rfl, hb, q⟩ := h
    refine ⟨_, pss_cons (ps_if (PW.pt (pw_or (pt_not (pt_val (pe_call G_is_int (hr.mono (by omega)) (by rfl) m_is_int k_is_int b_is_int .nil pass0 (pa_cons (pv 2) pa_nil)))) (pw_or1 (pt_not (pt_chain op_le op_le pe_int (pv 2) pe_int))))) (pss_one (ps_raise rfl (takes_of rfl rfl rfl rfl) (pmk_oex T_B iC_B tI_B G_B (hr.mono (by omega)) b_B .nil pass0 (by rfl) m_BadValue (pa_cons (pv 2) pa_nil)))) (pss_nil))
    (pss_cons (ps_fld (pv 0) (pv 1) rfl)
    (pss_cons (ps_fld (pv 0) (pv 2) rfl)
    (pss_one (ps_fld (pv 0) pe_int rfl)))), ?_⟩
    rcases q with ⟨n, rfl, n1, n2, q⟩ | ⟨⟨t, bi, bb, ty, ki, kb, hbad⟩, q⟩
    · have ti : TyX K H (V.int n) (.type "int") := .base (.int _)
      refine ⟨_, rfl, _, _, true, false, rfl, ti, kit_ty (by decide +kernel), fun _ => kit_ty (by decide +kernel), true, rfl, iteF ?_⟩
      refine ⟨_, rfl, 1, n, rfl, rfl, _, rfl, ite2 (fun _ => ⟨n, 2, rfl, rfl, _, rfl, ite2 (fun e => ?_) (fun _ => ?_)⟩) (fun e => absurd (decide_eq_true (show (1 : Int) ≤ n by omega)) e)⟩
      · rw [decide_eq_true (show n ≤ 2 by omega)] at e
        cases e
      · refine ⟨_, rfl, _, rfl, b, C, dx, [], rfl, hb, c.cl, c.n1, (by show 0 < 1000; decide), ?_⟩
        refine ⟨_, rfl, _, rfl, b, C, dx, [("function", g)], rfl, upd_same, c.cl, c.n2, (by show 1 < 1000; decide), ?_⟩
        rw [upd_upd]
        refine ⟨_, rfl, b, C, dx, [("function", g), ("arguments", .int n)], rfl, upd_same, c.cl, c.n3, (by show 2 < 1000; decide), ?_⟩
        rw [upd_upd]
        exact q
    · have go : tMkO CB (spErr CB) [] (tCons (tVar 2) tNil) (L2.start n_Counted___init [V.ref b, g, v]) H fun cls d H' => E cls d H' := by
        refine ⟨_, rfl, by show 1 ≤ 1000; decide, fun a na => ⟨a, v, rfl, upd_same, fun d nd ne => ?_⟩⟩
        have hd : H d = none := by
          rw [upd_ne ne] at nd
          exact nd
        refine ⟨rfl, d, [("value", v)], upd_same, by rw [upd_ne ne]; exact upd_same, hd, q d _ hd (fun b o e => ?_) upd_same⟩
        have bd : b ≠ d := ne_of_none e hd
        have ba : b ≠ a := ne_of_none e na
        rw [upd_ne bd, del_ne ba, upd_ne ba, upd_ne bd, upd_ne ba]
        exact e
      refine ⟨_, rfl, v, t, bi, bb, rfl, ty, ki, kb, _, rfl, ite2 (fun _ => iteT go) (fun e => ?_)⟩
      have e2 : (bi && !bb) = true := by
        cases h : (bi && !bb) with
        | true => rfl
        | false => exact absurd (by rw [h]; rfl) e
      obtain ⟨i, rfl, hi⟩ := hbad e2
      refine ⟨_, rfl, 1, i, rfl, rfl, _, rfl, ite2 (fun e3 => ⟨i, 2, rfl, rfl, _, rfl, ite2 (fun _ => go) (fun e4 => ?_)⟩) (fun e3 => ⟨_, rfl, iteT go⟩)⟩
      have a1 : (1 : Int) ≤ i := of_decide_eq_true e3
      have a2 : ¬ i ≤ 2 := fun z => hi ⟨a1, z⟩
      rw [decide_eq_false a2] at e4
      exact absurd rfl e4
end
end K10
set_option Elab.async false
set_option linter.all false
set_option maxRecDepth 100000
set_option maxHeartbeats 2000000
namespace K10
open PySem PySem.Spec PyProof.Rows L2 CM DN GR SRT RZ
section
variable {P : Program} {w : World} {K : PySem.W.Frag} {mg : Str → Option Value} {base : Heap}
theorem calls_up {n : Nat} {b : Bool} {f : Addr} {vs : List V} {H : Hp} {Q : VK} {E : XK} {CX : CXT} (c : CLO.CallsTo P w K mg base CX0 n b f vs H Q E0) : CLO.CallsTo P w K mg base CX n b f vs H Q E := fun A outer s us hr e0 r =>
  have z := c A outer s us hr e0 r
  ⟨z.1, wpAny_mono z.2 (fun _ _ h => h) fun _ _ h => h.elim⟩
/-- the heap with one call more -/
abbrev made1 (C dx : Addr) (f : V) (ar n : Int) (b : Addr) (H : Hp) : Hp := upd H b (.ins C dx (cnt f ar (n + 1)))
def spNCall (P : Program) (w : World) (K : PySem.W.Frag) (mg : Str → Option Value) (base : Heap) (C : Addr) : Sp := fun vs H Q E => ∃ (b dx f : Addr) (bo : Bool) (ar n : Int) (x y : V), vs = [.ref b, x, y] ∧ H b = some (.ins C dx (cnt (.ref f) ar n)) ∧ (bo = true → CLO.Fnk (made1 C dx (.ref f) ar n b H) f) ∧
  ((ar = 1 ∧ CLO.CallsTo P w K mg base (L2.CX P w) 12 bo f [x] (made1 C dx (.ref f) ar n b H) Q E) ∨ (ar = 2 ∧ CLO.CallsTo P w K mg base (L2.CX P w) 12 bo f [x, y] (made1 C dx (.ref f) ar n b H) Q E))
theorem ok_Ncall {C f : Addr} {fd : FuncData} {k : Nat} (hk : 12 ≤ k) (F : FunD K "__call__" "Counted.__call__" (defArgs s_Counted___call) (defBody s_Counted___call) (defScope s_Counted___call) [V.non] [] f fd) (c : NC K C) : FnOk P w K mg base (L2.CX P w) (k + 1) f fd ["self", "one", "other"] (spNCall P w K mg base C) := by
  refine F.ok sc_Counted___call (fun vs H Q E h => ?_) (fun cdv A outer s H vs Q E hr h => ?_)
  · obtain ⟨b, dx, g, bo, ar, n, x, y, rfl, _⟩ := h
    rfl
  · obtain ⟨b, dx, g, bo, ar, n, x, y, rfl, hb, hf, q⟩ := h
    refine ⟨_, pss_cons (ps_fldaug (pv 0) pe_int in_add)
    (pss_cons (ps_if (pt_cmpR op_eq (pe_fld (pv 0) rfl) pe_int (nomark _)) (pss_one (ps_ret (CLO.pe_fcall (P := P) (w := w) (K := K) (mg := mg) (base := base) (CX := L2.CX P w) (n := 12) (pv 0) (hr.mono (by omega)) (passes_call (takes_of rfl rfl rfl rfl) (fun _ _ _ _ h => h)) (pa_cons (pv 1) pa_nil)))) (pss_nil))
    (pss_one (ps_ret (CLO.pe_fcall (P := P) (w := w) (K := K) (mg := mg) (base := base) (CX := L2.CX P w) (n := 12) (pv 0) (hr.mono (by omega)) (passes_call (takes_of rfl rfl rfl rfl) (fun _ _ _ _ h => h)) (pa_cons (pv 1) (pa_cons (pv 2) pa_nil)))))), ?_⟩
    refine ⟨_, rfl, b, C, dx, _, .int n, rfl, hb, c.cl, c.n3, rfl, n, 1, rfl, rfl, dx, _, hb, (by show 3 < 1000; decide), ?_⟩
    refine ⟨_, rfl, b, C, dx, cnt (.ref g) ar (n + 1), .int ar, rfl, upd_same, c.cl, c.n2, rfl, rfl, _, rfl, ?_⟩
    rcases q with ⟨rfl, q⟩ | ⟨rfl, q⟩
    · exact iteT ⟨_, rfl, b, C, dx, cnt (.ref g) 1 (n + 1), g, bo, rfl, upd_same, c.cl, c.n1, rfl, hf, _, rfl, q⟩
    · exact iteF ⟨_, rfl, b, C, dx, cnt (.ref g) 2 (n + 1), g, bo, rfl, upd_same, c.cl, c.n1, rfl, hf, _, rfl, _, rfl, q⟩
/-- how often it was called -/
def spNCalls (C : Addr) : Sp := fun vs H Q _ => ∃ (b dx : Addr) (f : V) (ar n : Int), vs = [.ref b] ∧ H b = some (.ins C dx (cnt f ar n)) ∧ Q (.int n) H
theorem ok_Ncalls {C f : Addr} {fd : FuncData} {k : Nat} (F : FnP K "calls" "Counted.calls" s_Counted_calls f fd) (c : NC K C) : FnOk P w K mg base CX0 (k + 1) f fd ["self"] (spNCalls C) := by
  refine F.ok sc_Counted_calls (fun vs H Q E h => ?_) (fun cdv A outer s H vs Q E hr h => ?_)
  · obtain ⟨b, dx, g, ar, n, rfl, _⟩ := h
    rfl
  · obtain ⟨b, dx, g, ar, n, rfl, hb, q⟩ := h
    refine ⟨_, pss_one (ps_ret (pe_fld (pv 0) rfl)), ?_⟩
    exact ⟨_, rfl, b, C, dx, _, .int n, rfl, hb, c.cl, c.n3, rfl, q⟩
/-- .. and cleared -/
def spNClear (C : Addr) : Sp := fun vs H Q _ => ∃ (b dx : Addr) (f : V) (ar n : Int), vs = [.ref b] ∧ H b = some (.ins C dx (cnt f ar n)) ∧ Q (.int n) (upd H b (.ins C dx (cnt f ar 0)))
theorem ok_Nclear {C f : Addr} {fd : FuncData} {k : Nat} (F : FnP K "clear" "Counted.clear" s_Counted_clear f fd) (c : NC K C) : FnOk P w K mg base CX0 (k + 1) f fd ["self"] (spNClear C) := by
  refine F.ok sc_Counted_clear (fun vs H Q E h => ?_) (fun cdv A outer s H vs Q E hr h => ?_)
  · obtain ⟨b, dx, g, ar, n, rfl, _⟩ := h
    rfl
  · obtain ⟨b, dx, g, ar, n, rfl, hb, q⟩ := h
    refine ⟨_, pss_cons (ps_set (i := 1) sc_Counted_clear.nd rfl (.inl rfl) (pe_fld (pv 0) rfl))
    (pss_cons (ps_fld (pv 0) pe_int rfl)
    (pss_one (ps_ret (pv 1)))), ?_⟩
    refine ⟨_, rfl, b, C, dx, _, .int n, rfl, hb, c.cl, c.n3, rfl, ?_⟩
    refine ⟨_, rfl, b, C, dx, cnt g ar n, rfl, hb, c.cl, c.n3, (by show 3 < 1000; decide), ?_⟩
    exact ⟨_, rfl, q⟩
end
end K10
set_option Elab.async false
set_option linter.all false
set_option maxRecDepth 100000
set_option maxHeartbeats 2000000
namespace K10
open PySem PySem.Spec PyProof.Rows L2 CM DN GR SRT RZ
section
variable {P : Program} {w : World} {K : PySem.W.Frag} {mg : Str → Option Value} {base : Heap}
/-! ### tables of the defs that make functions; what is asked in a try -/
abbrev TT (K : PySem.W.Frag) : List (Addr × Str) := [((He.cT K ("by_repr", none)).2, ("by_repr" ++ ".<locals>.") ++ "<lambda>"), ((He.cT K ("_law_bare_right", none)).2, ("_law_bare_right" ++ ".<locals>.") ++ "<lambda>"), ((He.cT K ("_law_calls_right", none)).2, ("_law_calls_right" ++ ".<locals>.") ++ "<lambda>"), ((He.cT K ("_law_grids_right", none)).2, ("_law_grids_right" ++ ".<locals>.") ++ "<lambda>"), ((He.cT K ("_law_counted_right", none)).2, ("_law_counted_right" ++ ".<locals>.") ++ "<lambda>"), ((He.cT K ("_law_classes_right", none)).2, ("_law_classes_right" ++ ".<locals>.") ++ "<lambda>")]
def Dst (K : PySem.W.Frag) : Prop := ((TT K).map (·.1)).Nodup
theorem tt_q (d : Dst K) {i : Nat} {p0 : Addr × Str} (h : (TT K)[i]? = some p0) : ∀ p ∈ TT K, p.1 = p0.1 → p.2 = p0.2 := fun p hp e => by
  obtain ⟨j, hj⟩ := List.mem_iff_getElem?.mp hp
  have e1 : ((TT K).map (·.1))[i]? = some p0.1 := by rw [List.getElem?_map, h]; rfl
  have e2 : ((TT K).map (·.1))[j]? = some p0.1 := by rw [List.getElem?_map, hj, ← e]; rfl
  have hi : i < ((TT K).map (·.1)).length := (List.getElem?_eq_some_iff.mp e1).1
  have ij := (List.getElem?_inj hi d).mp (e1.trans e2.symm)
  rw [← ij, h] at hj
  cases hj
  rfl
theorem takes_len {X : Cx} {W : WX} (tk : Takes X W) : Takes X (fun c d σ H => σ.length = X.N.length → W c d σ H) := fun u s' ⟨a, B, sI, pins, σ, H, cls, d, e, I, nb, up, sky, na, os, ag, w⟩ =>
  tk u s' ⟨a, B, sI, pins, σ, H, cls, d, e, I, nb, up, sky, na, os, ag, w I.len⟩
/-- what is asked of NotGiven where it is caught and its name is read -/
structure NgF (K : PySem.W.Frag) (mg : Str → Option Value) (CN : Addr) : Prop where
  m : mg "NotGiven" = some (.ref CN)
  XF : XfC K CN
  nV : PySem.W.findIn K (.ref CN) "name" = some none
  te : PySem.W.exmOne K (.ref CN) (.ref CN) = some true
def TTn (CN : Addr) : (XK → Hp → VK → Prop) → Hp → VK → Prop := fun tl H Q => ∀ (E : XK) (Q' : VK), (∀ (d : Addr) (H' : Hp) (v : V), H' d = some (.xd [("name", v)]) → Q v H' → E (.ref CN) (some d) H') → tl E H Q'
theorem gives_name {X : Cx} {CN g : Addr} {cdg : Value} {q : Str} (nf : NgF X.K X.mg CN) : LamX.GivesTo X n_law_name_of "_law_name_of" (defScope s_law_name_of) g cdg (defBody s_law_name_of) "_law_ask" q (TTn CN) := by
  intro f c' s H Q tl hact hco h
  refine ⟨_, pss_cons (ps_try_as (i := 1) rfl rfl sc_law_name_of.nd rfl rfl ⟨rfl, by decide, .inl nf.m⟩ LamX.takes0
      (fun W pn xe tk _ => pss_one (ps_expr (hact _ pn xe (fun cls d H' => ∀ σ' : L2.St, σ'.length = 2 → W cls d σ' H') _ _ (takes_len tk) (fun cls d σ' H' hh hl => hh σ' hl))))
      (fun a oe cls d pn hz hf => pss_one (ps_ret (pe_xf nf.XF nf.nV hz hf (pv 1)))))
    (pss_one (ps_ret pe_non)), ?_⟩
  refine ⟨rfl, hco, h _ _ fun d H' v hd qq => ?_⟩
  intro σ' hl
  match σ', hl with
  | [v0, v1], _ =>
    refine ⟨true, nf.te, fun _ a na => ?_, fun e => by cases e⟩
    exact ⟨_, rfl, rfl, rfl, d, _, v, rfl, hd, rfl, qq⟩
structure Tells (K : PySem.W.Frag) (mg : Str → Option Value) (nm a : Str) (st : Stmt) : Prop where
  ex : ∃ (g : Addr) (oc dV kV doc pm cdv ct : Value) (od an : Option Addr) (osl : Array (Option Value)), mg nm = some (.ref g) ∧ PySem.W.keepIn K (.ref g) = true ∧
    K.lookup g = some ⟨oc, od, .func (PySem.W.fnOf nm nm (defArgs st) (defBody st) (defScope st) dV kV doc pm an cdv ct), osl⟩ ∧ PySem.W.codeIn K cdv nm = true ∧ L2.Binds K (PySem.W.fnOf nm nm (defArgs st) (defBody st) (defScope st) dV kV doc pm an cdv ct) [a] []
theorem tells_of {nm a : Str} {st : Stmt} {f : Addr} {fd : FuncData} (F : FnP K nm nm st f fd) (m : mg nm = some (.ref f)) (b : L2.Binds K fd [a] []) : Tells K mg nm a st := by
  obtain ⟨oc, od, dV, kV, doc, pm, an, cdv, ct, osl, rfl, lk, hcd, _, _⟩ := F.ex
  exact ⟨⟨f, oc, dV, kV, doc, pm, cdv, ct, od, an, osl, m, F.kp, lk, hcd, b⟩⟩
theorem pe_name {X : Cx} {T : List (Addr × Str)} {CN c P0 : Addr} {k : Nat} {params : Arguments} {body : Expr} {scope : Scope} {p lpos pos : Pos} {t : XK → TE} (R : Tells X.K X.mg "_law_name_of" "_law_ask" s_law_name_of) (nf : NgF X.K X.mg CN) (TB : LamX.TabB X.base X.mg c P0) (hcode : X.env.code = .ref c)
    (hmT : (P0, X.env.qual ++ "<lambda>") ∈ T) (hu : ∀ p ∈ T, p.1 = P0 → p.2 = X.env.qual ++ "<lambda>") (hr : Room (k + 2) X.A) (hg : Gl X "_law_name_of") (L : LamX.LamS X.env.scope scope) (hdef : defaultsOf params X.env = ([], []))
    (hbind : ∀ (q : Str) (cl : List (Str × Addr)) (pm cv ctv : Value), bindArgs (PySem.W.kla_fn "<lambda>" q params body scope cl pm cv ctv) ⟨[], []⟩ = pure [])
    (hbody : ∀ (A : Around) (outer : List Env) (s : Shared) (H : Hp) (E : XK) (f c' : Addr), Room k (A.deeper (LamX.lamEnv X scope s.heap.objs.size f c')) → PE (LamX.lamCx X A outer s H E scope f c') body (t E)) :
    PE X (.Call (.Name "_law_name_of" p) [.Lambda params body scope lpos] [] pos) (LamX.tLam T (TTn CN) t) := by
  obtain ⟨g, oc, dV, kV, doc, pm, cdv, ct, od, an, osl, hm, hk, lk, hcg, hb⟩ := R.ex
  exact LamX.pe_lamcall hg hm hk lk hcg hb sc_law_name_of rfl (.inl rfl) (gives_name nf) TB hcode hmT hu hr L hdef hbind hbody
def spRight (K : PySem.W.Frag) : Sp := fun vs H Q _ => ∃ (p : Addr) (x c : Int), vs = [.ref p] ∧ H p = some (.lst [.int x, .int c]) ∧ LamX.Tabs (TT K) H ∧
  ∀ (H' : Hp) (x' c' : Int), SL.KpN p H H' → LamX.Tabs (TT K) H' → H' p = some (.lst [.int x', .int c']) → Q (.bl true) H'
def spHv : Sp := fun vs H Q _ => ∃ m : Nat, vs = [.int (m : Int)] ∧ m ≤ 30 ∧ ∀ (r : Addr) (H' : Hp), Same H H' → H' r = some (.lst (sidesOf m)) → Q (.ref r) H'
theorem ok_halves {f : Addr} {fd : FuncData} {k : Nat} (F : FnP K "_law_halves" "_law_halves" s_law_halves f fd) (m_range : mg "range" = none) (m_int : mg "int" = none) : FnOk P w K mg base CX0 (k + 1) f fd ["_law_count"] spHv := by
  refine F.ok sc_law_halves (fun vs H Q E h => ?_) (fun cdv A outer s H vs Q E hr h => ?_)
  · obtain ⟨m, rfl, _⟩ := h
    rfl
  · obtain ⟨m, rfl, hm, q⟩ := h
    refine ⟨_, pss_one (ps_ret (pe_lc (own := [("_law_at", 1)]) rfl sc_law_halves.nd (pi_range1 (by rfl) m_range (pa_cons (pv 0) pa_nil)) (blkOk_by (N := n_law_halves) (sc := defScope s_law_halves) (by decide +kernel)) (fun _ _ _ _ _ => pg_name (i := 1) sc_law_halves.nd rfl (.inl rfl)) (fun _ _ _ _ _ => pts_nil) (fun _ _ _ _ _ => (pe_callTy call_int1 (by rfl) m_int boot_int (pa_cons (pe_cmpR op_ge (pv 1) (pe_op op_fdiv (pv 0) pe_int) (nomark _)) pa_nil))))), ?_⟩
    refine ⟨_, rfl, _, rfl, by omega, by omega, fun D nD => ?_⟩
    rw [Int.toNat_natCast]
    refine lc_range (lo := 0) (n := m) (fun j H' => ∃ xs, xs = (sidesOf m).take j ∧ Same H H' ∧ H' D = some (.lst xs)) ⟨_, rfl, same_upd nD, upd_same⟩ ?_ ?_
    · rintro j H3 hj ⟨xs, rfl, s3, hD⟩
      refine ⟨rfl, _, rfl, ?_⟩
      have ej : (sidesOf m)[j]? = some (V.int (if decide ((m : Int) / 2 ≤ 0 + (j : Int)) = true then 1 else 0)) := by
        unfold sidesOf
        rw [List.getElem?_map, List.getElem?_range hj]
        refine congrArg some (congrArg V.int ?_)
        by_cases h : j < m / 2
        · rw [if_pos h, if_neg]
          intro z
          have := of_decide_eq_true z
          omega
        · rw [if_neg h, if_pos]
          exact decide_eq_true (by omega)
      refine ⟨_, rfl, (m : Int), 2, rfl, rfl, ⟨by decide, by decide⟩, _, _, rfl, rfl, .inr ⟨_, rfl, _, hD, ?_, _, ?_, fun b u e => ?_, upd_same⟩⟩
      · exact Nat.lt_of_le_of_lt (List.length_take_le ..) (small1000 (by omega))
      · rw [List.take_succ, ej]
        rfl
      · rw [upd_ne (ne_of_none e nD)]
        exact s3 b u e
    · rintro H3 ⟨xs, rfl, s3, hD⟩
      refine q D H3 s3 ?_
      rw [hD, List.take_of_length_le]
      unfold sidesOf
      rw [List.length_map, List.length_range]
      exact Nat.le_refl _
theorem rEq_same {H : Hp} {x y : V} {D : PyData} {Q : VK} (sx : RZ.Shw H x D) (sy : RZ.Shw H y D) (hl : D.canLay0 = true) (hd : D.depth ≤ 40) (q : Q (.bl true) H) : DN.rEqD false x y H Q := by
  refine ⟨D, D, sx, sy, hd, ?_⟩
  show Q (.bl (PyData.eqv D D)) H
  rw [SeqAt.eqv_refl _ hl]
  exact q
theorem rNe_same {H : Hp} {x y : V} {D : PyData} {Q : VK} (sx : RZ.Shw H x D) (sy : RZ.Shw H y D) (hl : D.canLay0 = true) (hd : D.depth ≤ 40) (q : Q (.bl false) H) : DN.rEqD true x y H Q := by
  refine ⟨D, D, sx, sy, hd, ?_⟩
  show Q (.bl (!PyData.eqv D D)) H
  rw [SeqAt.eqv_refl _ hl]
  exact q
theorem shw_strs {H : Hp} {r : Addr} {zs : List Str} (h : H r = some (.lst (zs.map V.str))) : RZ.Shw H (.ref r) (.list (zs.map .str)) := by
  refine .lst h ?_
  clear h
  induction zs with
  | nil => exact .nil
  | cons z zs ih => exact .cons (.str _) ih
def sidesD (n : Nat) : PyData := .list ((List.range n).map fun i => PyData.int (if i < n / 2 then 0 else 1))
theorem shw_sides {H : Hp} {r : Addr} {n : Nat} (h : H r = some (.lst (sidesOf n))) : RZ.Shw H (.ref r) (sidesD n) := by
  refine .lst h ?_
  clear h
  unfold sidesOf
  generalize List.range n = is
  induction is with
  | nil => exact .nil
  | cons z zs ih => exact .cons (.int _) ih
theorem lay_sides {n : Nat} (h : n ≤ 30) : (sidesD n).canLay0 = true ∧ (sidesD n).depth ≤ 40 := by
  have all : ∀ i : Fin 31, (sidesD i.val).canLay0 = true ∧ (sidesD i.val).depth ≤ 40 := by decide +kernel
  exact all ⟨n, by omega⟩
theorem same_made {H : Hp} {a d C : Addr} {o : HO} (na : H a = none) (nd : H d = none) : Same H (upd (upd (upd H d (.own a)) a (.ins C d [])) a o) := fun b u e => by
  have ba : b ≠ a := ne_of_none e na
  have bd : b ≠ d := ne_of_none e nd
  rw [upd_ne ba, upd_ne ba, upd_ne bd]
  exact e
end
end K10
set_option Elab.async false
set_option linter.all false
set_option maxRecDepth 100000
set_option maxHeartbeats 2000000
namespace K10
open PySem PySem.Spec PyProof.Rows L2 CM DN GR SRT RZ
section
variable {P : Program} {w : World} {K : PySem.W.Frag} {mg : Str → Option Value} {base : Heap}
/-! ### kinds by themselves -/
/-- a kind that gives nothing: what its methods promise -/
structure BareK (P : Program) (w : World) (K : PySem.W.Frag) (mg : Str → Option Value) (base : Heap) (CB CF CN : Addr) : Prop where
  mB : mg "Kind" = some (.ref CB)
  mF : mg "Measured" = some (.ref CF)
  M_B : MkO K CB
  M_F : MkO K CF
  cB : Cls K CB
  cF : Cls K CF
  own : CalM P w K mg base (L2.CX P w) CB "own" 8 ["self", "key"] (spNo CN "own" 2)
  joi : CalM P w K mg base (L2.CX P w) CB "join" 8 ["self", "one", "other"] (spNo CN "join" 3)
  con : CalM P w K mg base (L2.CX P w) CB "consistent" 8 ["self", "label", "question"] (spNo CN "consistent" 3)
  mat : CalM P w K mg base (L2.CX P w) CB "matches" 8 ["self", "key", "question"] (spNo CN "matches" 3)
  pen : CalM P w K mg base CX0 CB "penalty" 8 ["self", "label", "key"] spPen0
  sid : CalM P w K mg base CX0 CB "sides" 8 ["self", "labels"] (spKind K)
  dis : CalM P w K mg base (L2.CX P w) CF "distance" 8 ["self", "key", "point"] (spNo CN "distance" 3)
  bou : CalM P w K mg base (L2.CX P w) CF "bound" 8 ["self", "label", "point"] (spNo CN "bound" 3)
/-- Calls: its maker and what the law asks of it -/
structure CallsK (P : Program) (w : World) (K : PySem.W.Frag) (mg : Str → Option Value) (base : Heap) (C CN f : Addr) (fd : FuncData) (g : List Value → List Value → List Value) : Prop where
  M : Mk K C f
  G : FnOk P w K mg base CX0 2 f fd ["self", "own", "join", "consistent", "matches", "penalty", "sides", "distance", "bound"] (spKInit C)
  m : mg "Calls" = some (.ref C)
  kc : KC K C
  own : CalM P w K mg base CX0 C "own" 15 ["self", "key"] (spKO P w K mg base C "own_function")
  joi : CalM P w K mg base CX0 C "join" 15 ["self", "one", "other"] (spKF P w K mg base C "join_function")
  con : CalM P w K mg base CX0 C "consistent" 15 ["self", "label", "question"] (spKF P w K mg base C "consistent_function")
  mat : CalM P w K mg base CX0 C "matches" 15 ["self", "key", "question"] (spKF P w K mg base C "matches_function")
  pen : CalM P w K mg base CX0 C "penalty" 15 ["self", "label", "key"] (spKS P w K mg base C "penalty_function" 2 spPen0)
  sid : CalM P w K mg base CX0 C "sides" 15 ["self", "labels"] (spKS P w K mg base C "sides_function" 1 (spKind K))
  dis : CalM P w K mg base (L2.CX P w) C "distance" 15 ["self", "key", "point"] (spKS P w K mg base C "distance_function" 2 (spNo CN "distance" 3))
  bou : CalM P w K mg base (L2.CX P w) C "bound" 15 ["self", "label", "point"] (spKS P w K mg base C "bound_function" 2 (spNo CN "bound" 3))
/-- the law's state while names are asked for -/
structure BSt (K : PySem.W.Frag) (CB CF p b f : Addr) (x c : Int) (H Hi : Hp) : Prop where
  kn : SL.KpN p H Hi
  hp : Hi p = some (.lst [.int x, .int c])
  tb : LamX.Tabs (TT K) Hi
  ba : ∃ d, Hi b = some (.ins CB d [])
  fa : ∃ d, Hi f = some (.ins CF d [])
theorem BSt.ext {CB CF p b f : Addr} {x c : Int} {H Hi Hj : Hp} (S : BSt K CB CF p b f x c H Hi) (e : LamX.ExtN Hi Hj) (t : LamX.Tabs (TT K) Hj) : BSt K CB CF p b f x c H Hj :=
  let ⟨d, e1⟩ := S.ba
  let ⟨d2, e2⟩ := S.fa
  ⟨S.kn.trans (SL.KpN.ext e), e _ _ S.hp (fun _ z => by cases z), t, ⟨d, e _ _ e1 fun _ z => by cases z⟩, ⟨d2, e _ _ e2 fun _ z => by cases z⟩⟩
theorem BSt.same {CB CF p b f : Addr} {x c : Int} {H Hi Hj : Hp} (S : BSt K CB CF p b f x c H Hi) (s : Same Hi Hj) : BSt K CB CF p b f x c H Hj := S.ext (SL.ExtN.of_same s) (SL.Tabs.same S.tb s)
/-- a list of one's own -/
def MyL (p : Addr) (H Hi : Hp) (l : Addr) (xs : List V) : Prop := Hi l = some (.lst xs) ∧ l ≠ p ∧ ∀ o, (∀ ps, o ≠ .tbl ps) → H l ≠ some o
theorem MyL.ext {p l : Addr} {H Hi Hj : Hp} {xs : List V} (h : MyL p H Hi l xs) (e : LamX.ExtN Hi Hj) : MyL p H Hj l xs := ⟨e _ _ h.1 (fun _ z => by cases z), h.2⟩
theorem MyL.set {p l : Addr} {H Hi : Hp} {xs ys : List V} (h : MyL p H Hi l xs) : MyL p H (upd Hi l (.lst ys)) l ys := ⟨upd_same, h.2⟩
theorem BSt.put {CB CF p b f l : Addr} {x c : Int} {H Hi : Hp} {xs ys : List V} (S : BSt K CB CF p b f x c H Hi) (h : MyL p H Hi l xs) : BSt K CB CF p b f x c H (upd Hi l (.lst ys)) := by
  obtain ⟨d, e1⟩ := S.ba
  obtain ⟨d2, e2⟩ := S.fa
  obtain ⟨hl, lp, ln⟩ := h
  have off : ∀ {a : Addr} {o : HO}, Hi a = some o → (∀ zs, o ≠ .lst zs) → a ≠ l := fun {a o} e n z => by
    rw [z, hl] at e
    exact n _ (Option.some.inj e).symm
  exact ⟨fun a o na nt e => (upd_ne (fun z => ln o nt (by rw [← z]; exact e))).trans (S.kn a o na nt e), (upd_ne (Ne.symm lp)).trans S.hp, SL.Tabs.kp S.tb hl Kp.set, ⟨d, (upd_ne (off e1 (fun _ z => by cases z))).trans e1⟩, ⟨d2, (upd_ne (off e2 (fun _ z => by cases z))).trans e2⟩⟩
theorem BSt.mine {CB CF p b f l : Addr} {x c : Int} {H Hi : Hp} {xs : List V} (S : BSt K CB CF p b f x c H Hi) (n : Hi l = none) : MyL p H (upd Hi l (.lst xs)) l xs := by
  refine ⟨upd_same, fun z => ?_, ?_⟩
  · rw [z, S.hp] at n
    cases n
  · intro o nt e
    have lp : l ≠ p := fun z => by rw [z, S.hp] at n; cases n
    have := S.kn l o lp nt e
    rw [n] at this
    cases this
theorem ok_bare {CB CF CK CN fK : Addr} {fd fdK : FuncData} {k : Nat} {gK : List Value → List Value → List Value} (F : FnP K "_law_bare_right" "_law_bare_right" s_law_bare_right (He.fAd K ("_law_bare_right", none)) fd) (TB : LamX.TabB base mg (He.cT K ("_law_bare_right", none)).1 (He.cT K ("_law_bare_right", none)).2) (ds : Dst K)
    (m_list : mg "list" = none) (m_range : mg "range" = none) (R : Tells K mg "_law_name_of" "_law_ask" s_law_name_of) (nf : NgF K mg CN) (bk : BareK P w K mg base CB CF CN) (ck : CallsK P w K mg base CK CN fK fdK gK)
    (KB : KBn K fdK ["self", "own", "join", "consistent", "matches", "penalty", "sides", "distance", "bound"] 1 ["own", "join", "consistent", "matches"] gK (fun us zs => us ++ zs ++ [.non, .non, .non, .non]))
    (C_draw : Cal P w K mg base CX0 "_law_draw" 1 ["_law_well_here", "_law_many"] spDraw) (C_halves : Cal P w K mg base CX0 "_law_halves" 1 ["_law_count"] spHv) :
    FnOk P w K mg base CX0 (k + 20 + 1) (He.fAd K ("_law_bare_right", none)) fd ["_law_well_here"] (spRight K) := by
  obtain ⟨f_law_draw, fd_law_draw, G_law_draw, b_law_draw, m_law_draw, k_law_draw⟩ := C_draw
  obtain ⟨f_law_halves, fd_law_halves, G_law_halves, b_law_halves, m_law_halves, k_law_halves⟩ := C_halves
  obtain ⟨m_B, m_F, M_B, M_F, cl_B, cl_F, C1, C2, C3, C4, C5, C6, C7, C8⟩ := bk
  obtain ⟨f1, g1, G_Bown, b_Bown, me_Bown⟩ := C1
  obtain ⟨f2, g2, G_Bjoin, b_Bjoin, me_Bjoin⟩ := C2
  obtain ⟨f3, g3, G_Bconsistent, b_Bconsistent, me_Bconsistent⟩ := C3
  obtain ⟨f4, g4, G_Bmatches, b_Bmatches, me_Bmatches⟩ := C4
  obtain ⟨f5, g5, G_Bpenalty, b_Bpenalty, me_Bpenalty⟩ := C5
  obtain ⟨f6, g6, G_Bsides, b_Bsides, me_Bsides⟩ := C6
  obtain ⟨f7, g7, G_Fdistance, b_Fdistance, me_Fdistance⟩ := C7
  obtain ⟨f8, g8, G_Fbound, b_Fbound, me_Fbound⟩ := C8
  obtain ⟨M_K, G_K, m_K, kc, D1, D2, D3, D4, D5, D6, D7, D8⟩ := ck
  have cl_K := kc.cl
  obtain ⟨e5, j5, G_Kpenalty, b_Kpenalty, me_Kpenalty⟩ := D5
  obtain ⟨e6, j6, G_Ksides, b_Ksides, me_Ksides⟩ := D6
  obtain ⟨e7, j7, G_Kdistance, b_Kdistance, me_Kdistance⟩ := D7
  obtain ⟨e8, j8, G_Kbound, b_Kbound, me_Kbound⟩ := D8
  refine SL.okC F sc_law_bare_right (fun vs H Q E h => ?_) (fun A outer s H vs Q E hr h => ?_)
  · obtain ⟨p, x, c, rfl, _⟩ := h
    rfl
  · obtain ⟨p, x, c, rfl, hp, hT, q⟩ := h
    refine ⟨_, PSs.nox (pss_cons (ps_asg (pe_tup (pa_cons (pe_make00 M_B (by rfl) m_B) (pa_cons (pe_make00 M_F (by rfl) m_F) (pa_cons (pe_call G_law_draw (hr.mono (by omega)) (by rfl) m_law_draw k_law_draw b_law_draw .nil pass0 (pa_cons (pv 0) (pa_cons pe_int pa_nil))) pa_nil)))) (pg_tup rfl (pgs_cons (pg_name (i := 3) sc_law_bare_right.nd rfl (.inr rfl)) (pgs_cons (pg_name (i := 4) sc_law_bare_right.nd rfl (.inr rfl)) (pgs_cons (pg_name (i := 1) sc_law_bare_right.nd rfl (.inl rfl)) (pgs_nil))))))
    (pss_cons (ps_set (i := 2) sc_law_bare_right.nd rfl (.inl rfl) (pe_lst (pa_cons (pe_name (k := k + 16) R nf TB rfl (List.mem_of_getElem? (i := 1) rfl) (tt_q ds (i := 1) rfl) (hr.mono (by omega)) (by rfl) (LamX.lamS_by (sc := defScope s_law_bare_right) (by decide +kernel)) rfl (fun _ _ _ _ _ => rfl) (fun A outer s H E f c' hr => pe_meth (pv 3) cl_B me_Bown G_Bown (hr.mono (by omega)) b_Bown .nil (passes_call (takes_of rfl rfl rfl rfl) (fun _ _ _ _ h => h)) (pa_cons pe_int pa_nil))) pa_nil)))
    (pss_cons (ps_expr (pe_bm PySem.F.plainAttrs_list PySem.F.slot_list_append PySem.F.type_list_append mt_append (pv 2) (pa_cons (pe_name (k := k + 16) R nf TB rfl (List.mem_of_getElem? (i := 1) rfl) (tt_q ds (i := 1) rfl) (hr.mono (by omega)) (by rfl) (LamX.lamS_by (sc := defScope s_law_bare_right) (by decide +kernel)) rfl (fun _ _ _ _ _ => rfl) (fun A outer s H E f c' hr => pe_meth (pv 3) cl_B me_Bjoin G_Bjoin (hr.mono (by omega)) b_Bjoin .nil (passes_call (takes_of rfl rfl rfl rfl) (fun _ _ _ _ h => h)) (pa_cons pe_int (pa_cons pe_int pa_nil)))) pa_nil)))
    (pss_cons (ps_expr (pe_bm PySem.F.plainAttrs_list PySem.F.slot_list_append PySem.F.type_list_append mt_append (pv 2) (pa_cons (pe_name (k := k + 16) R nf TB rfl (List.mem_of_getElem? (i := 1) rfl) (tt_q ds (i := 1) rfl) (hr.mono (by omega)) (by rfl) (LamX.lamS_by (sc := defScope s_law_bare_right) (by decide +kernel)) rfl (fun _ _ _ _ _ => rfl) (fun A outer s H E f c' hr => pe_meth (pv 3) cl_B me_Bconsistent G_Bconsistent (hr.mono (by omega)) b_Bconsistent .nil (passes_call (takes_of rfl rfl rfl rfl) (fun _ _ _ _ h => h)) (pa_cons pe_int (pa_cons pe_int pa_nil)))) pa_nil)))
    (pss_cons (ps_expr (pe_bm PySem.F.plainAttrs_list PySem.F.slot_list_append PySem.F.type_list_append mt_append (pv 2) (pa_cons (pe_name (k := k + 16) R nf TB rfl (List.mem_of_getElem? (i := 1) rfl) (tt_q ds (i := 1) rfl) (hr.mono (by omega)) (by rfl) (LamX.lamS_by (sc := defScope s_law_bare_right) (by decide +kernel)) rfl (fun _ _ _ _ _ => rfl) (fun A outer s H E f c' hr => pe_meth (pv 3) cl_B me_Bmatches G_Bmatches (hr.mono (by omega)) b_Bmatches .nil (passes_call (takes_of rfl rfl rfl rfl) (fun _ _ _ _ h => h)) (pa_cons pe_int (pa_cons pe_int pa_nil)))) pa_nil)))
    (pss_cons (ps_expr (pe_bm PySem.F.plainAttrs_list PySem.F.slot_list_append PySem.F.type_list_append mt_append (pv 2) (pa_cons (pe_name (k := k + 16) R nf TB rfl (List.mem_of_getElem? (i := 1) rfl) (tt_q ds (i := 1) rfl) (hr.mono (by omega)) (by rfl) (LamX.lamS_by (sc := defScope s_law_bare_right) (by decide +kernel)) rfl (fun _ _ _ _ _ => rfl) (fun A outer s H E f c' hr => pe_meth (pv 4) cl_F me_Fdistance G_Fdistance (hr.mono (by omega)) b_Fdistance .nil (passes_call (takes_of rfl rfl rfl rfl) (fun _ _ _ _ h => h)) (pa_cons pe_int (pa_cons pe_int pa_nil)))) pa_nil)))
    (pss_cons (ps_expr (pe_bm PySem.F.plainAttrs_list PySem.F.slot_list_append PySem.F.type_list_append mt_append (pv 2) (pa_cons (pe_name (k := k + 16) R nf TB rfl (List.mem_of_getElem? (i := 1) rfl) (tt_q ds (i := 1) rfl) (hr.mono (by omega)) (by rfl) (LamX.lamS_by (sc := defScope s_law_bare_right) (by decide +kernel)) rfl (fun _ _ _ _ _ => rfl) (fun A outer s H E f c' hr => pe_meth (pv 4) cl_F me_Fbound G_Fbound (hr.mono (by omega)) b_Fbound .nil (passes_call (takes_of rfl rfl rfl rfl) (fun _ _ _ _ h => h)) (pa_cons pe_int (pa_cons pe_int pa_nil)))) pa_nil)))
    (pss_cons (ps_if (pt_cmpR (DN.op_neD hr.units) (pv 2) (pe_lst (pa_cons pe_str (pa_cons pe_str (pa_cons pe_str (pa_cons pe_str (pa_cons pe_str (pa_cons pe_str pa_nil))))))) (nomark _)) (pss_one (ps_ret pe_bl)) (pss_nil))
    (pss_cons (ps_if (PW.pt (pw_or (pt_cmpR (DN.op_neD hr.units) (pe_meth (pv 3) cl_B me_Bpenalty G_Bpenalty (hr.mono (by omega)) b_Bpenalty .nil pass0 (pa_cons (pe_tup (pa_cons pe_int pa_nil)) (pa_cons pe_int pa_nil))) pe_int (nomark _)) (pw_or1 (pt_cmpR (DN.op_neD hr.units) (pe_callTy call_list_of (by rfl) m_list (by decide +kernel) (pa_cons (pe_meth (pv 3) cl_B me_Bsides G_Bsides (hr.mono (by omega)) b_Bsides .nil pass0 (pa_cons (pe_lc (own := [("_law_k", 6)]) rfl sc_law_bare_right.nd (pi_range1 (by rfl) m_range (pa_cons (pv 1) pa_nil)) (blkOk_by (N := n_law_bare_right) (sc := defScope s_law_bare_right) (by decide +kernel)) (fun _ _ _ _ _ => pg_name (i := 6) sc_law_bare_right.nd rfl (.inl rfl)) (fun _ _ _ _ _ => pts_nil) (fun _ _ _ _ _ => (pe_tup (pa_cons (pv 6) pa_nil)))) pa_nil)) pa_nil)) (pe_call G_law_halves (hr.mono (by omega)) (by rfl) m_law_halves k_law_halves b_law_halves .nil pass0 (pa_cons (pv 1) pa_nil)) (nomark _))))) (pss_one (ps_ret pe_bl)) (pss_nil))
    (pss_cons (ps_set (i := 5) sc_law_bare_right.nd rfl (.inr rfl) (pe_makeK0 M_K G_K (hr.mono (by omega)) (by rfl) m_K KB pass0 (pk_cons (CLO.pe_lamV (T := TT K) TB rfl (List.mem_of_getElem? (i := 1) rfl) (tt_q ds (i := 1) rfl) rfl (NdefX.ndef_free (sc := defScope s_law_bare_right) (fr := []) (by decide +kernel))) (pk_cons (CLO.pe_lamV (T := TT K) TB rfl (List.mem_of_getElem? (i := 1) rfl) (tt_q ds (i := 1) rfl) rfl (NdefX.ndef_free (sc := defScope s_law_bare_right) (fr := []) (by decide +kernel))) (pk_cons (CLO.pe_lamV (T := TT K) TB rfl (List.mem_of_getElem? (i := 1) rfl) (tt_q ds (i := 1) rfl) rfl (NdefX.ndef_free (sc := defScope s_law_bare_right) (fr := []) (by decide +kernel))) (pk_cons (CLO.pe_lamV (T := TT K) TB rfl (List.mem_of_getElem? (i := 1) rfl) (tt_q ds (i := 1) rfl) rfl (NdefX.ndef_free (sc := defScope s_law_bare_right) (fr := []) (by decide +kernel))) pk_nil))))))
    (pss_cons (ps_set (i := 2) sc_law_bare_right.nd rfl (.inl rfl) (pe_lst (pa_cons (pe_name (k := k + 16) R nf TB rfl (List.mem_of_getElem? (i := 1) rfl) (tt_q ds (i := 1) rfl) (hr.mono (by omega)) (by rfl) (LamX.lamS_by (sc := defScope s_law_bare_right) (by decide +kernel)) rfl (fun _ _ _ _ _ => rfl) (fun A outer s H E f c' hr => pe_meth (pv 5) cl_K me_Kdistance G_Kdistance (hr.mono (by omega)) b_Kdistance .nil (passes_call (takes_of rfl rfl rfl rfl) (fun _ _ _ _ h => h)) (pa_cons pe_int (pa_cons pe_int pa_nil)))) pa_nil)))
    (pss_cons (ps_expr (pe_bm PySem.F.plainAttrs_list PySem.F.slot_list_append PySem.F.type_list_append mt_append (pv 2) (pa_cons (pe_name (k := k + 16) R nf TB rfl (List.mem_of_getElem? (i := 1) rfl) (tt_q ds (i := 1) rfl) (hr.mono (by omega)) (by rfl) (LamX.lamS_by (sc := defScope s_law_bare_right) (by decide +kernel)) rfl (fun _ _ _ _ _ => rfl) (fun A outer s H E f c' hr => pe_meth (pv 5) cl_K me_Kbound G_Kbound (hr.mono (by omega)) b_Kbound .nil (passes_call (takes_of rfl rfl rfl rfl) (fun _ _ _ _ h => h)) (pa_cons pe_int (pa_cons pe_int pa_nil)))) pa_nil)))
    (pss_cons (ps_if (PW.pt (pw_or (pt_cmpR (DN.op_neD hr.units) (pv 2) (pe_lst (pa_cons pe_str (pa_cons pe_str pa_nil))) (nomark _)) (pw_or1 (pt_cmpR (DN.op_neD hr.units) (pe_meth (pv 5) cl_K me_Kpenalty G_Kpenalty (hr.mono (by omega)) b_Kpenalty .nil pass0 (pa_cons pe_str (pa_cons pe_non pa_nil))) pe_int (nomark _))))) (pss_one (ps_ret pe_bl)) (pss_nil))
    (pss_one (ps_ret (pe_cmpR (DN.op_eqD hr.units) (pe_callTy call_list_of (by rfl) m_list (by decide +kernel) (pa_cons (pe_meth (pv 5) cl_K me_Ksides G_Ksides (hr.mono (by omega)) b_Ksides .nil pass0 (pa_cons (pe_listRg rfl (by rfl) m_list (prg_1 (by rfl) m_range (pv 1))) pa_nil)) pa_nil)) (pe_call G_law_halves (hr.mono (by omega)) (by rfl) m_law_halves k_law_halves b_law_halves .nil pass0 (pa_cons (pv 1) pa_nil)) (nomark _))))))))))))))))), ?_⟩
    refine fun b db nb ndb neb f df nf' ndf nef => ?_
    have s1 : Same H (upd (upd H db (.own b)) b (.ins CB db [])) := (same_upd ndb).trans (same_upd (by rw [upd_ne (Ne.symm neb)]; exact nb))
    have b1 : (upd (upd H db (.own b)) b (.ins CB db [])) b = some (.ins CB db []) := upd_same
    generalize upd (upd H db (.own b)) b (.ins CB db []) = Ha at s1 b1 nf' ndf
    have s2 : Same Ha (upd (upd Ha df (.own f)) f (.ins CF df [])) := (same_upd ndf).trans (same_upd (by rw [upd_ne (Ne.symm nef)]; exact nf'))
    have f2 : (upd (upd Ha df (.own f)) f (.ins CF df [])) f = some (.ins CF df []) := upd_same
    generalize upd (upd Ha df (.own f)) f (.ins CF df []) = Hb at s2 f2
    have b2 := s2 _ _ b1
    have p2 := s2 _ _ (s1 _ _ hp)
    refine ⟨_, rfl, p, x, c, 30, rfl, p2, by decide, .of (k := 10) (by decide) (by decide), fun m x3 c3 m0 m1 => ?_⟩
    obtain ⟨m, rfl⟩ := Int.eq_ofNat_of_zero_le m0
    have hm : m ≤ 30 := by omega
    have bp : b ≠ p := fun z => by rw [z, p2] at b2; cases b2
    have fp : f ≠ p := fun z => by rw [z, p2] at f2; cases f2
    have S3 : BSt K CB CF p b f x3 c3 H (upd Hb p (.lst [.int x3, .int c3])) := ⟨fun a o na nt e => (upd_ne na).trans (s2 _ _ (s1 _ _ e)), upd_same, SL.Tabs.kp (SL.Tabs.same hT (s1.trans s2)) p2 Kp.set, ⟨db, (upd_ne bp).trans b2⟩, ⟨df, (upd_ne fp).trans f2⟩⟩
    generalize upd Hb p (.lst [.int x3, .int c3]) = H3 at S3
    refine ⟨by show 3 ≤ sizeLine; decide, fun t nt => ?_⟩
    refine ⟨_, [.ref b, .ref f, .int (m : Int)], rfl, .inl (.inl upd_same), rfl, ?_⟩
    have S4 := S3.same (same_upd (o := .tup [.ref b, .ref f, .int (m : Int)]) nt)
    generalize upd H3 t (.tup [.ref b, .ref f, .int (m : Int)]) = H4 at S4
    refine ⟨_, _, rfl, _, _, rfl, _, _, rfl, rfl, ?_⟩
    refine ⟨S4.tb, fun Ga e5 t5 E5 Q5 hE => ?_⟩
    have SA := S4.ext e5 t5
    obtain ⟨dd, b5⟩ := SA.ba
    refine ⟨_, rfl, b, dd, [], rfl, b5, rfl, rfl, fun d Gb nd s6 hd => hE d Gb _ hd ?_⟩
    have SB := SA.same s6
    refine ⟨by show 1 ≤ sizeLine; decide, fun l nl => ?_⟩
    have M5 := SB.mine (xs := [.str "own"]) nl
    have S5 := SB.same (same_upd (o := .lst [.str "own"]) nl)
    generalize upd Gb l (.lst [.str "own"]) = H5 at S5 M5
    clear b5 s6 hE SA SB nl hd nd e5 t5 S4
    refine ⟨_, rfl, .inl ⟨rfl, _, .inl (.inl M5.1)⟩, S5.tb, fun Ga e5 t5 E5 Q5 hE => ?_⟩
    have SA := S5.ext e5 t5
    obtain ⟨dd, b5⟩ := SA.ba
    refine ⟨_, rfl, b, dd, [], rfl, b5, rfl, rfl, fun d Gb nd s6 hd => hE d Gb _ hd ?_⟩
    have SB := SA.same s6
    have MB := (M5.ext e5).ext (SL.ExtN.of_same s6)
    refine ⟨l, _, _, rfl, rfl, MB.1, small1000 (by decide), ?_⟩
    have S6 := SB.put (ys := ([V.str "own"] ++ [V.str "join"])) MB
    have M6 := MB.set (ys := ([V.str "own"] ++ [V.str "join"]))
    generalize upd Gb l (.lst (([V.str "own"] ++ [V.str "join"]))) = H6 at S6 M6 ⊢
    clear b5 s6 hE SA SB hd nd e5 t5 MB S5 M5
    refine ⟨_, rfl, .inl ⟨rfl, _, .inl (.inl M6.1)⟩, S6.tb, fun Ga e5 t5 E5 Q5 hE => ?_⟩
    have SA := S6.ext e5 t5
    obtain ⟨dd, b5⟩ := SA.ba
    refine ⟨_, rfl, b, dd, [], rfl, b5, rfl, rfl, fun d Gb nd s6 hd => hE d Gb _ hd ?_⟩
    have SB := SA.same s6
    have MB := (M6.ext e5).ext (SL.ExtN.of_same s6)
    refine ⟨l, _, _, rfl, rfl, MB.1, small1000 (by decide), ?_⟩
    have S7 := SB.put (ys := (([V.str "own"] ++ [V.str "join"]) ++ [V.str "consistent"])) MB
    have M7 := MB.set (ys := (([V.str "own"] ++ [V.str "join"]) ++ [V.str "consistent"]))
    generalize upd Gb l (.lst ((([V.str "own"] ++ [V.str "join"]) ++ [V.str "consistent"]))) = H7 at S7 M7 ⊢
    clear b5 s6 hE SA SB hd nd e5 t5 MB S6 M6
    refine ⟨_, rfl, .inl ⟨rfl, _, .inl (.inl M7.1)⟩, S7.tb, fun Ga e5 t5 E5 Q5 hE => ?_⟩
    have SA := S7.ext e5 t5
    obtain ⟨dd, b5⟩ := SA.ba
    refine ⟨_, rfl, b, dd, [], rfl, b5, rfl, rfl, fun d Gb nd s6 hd => hE d Gb _ hd ?_⟩
    have SB := SA.same s6
    have MB := (M7.ext e5).ext (SL.ExtN.of_same s6)
    refine ⟨l, _, _, rfl, rfl, MB.1, small1000 (by decide), ?_⟩
    have S8 := SB.put (ys := ((([V.str "own"] ++ [V.str "join"]) ++ [V.str "consistent"]) ++ [V.str "matches"])) MB
    have M8 := MB.set (ys := ((([V.str "own"] ++ [V.str "join"]) ++ [V.str "consistent"]) ++ [V.str "matches"]))
    generalize upd Gb l (.lst (((([V.str "own"] ++ [V.str "join"]) ++ [V.str "consistent"]) ++ [V.str "matches"]))) = H8 at S8 M8 ⊢
    clear b5 s6 hE SA SB hd nd e5 t5 MB S7 M7
    refine ⟨_, rfl, .inl ⟨rfl, _, .inl (.inl M8.1)⟩, S8.tb, fun Ga e5 t5 E5 Q5 hE => ?_⟩
    have SA := S8.ext e5 t5
    obtain ⟨dd, b5⟩ := SA.fa
    refine ⟨_, rfl, f, dd, [], rfl, b5, rfl, rfl, fun d Gb nd s6 hd => hE d Gb _ hd ?_⟩
    have SB := SA.same s6
    have MB := (M8.ext e5).ext (SL.ExtN.of_same s6)
    refine ⟨l, _, _, rfl, rfl, MB.1, small1000 (by decide), ?_⟩
    have S9 := SB.put (ys := (((([V.str "own"] ++ [V.str "join"]) ++ [V.str "consistent"]) ++ [V.str "matches"]) ++ [V.str "distance"])) MB
    have M9 := MB.set (ys := (((([V.str "own"] ++ [V.str "join"]) ++ [V.str "consistent"]) ++ [V.str "matches"]) ++ [V.str "distance"]))
    generalize upd Gb l (.lst ((((([V.str "own"] ++ [V.str "join"]) ++ [V.str "consistent"]) ++ [V.str "matches"]) ++ [V.str "distance"]))) = H9 at S9 M9 ⊢
    clear b5 s6 hE SA SB hd nd e5 t5 MB S8 M8
    refine ⟨_, rfl, .inl ⟨rfl, _, .inl (.inl M9.1)⟩, S9.tb, fun Ga e5 t5 E5 Q5 hE => ?_⟩
    have SA := S9.ext e5 t5
    obtain ⟨dd, b5⟩ := SA.fa
    refine ⟨_, rfl, f, dd, [], rfl, b5, rfl, rfl, fun d Gb nd s6 hd => hE d Gb _ hd ?_⟩
    have SB := SA.same s6
    have MB := (M9.ext e5).ext (SL.ExtN.of_same s6)
    refine ⟨l, _, _, rfl, rfl, MB.1, small1000 (by decide), ?_⟩
    have S10 := SB.put (ys := ((((([V.str "own"] ++ [V.str "join"]) ++ [V.str "consistent"]) ++ [V.str "matches"]) ++ [V.str "distance"]) ++ [V.str "bound"])) MB
    have M10 := MB.set (ys := ((((([V.str "own"] ++ [V.str "join"]) ++ [V.str "consistent"]) ++ [V.str "matches"]) ++ [V.str "distance"]) ++ [V.str "bound"]))
    generalize upd Gb l (.lst (((((([V.str "own"] ++ [V.str "join"]) ++ [V.str "consistent"]) ++ [V.str "matches"]) ++ [V.str "distance"]) ++ [V.str "bound"]))) = H10 at S10 M10 ⊢
    clear b5 s6 hE SA SB hd nd e5 t5 MB S9 M9
    refine ⟨_, rfl, by show 6 ≤ sizeLine; decide, fun r nr => ?_⟩
    have S11 := S10.same (same_upd (o := .lst [.str "own", .str "join", .str "consistent", .str "matches", .str "distance", .str "bound"]) nr)
    have l11 := (M10.ext (SL.ExtN.of_same (same_upd (o := .lst [.str "own", .str "join", .str "consistent", .str "matches", .str "distance", .str "bound"]) nr))).1
    have r11 := upd_same (H := H10) (a := r) (o := .lst [.str "own", .str "join", .str "consistent", .str "matches", .str "distance", .str "bound"])
    generalize upd H10 r (.lst [.str "own", .str "join", .str "consistent", .str "matches", .str "distance", .str "bound"]) = H11 at S11 l11 r11 ⊢
    refine rNe_same (D := .list ((["own", "join", "consistent", "matches", "distance", "bound"] : List Str).map .str)) (shw_strs l11) (shw_strs r11) (by decide +kernel) (by decide +kernel) ?_
    refine ⟨false, rfl, iteF ?_⟩
    clear S10 M10 nr
    obtain ⟨db, b11⟩ := S11.ba
    refine ⟨_, rfl, b, db, [], rfl, b11, rfl, by show 1 ≤ sizeLine; decide, fun t1 nt1 => ?_⟩
    have S12 := S11.same (same_upd (o := .tup [.int 1]) nt1)
    generalize upd H11 t1 (.tup [.int 1]) = H12 at S12 ⊢
    refine ⟨rfl, ?_⟩
    set_option simprocs false in dsimp only
    unfold tC
    set_option simprocs false in dsimp only
    refine rNe_same (D := .int 0) (.int _) (.int _) rfl (by decide +kernel) ?_
    refine ⟨false, rfl, iteF ?_⟩
    obtain ⟨db12, b12⟩ := S12.ba
    refine ⟨_, rfl, b, db12, [], rfl, b12, rfl, ?_⟩
    refine ⟨_, rfl, _, rfl, by omega, by omega, fun D nD => ?_⟩
    rw [Int.toNat_natCast]
    refine lc_range (lo := 0) (n := m) (fun j H' => ∃ xs, xs.length = j ∧ BSt K CB CF p b f x3 c3 H H' ∧ MyL p H H' D xs) ⟨[], rfl, S12.same (same_upd nD), S12.mine nD⟩ ?_ ?_
    · rintro j Hc hj ⟨xs, rfl, Sc, Mc⟩
      refine ⟨rfl, _, rfl, by show 1 ≤ sizeLine; decide, fun t2 nt2 => ?_⟩
      have Sd := Sc.same (same_upd (o := .tup [.int (0 + (xs.length : Int))]) nt2)
      have Md := Mc.ext (SL.ExtN.of_same (same_upd (o := .tup [.int (0 + (xs.length : Int))]) nt2))
      exact ⟨xs, Md.1, small1000 (by omega), _, List.length_append, Sd.put Md, Md.set⟩
    · rintro H13 ⟨xs, hxs, S13, M13⟩
      obtain ⟨db13, b13⟩ := S13.ba
      refine ⟨b, D, xs, rfl, .inl (.inl M13.1), by omega, fun r2 H14 s14 hr2 => ?_⟩
      have S14 := S13.same s14
      rw [hxs] at hr2
      refine ⟨r2, sidesOf m, rfl, .inl (.inl (.inl hr2)), fun r3 n3 => ?_⟩
      have S15 := S14.same (same_upd (o := .lst (sidesOf m)) n3)
      have h15 := upd_same (H := H14) (a := r3) (o := .lst (sidesOf m))
      generalize upd H14 r3 (.lst (sidesOf m)) = H15 at S15 h15 ⊢
      refine ⟨_, rfl, m, rfl, hm, fun r4 H16 s16 h16 => ?_⟩
      have S16 := S15.same s16
      refine rNe_same (shw_sides (s16 _ _ h15)) (shw_sides h16) (lay_sides hm).1 (lay_sides hm).2 ?_
      refine ⟨false, rfl, iteF ?_⟩
      clear S13 S14 S15 M13 S11 S12 l11 r11
      refine ⟨S16.tb, fun g1 _ K1 u1 _ t1 _ _ _ => ⟨t1, fun g2 _ K2 u2 _ t2 _ _ _ => ⟨t2, fun g3 _ K3 u3 _ t3 _ _ _ => ⟨t3, fun g4 _ K4 u4 _ t4 _ _ _ => ?_⟩⟩⟩⟩
      refine ⟨rfl, rfl, fun o dO nO ndO neO => ?_⟩
      refine ⟨o, dO, .ref g1, .ref g2, .ref g3, .ref g4, .non, .non, .non, .non, rfl, upd_same, rfl, ?_⟩
      have S17 := S16.ext (((u1.trans u2).trans u3).trans u4) t4
      have s18 := same_made (C := CK) (o := .ins CK dO (fs8 (.ref g1) (.ref g2) (.ref g3) (.ref g4) .non .non .non .non)) nO ndO
      have S := S17.same s18
      have oS := upd_same (H := upd (upd K4 dO (.own o)) o (.ins CK dO [])) (a := o) (o := .ins CK dO (fs8 (.ref g1) (.ref g2) (.ref g3) (.ref g4) .non .non .non .non))
      generalize upd (upd (upd K4 dO (.own o)) o (.ins CK dO [])) o (.ins CK dO (fs8 (.ref g1) (.ref g2) (.ref g3) (.ref g4) .non .non .non .non)) = H18 at S oS ⊢
      clear S16 S17 s18
      refine ⟨S.tb, fun Ga e5 t5 E5 Q5 hE => ?_⟩
      have SA := S.ext e5 t5
      have oA := e5 _ _ oS (fun _ z => by cases z)
      refine ⟨_, rfl, o, dO, _, rfl, oA, rfl, o, dO, _, [_, _], rfl, rfl, oA, .inl ⟨rfl, rfl, fun d Gb nd s6 hd => hE d Gb _ hd ?_⟩⟩
      have SB := SA.same s6
      have oB := s6 _ _ oA
      refine ⟨by show 1 ≤ sizeLine; decide, fun l2 nl => ?_⟩
      have MC := SB.mine (xs := [.str "distance"]) nl
      have SC := SB.same (same_upd (o := .lst [.str "distance"]) nl)
      have oC := same_upd (o := .lst [.str "distance"]) nl _ _ oB
      generalize upd Gb l2 (.lst [.str "distance"]) = HC at SC MC oC ⊢
      clear SA SB oA oB hE s6 hd nd e5 t5 S oS nl
      have S := SC
      have M := MC
      have oS := oC
      clear SC MC oC
      refine ⟨_, rfl, .inl ⟨rfl, _, .inl (.inl M.1)⟩, S.tb, fun Ga e5 t5 E5 Q5 hE => ?_⟩
      have SA := S.ext e5 t5
      have oA := e5 _ _ oS (fun _ z => by cases z)
      refine ⟨_, rfl, o, dO, _, rfl, oA, rfl, o, dO, _, [_, _], rfl, rfl, oA, .inl ⟨rfl, rfl, fun d Gb nd s6 hd => hE d Gb _ hd ?_⟩⟩
      have SB := SA.same s6
      have oB := s6 _ _ oA
      have MB := (M.ext e5).ext (SL.ExtN.of_same s6)
      refine ⟨l2, _, _, rfl, rfl, MB.1, small1000 (by decide), ?_⟩
      have SC := SB.put (ys := ([V.str "distance"] ++ [V.str "bound"])) MB
      have MC := MB.set (ys := ([V.str "distance"] ++ [V.str "bound"]))
      have oC : (upd Gb l2 (.lst ([V.str "distance"] ++ [V.str "bound"]))) o = _ := (upd_ne (fun z => by rw [z, MB.1] at oB; cases oB)).trans oB
      generalize upd Gb l2 (.lst ([V.str "distance"] ++ [V.str "bound"])) = HD at SC MC oC ⊢
      clear SA SB oA oB hE s6 hd nd e5 t5 S oS M
      have S := SC
      have M := MC
      have oS := oC
      clear SC MC oC
      refine ⟨_, rfl, by show 2 ≤ sizeLine; decide, fun r5 nr5 => ?_⟩
      have S2 := S.same (same_upd (o := .lst [.str "distance", .str "bound"]) nr5)
      have M2 := (M.ext (SL.ExtN.of_same (same_upd (o := .lst [.str "distance", .str "bound"]) nr5))).1
      have o2 := same_upd (o := .lst [.str "distance", .str "bound"]) nr5 _ _ oS
      have r2' := upd_same (H := HD) (a := r5) (o := .lst [.str "distance", .str "bound"])
      generalize upd HD r5 (.lst [.str "distance", .str "bound"]) = HE at S2 M2 o2 r2' ⊢
      refine rNe_same (D := .list ((["distance", "bound"] : List Str).map .str)) (shw_strs M2) (shw_strs r2') (by decide +kernel) (by decide +kernel) ?_
      refine ⟨false, rfl, iteF ?_⟩
      refine ⟨_, rfl, o, dO, _, rfl, o2, rfl, o, dO, _, [_, _], rfl, rfl, o2, .inl ⟨rfl, rfl, ?_⟩⟩
      set_option simprocs false in dsimp only
      refine rNe_same (D := .int 0) (.int _) (.int _) rfl (by decide +kernel) ?_
      refine ⟨false, rfl, iteF ?_⟩
      refine ⟨_, rfl, o, dO, _, rfl, o2, rfl, ?_⟩
      refine ⟨_, rfl, (m : Int), rfl, by unfold RgOk; omega, fun r6 nr6 => ?_⟩
      have S7 := S2.same (same_upd (o := .lst (rgV 0 (m : Int))) nr6)
      have o7 := same_upd (o := .lst (rgV 0 (m : Int))) nr6 _ _ o2
      have r7 := upd_same (H := HE) (a := r6) (o := .lst (rgV 0 (m : Int)))
      generalize upd HE r6 (.lst (rgV 0 (m : Int))) = HF at S7 o7 r7 ⊢
      have len7 : (rgV 0 (m : Int)).length = m := by
        unfold rgV
        simp
      refine ⟨o, dO, _, [_], rfl, rfl, o7, .inl ⟨rfl, o, r6, _, rfl, .inl (.inl r7), by omega, fun r8 H8 s8 h8 => ?_⟩⟩
      rw [len7] at h8
      refine ⟨r8, sidesOf m, rfl, .inl (.inl (.inl h8)), fun r9 n9 => ?_⟩
      have S9 := (S7.same s8).same (same_upd (o := .lst (sidesOf m)) n9)
      have h9 := upd_same (H := H8) (a := r9) (o := .lst (sidesOf m))
      generalize upd H8 r9 (.lst (sidesOf m)) = HG at S9 h9 ⊢
      refine ⟨_, rfl, m, rfl, hm, fun ra HH sa ha => ?_⟩
      have SZ := S9.same sa
      refine rEq_same (shw_sides (sa _ _ h9)) (shw_sides ha) (lay_sides hm).1 (lay_sides hm).2 ?_
      exact q HH x3 c3 SZ.kn SZ.tb SZ.hp
end
end K10
set_option Elab.async false
set_option linter.all false
set_option maxRecDepth 100000
set_option maxHeartbeats 2000000
namespace K10
open PySem PySem.Spec PyProof.Rows L2 CM DN GR SRT RZ
section
variable {P : Program} {w : World} {K : PySem.W.Frag} {mg : Str → Option Value} {base : Heap}
/-! ### makers of the ready kinds -/
structure BC (K : PySem.W.Frag) (C : Addr) : Prop where
  cl : Cls K C
  n1 : NoAttr K C "first"
  n2 : NoAttr K C "second"
def spBInit (C : Addr) : Sp := fun vs H Q _ => ∃ (b dx : Addr) (k1 k2 : V), vs = [.ref b, k1, k2] ∧ H b = some (.ins C dx []) ∧ Q .non (upd H b (.ins C dx [("first", k1), ("second", k2)]))
theorem ok_Binit {C f : Addr} {fd : FuncData} {k : Nat} (F : FnP K "__init__" "Both.__init__" s_Both___init f fd) (c : BC K C) : FnOk P w K mg base CX0 (k + 1) f fd ["self", "one", "other"] (spBInit C) := by
  refine F.ok sc_Both___init (fun vs H Q E h => ?_) (fun cdv A outer s H vs Q E hr h => ?_)
  · obtain ⟨b, dx, k1, k2, rfl, _⟩ := h
    rfl
  · obtain ⟨b, dx, k1, k2, rfl, hb, q⟩ := h
    refine ⟨_, pss_cons (ps_fld (pv 0) (pv 1) rfl)
    (pss_one (ps_fld (pv 0) (pv 2) rfl)), ?_⟩
    refine ⟨_, rfl, _, rfl, b, C, dx, [], rfl, hb, c.cl, c.n1, (by show 0 < 1000; decide), ?_⟩
    refine ⟨_, rfl, _, rfl, b, C, dx, [("first", k1)], rfl, upd_same, c.cl, c.n2, (by show 1 < 1000; decide), ?_⟩
    rw [upd_upd]
    exact q
structure CC (K : PySem.W.Frag) (C : Addr) : Prop where
  cl : Cls K C
  n1 : NoAttr K C "kind"
  n2 : NoAttr K C "squeeze"
def spCInit (C : Addr) : Sp := fun vs H Q _ => ∃ (b dx : Addr) (k1 k2 : V), vs = [.ref b, k1, k2] ∧ H b = some (.ins C dx []) ∧ Q .non (upd H b (.ins C dx [("kind", k1), ("squeeze", k2)]))
theorem ok_Cinit {C f : Addr} {fd : FuncData} {k : Nat} (F : FnP K "__init__" "Coarse.__init__" s_Coarse___init f fd) (c : CC K C) : FnOk P w K mg base CX0 (k + 1) f fd ["self", "kind", "squeeze"] (spCInit C) := by
  refine F.ok sc_Coarse___init (fun vs H Q E h => ?_) (fun cdv A outer s H vs Q E hr h => ?_)
  · obtain ⟨b, dx, k1, k2, rfl, _⟩ := h
    rfl
  · obtain ⟨b, dx, k1, k2, rfl, hb, q⟩ := h
    refine ⟨_, pss_cons (ps_fld (pv 0) (pv 1) rfl)
    (pss_one (ps_fld (pv 0) (pv 2) rfl)), ?_⟩
    refine ⟨_, rfl, _, rfl, b, C, dx, [], rfl, hb, c.cl, c.n1, (by show 0 < 1000; decide), ?_⟩
    refine ⟨_, rfl, _, rfl, b, C, dx, [("kind", k1)], rfl, upd_same, c.cl, c.n2, (by show 1 < 1000; decide), ?_⟩
    rw [upd_upd]
    exact q
def spXInit (C : Addr) : Sp := fun vs H Q _ => ∃ (x dx : Addr) (n : Nat), vs = [.ref x, .int (n : Int)] ∧ H x = some (.ins C dx []) ∧ 1 ≤ n ∧ n ≤ 6 ∧ Q .non (upd H x (.ins C dx [("axes", .int (n : Int))]))
abbrev FunX (K : PySem.W.Frag) (f : Addr) (fd : FuncData) : Prop := FunD K "__init__" "Boxes.__init__" (defArgs s_Boxes___init) (defBody s_Boxes___init) (defScope s_Boxes___init) [V.int 2] [] f fd
theorem ok_Xinit {C f : Addr} {fd : FuncData} {k : Nat} (F : FunX K f fd) (cl : Cls K C) (nb : NoAttr K C "axes") (m_MOST_DIMENSIONS : ∃ t, mg "MOST_DIMENSIONS" = some (.int 6 t)) (C_is_int : Cal P w K mg base CX0 "is_int" k ["thing"] (spInt K)) : FnOk P w K mg base CX0 (k + 1) f fd ["self", "dimensions"] (spXInit C) := by
  obtain ⟨f_is_int, fd_is_int, G_is_int, b_is_int, m_is_int, k_is_int⟩ := C_is_int
  obtain ⟨tM, m_MOST_DIMENSIONS⟩ := m_MOST_DIMENSIONS
  refine F.ok sc_Boxes___init (fun vs H Q E h => ?_) (fun cdv A outer s H vs Q E hr h => ?_)
  · obtain ⟨x, dx, n, rfl, _⟩ := h
    rfl
  · obtain ⟨x, dx, n, rfl, hx, n1, n2, q⟩ := h
    refine ⟨_, PSs.nox (pss_cons (ps_if (PW.pt (pw_or (pt_not (pt_val (pe_call G_is_int (hr.mono (by omega)) (by rfl) m_is_int k_is_int b_is_int .nil pass0 (pa_cons (pv 1) pa_nil)))) (pw_or1 (pt_not (pt_chain op_le op_le pe_int (pv 1) (pe_glob (v := .int 6) (by rfl) m_MOST_DIMENSIONS ⟨_, rfl⟩)))))) (pss_one (ps_never)) (pss_nil))
    (pss_one (ps_fld (pv 0) (pv 1) rfl))), ?_⟩
    have ti : TyX K H (V.int (n : Int)) (.type "int") := .base (.int _)
    refine ⟨_, rfl, _, _, true, false, rfl, ti, kit_ty (by decide +kernel), fun _ => kit_ty (by decide +kernel), true, rfl, iteF ?_⟩
    refine ⟨_, rfl, 1, (n : Int), rfl, rfl, _, rfl, ite2 (fun _ => ⟨(n : Int), 6, rfl, rfl, _, rfl, ite2 (fun e => ?_) (fun _ => ?_)⟩) (fun e => absurd (decide_eq_true (show (1 : Int) ≤ (n : Int) by omega)) e)⟩
    · rw [decide_eq_true (show (n : Int) ≤ 6 by omega)] at e
      cases e
    · exact ⟨_, rfl, _, rfl, x, C, dx, [], rfl, hx, cl, nb, by decide, q⟩
def spSInit (C : Addr) : Sp := fun vs H Q _ => ∃ (x dx : Addr) (n : Nat), vs = [.ref x, .int (n : Int)] ∧ H x = some (.ins C dx []) ∧ 1 ≤ n ∧ n ≤ 60 ∧ Q .non (upd H x (.ins C dx [("bits", .int (n : Int))]))
abbrev FunS (K : PySem.W.Frag) (f : Addr) (fd : FuncData) : Prop := FunD K "__init__" "Signs.__init__" (defArgs s_Signs___init) (defBody s_Signs___init) (defScope s_Signs___init) [V.int 8] [] f fd
theorem ok_Sinit {C f : Addr} {fd : FuncData} {k : Nat} (F : FunS K f fd) (cl : Cls K C) (nb : NoAttr K C "bits") (m_MOST_BITS : ∃ t, mg "MOST_BITS" = some (.int 60 t)) (C_is_int : Cal P w K mg base CX0 "is_int" k ["thing"] (spInt K)) : FnOk P w K mg base CX0 (k + 1) f fd ["self", "width"] (spSInit C) := by
  obtain ⟨f_is_int, fd_is_int, G_is_int, b_is_int, m_is_int, k_is_int⟩ := C_is_int
  obtain ⟨tM, m_MOST_BITS⟩ := m_MOST_BITS
  refine F.ok sc_Signs___init (fun vs H Q E h => ?_) (fun cdv A outer s H vs Q E hr h => ?_)
  · obtain ⟨x, dx, n, rfl, _⟩ := h
    rfl
  · obtain ⟨x, dx, n, rfl, hx, n1, n2, q⟩ := h
    refine ⟨_, PSs.nox (pss_cons (ps_if (PW.pt (pw_or (pt_not (pt_val (pe_call G_is_int (hr.mono (by omega)) (by rfl) m_is_int k_is_int b_is_int .nil pass0 (pa_cons (pv 1) pa_nil)))) (pw_or1 (pt_not (pt_chain op_le op_le pe_int (pv 1) (pe_glob (v := .int 60) (by rfl) m_MOST_BITS ⟨_, rfl⟩)))))) (pss_one (ps_never)) (pss_nil))
    (pss_one (ps_fld (pv 0) (pv 1) rfl))), ?_⟩
    have ti : TyX K H (V.int (n : Int)) (.type "int") := .base (.int _)
    refine ⟨_, rfl, _, _, true, false, rfl, ti, kit_ty (by decide +kernel), fun _ => kit_ty (by decide +kernel), true, rfl, iteF ?_⟩
    refine ⟨_, rfl, 1, (n : Int), rfl, rfl, _, rfl, ite2 (fun _ => ⟨(n : Int), 60, rfl, rfl, _, rfl, ite2 (fun e => ?_) (fun _ => ?_)⟩) (fun e => absurd (decide_eq_true (show (1 : Int) ≤ (n : Int) by omega)) e)⟩
    · rw [decide_eq_true (show (n : Int) ≤ 60 by omega)] at e
      cases e
    · exact ⟨_, rfl, _, rfl, x, C, dx, [], rfl, hx, cl, nb, by decide, q⟩
structure MakeM (P : Program) (w : World) (K : PySem.W.Frag) (mg : Str → Option Value) (base : Heap) (nm : Str) (C f : Addr) (fd : FuncData) (ps : List Str) (sp : Sp) : Prop where
  M : Mk K C f
  G : FnOk P w K mg base CX0 2 f fd ps sp
  m : mg nm = some (.ref C)
  b : Binds K fd ps []
/-- a maker with one default -/
structure MakeD (P : Program) (w : World) (K : PySem.W.Frag) (mg : Str → Option Value) (base : Heap) (nm : Str) (C f : Addr) (fd : FuncData) (ps : List Str) (sp : Sp) (n : Int) (dv : Value) : Prop where
  M : Mk K C f
  G : FnOk P w K mg base CX0 2 f fd ps sp
  m : mg nm = some (.ref C)
  b : Binds K fd ps [dv]
  r : Vals [V.int n] [dv]
/-- a class, seen by isinstance: is it a Kind, is it Measured -/
structure KdF (K : PySem.W.Frag) (CB CF C : Addr) (bm : Bool) : Prop where
  ik : InsK K C
  k1 : PySem.W.kitOne K (.ref C) (.ref CB) = some true
  k2 : PySem.W.kitOne K (.ref C) (.ref CF) = some bm
theorem call_isiX {X : Cx} {K : PySem.W.Frag} (h : X.K = K := by rfl) : CallR X (.builtin "isinstance") (rIsi K) := by
  subst h
  exact call_isi
/-- an instance of such a class -/
def Of (K : PySem.W.Frag) (CB CF : Addr) (bm : Bool) (H : Hp) (v : V) : Prop := ∃ (a C dx : Addr) (fs : List (Str × V)), v = .ref a ∧ H a = some (.ins C dx fs) ∧ KdF K CB CF C bm
theorem Of.same {CB CF : Addr} {bm : Bool} {H H' : Hp} {v : V} (h : Of K CB CF bm H v) (s : Same H H') : Of K CB CF bm H' v := let ⟨a, C, dx, fs, e, h1, k⟩ := h; ⟨a, C, dx, fs, e, s _ _ h1, k⟩
theorem Of.ext {CB CF : Addr} {bm : Bool} {H H' : Hp} {v : V} (h : Of K CB CF bm H v) (s : LamX.ExtN H H') : Of K CB CF bm H' v := let ⟨a, C, dx, fs, e, h1, k⟩ := h; ⟨a, C, dx, fs, e, s _ _ h1 (fun _ z => by cases z), k⟩
theorem Of.isB {CB CF : Addr} {bm : Bool} {H : Hp} {v : V} {Q : VK} (h : Of K CB CF bm H v) (q : Q (.bl true) H) : rIsi K [v, .ref CB] H Q := by
  obtain ⟨a, C, dx, fs, rfl, e, k⟩ := h
  exact ⟨.ref a, _, _, _, true, rfl, .own CB, .base (.ins e k.ik.cl k.ik.ca k.ik.gs k.ik.tk k.ik.mr), k.k1, q⟩
theorem Of.isF {CB CF : Addr} {bm : Bool} {H : Hp} {v : V} {Q : VK} (h : Of K CB CF bm H v) (q : Q (.bl bm) H) : rIsi K [v, .ref CF] H Q := by
  obtain ⟨a, C, dx, fs, rfl, e, k⟩ := h
  exact ⟨.ref a, _, _, _, bm, rfl, .own CF, .base (.ins e k.ik.cl k.ik.ca k.ik.gs k.ik.tk k.ik.mr), k.k2, q⟩
theorem mk_of {CB CF C x d : Addr} {bm : Bool} {H : Hp} {fs : List (Str × V)} (k : KdF K CB CF C bm) (h : H x = some (.ins C d fs)) : Of K CB CF bm H (.ref x) := ⟨x, C, d, fs, rfl, h, k⟩
end
end K10
set_option Elab.async false
set_option linter.all false
set_option maxRecDepth 100000
set_option maxHeartbeats 2000000
namespace K10
open PySem PySem.Spec PyProof.Rows L2 CM DN GR SRT RZ
section
variable {P : Program} {w : World} {K : PySem.W.Frag} {mg : Str → Option Value} {base : Heap}
/-! ### what the classes are -/
def spCl (K : PySem.W.Frag) : Sp := fun vs H Q _ => vs = [] ∧ LamX.Tabs (TT K) H ∧ ∀ H', Q (.bl true) H'
theorem made0 {H : Hp} {x d C : Addr} (nx : H x = none) (nd : H d = none) : Same H (upd (upd H d (.own x)) x (.ins C d [])) ∧ (upd (upd H d (.own x)) x (.ins C d [])) x = some (.ins C d []) :=
  ⟨fun b o e => by rw [upd_ne (ne_of_none e nx), upd_ne (ne_of_none e nd)]; exact e, upd_same⟩
theorem ok_classes {CB CF CR CX CBo CQ CCo CT CS CK fX fBo fCo fS fK : Addr} {fd fdX fdBo fdCo fdS fdK : FuncData} {dX dS : Value} {k : Nat} {CN : Addr} {gK : List Value → List Value → List Value} (F : FnP K "_law_classes_right" "_law_classes_right" s_law_classes_right (He.fAd K ("_law_classes_right", none)) fd) (TB : LamX.TabB base mg (He.cT K ("_law_classes_right", none)).1 (He.cT K ("_law_classes_right", none)).2) (ds : Dst K)
    (m_isinstance : mg "isinstance" = none) (bk : BareK P w K mg base CB CF CN) (ck : CallsK P w K mg base CK CN fK fdK gK)
    (KB : KBn K fdK ["self", "own", "join", "consistent", "matches", "penalty", "sides", "distance", "bound"] 1 ["own", "join", "consistent", "matches"] gK (fun us zs => us ++ zs ++ [.non, .non, .non, .non]))
    (M_R : MkO K CR) (m_R : mg "Ranges" = some (.ref CR)) (M_Q : MkO K CQ) (m_Q : mg "Rests" = some (.ref CQ)) (M_T : MkO K CT) (m_T : mg "Stems" = some (.ref CT))
    (MX : MakeD P w K mg base "Boxes" CX fX fdX ["self", "dimensions"] (spXInit CX) 2 dX) (MS : MakeD P w K mg base "Signs" CS fS fdS ["self", "width"] (spSInit CS) 8 dS)
    (MB : MakeM P w K mg base "Both" CBo fBo fdBo ["self", "one", "other"] (spBInit CBo)) (MC : MakeM P w K mg base "Coarse" CCo fCo fdCo ["self", "kind", "squeeze"] (spCInit CCo))
    (kR : KdF K CB CF CR true) (kX : KdF K CB CF CX true) (kB : KdF K CB CF CBo true) (kC : KdF K CB CF CCo true) (kQ : KdF K CB CF CQ false) (kT : KdF K CB CF CT false) (kS : KdF K CB CF CS false) (kK : KdF K CB CF CK true) (kKd : KdF K CB CF CB false) :
    FnOk P w K mg base CX0 (k + 4 + 1) (He.fAd K ("_law_classes_right", none)) fd [] (spCl K) := by
  have m_Kind := bk.mB
  have m_Measured := bk.mF
  obtain ⟨m_B, m_F, M_B, M_F, cl_B, cl_F, _⟩ := bk
  obtain ⟨M_K, G_K, m_K, kc, _⟩ := ck
  obtain ⟨M_X, G_X, m_X, b_X, r_X⟩ := MX
  obtain ⟨M_S, G_S, m_S, b_S, r_S⟩ := MS
  obtain ⟨M_Bo, G_Bo, m_Bo, b_Bo⟩ := MB
  obtain ⟨M_Co, G_Co, m_Co, b_Co⟩ := MC
  refine SL.okC F sc_law_classes_right (fun vs H Q E h => by rw [h.1]; rfl) (fun A outer s H vs Q E hr h => ?_)
  obtain ⟨rfl, hT, q⟩ := h
  refine ⟨_, PSs.nox (pss_cons (ps_set (i := 0) sc_law_classes_right.nd rfl (.inl rfl) (pe_lst (pa_cons (pe_make00 M_R (by rfl) m_R) (pa_cons (pe_make0 M_X G_X (hr.mono (by omega)) (by rfl) m_X b_X r_X pass0) (pa_cons (pe_make M_Bo G_Bo (hr.mono (by omega)) (by rfl) m_Bo b_Bo .nil pass0 (pa_cons ((pe_make00 M_R (by rfl) m_R)) (pa_cons ((pe_make00 M_Q (by rfl) m_Q)) pa_nil))) (pa_cons (pe_make M_Co G_Co (hr.mono (by omega)) (by rfl) m_Co b_Co .nil pass0 (pa_cons ((pe_make00 M_R (by rfl) m_R)) (pa_cons ((CLO.pe_lamV (T := TT K) TB rfl (List.mem_of_getElem? (i := 5) rfl) (tt_q ds (i := 5) rfl) rfl (NdefX.ndef_free (sc := defScope s_law_classes_right) (fr := []) (by decide +kernel)))) pa_nil))) pa_nil))))))
    (pss_cons (ps_if (pt_cmpR (op_neNil hr.units) (pe_lc (own := [("_law_one_here", 3)]) rfl sc_law_classes_right.nd (pi_list (pv 0)) (blkOk_by (N := n_law_classes_right) (sc := defScope s_law_classes_right) (by decide +kernel)) (fun _ _ _ _ _ => pg_name (i := 3) sc_law_classes_right.nd rfl (.inl rfl)) (fun _ _ _ _ _ => pts_one (PW.pt (pw_or (pt_not (pt_val (pe_callB call_isiX (by rfl) m_isinstance (by decide +kernel) (pa_cons (pv 3) (pa_cons (pe_gref (by rfl) m_Kind) pa_nil))))) (pw_or1 (pt_not (pt_val (pe_callB call_isiX (by rfl) m_isinstance (by decide +kernel) (pa_cons (pv 3) (pa_cons (pe_gref (by rfl) m_Measured) pa_nil))))))))) (fun _ _ _ _ _ => (pv 3))) (pe_lst (pa_nil)) (nomark _)) (pss_one (ps_ret pe_bl)) (pss_nil))
    (pss_cons (ps_set (i := 1) sc_law_classes_right.nd rfl (.inl rfl) (pe_lst (pa_cons (pe_make00 M_Q (by rfl) m_Q) (pa_cons (pe_make00 M_T (by rfl) m_T) (pa_cons (pe_make0 M_S G_S (hr.mono (by omega)) (by rfl) m_S b_S r_S pass0) pa_nil)))))
    (pss_cons (ps_if (pt_cmpR (op_neNil hr.units) (pe_lc (own := [("_law_one_here", 3)]) rfl sc_law_classes_right.nd (pi_list (pv 1)) (blkOk_by (N := n_law_classes_right) (sc := defScope s_law_classes_right) (by decide +kernel)) (fun _ _ _ _ _ => pg_name (i := 3) sc_law_classes_right.nd rfl (.inl rfl)) (fun _ _ _ _ _ => pts_one (PW.pt (pw_or (pt_not (pt_val (pe_callB call_isiX (by rfl) m_isinstance (by decide +kernel) (pa_cons (pv 3) (pa_cons (pe_gref (by rfl) m_Kind) pa_nil))))) (pw_or1 (pt_val (pe_callB call_isiX (by rfl) m_isinstance (by decide +kernel) (pa_cons (pv 3) (pa_cons (pe_gref (by rfl) m_Measured) pa_nil)))))))) (fun _ _ _ _ _ => (pv 3))) (pe_lst (pa_nil)) (nomark _)) (pss_one (ps_ret pe_bl)) (pss_nil))
    (pss_cons (ps_set (i := 2) sc_law_classes_right.nd rfl (.inl rfl) (pe_makeK0 M_K G_K (hr.mono (by omega)) (by rfl) m_K KB pass0 (pk_cons (CLO.pe_lamV (T := TT K) TB rfl (List.mem_of_getElem? (i := 5) rfl) (tt_q ds (i := 5) rfl) rfl (NdefX.ndef_free (sc := defScope s_law_classes_right) (fr := []) (by decide +kernel))) (pk_cons (CLO.pe_lamV (T := TT K) TB rfl (List.mem_of_getElem? (i := 5) rfl) (tt_q ds (i := 5) rfl) rfl (NdefX.ndef_free (sc := defScope s_law_classes_right) (fr := []) (by decide +kernel))) (pk_cons (CLO.pe_lamV (T := TT K) TB rfl (List.mem_of_getElem? (i := 5) rfl) (tt_q ds (i := 5) rfl) rfl (NdefX.ndef_free (sc := defScope s_law_classes_right) (fr := []) (by decide +kernel))) (pk_cons (CLO.pe_lamV (T := TT K) TB rfl (List.mem_of_getElem? (i := 5) rfl) (tt_q ds (i := 5) rfl) rfl (NdefX.ndef_free (sc := defScope s_law_classes_right) (fr := []) (by decide +kernel))) pk_nil))))))
    (pss_one (ps_ret (pe_and (pe_callB call_isiX (by rfl) m_isinstance (by decide +kernel) (pa_cons (pv 2) (pa_cons (pe_gref (by rfl) m_Kind) pa_nil))) (pe_and (pe_callB call_isiX (by rfl) m_isinstance (by decide +kernel) (pa_cons (pv 2) (pa_cons (pe_gref (by rfl) m_Measured) pa_nil))) (pe_one (pe_not (pe_callB call_isiX (by rfl) m_isinstance (by decide +kernel) (pa_cons (pe_make00 M_B (by rfl) m_B) (pa_cons (pe_gref (by rfl) m_Measured) pa_nil)))))))))))))), ?_⟩
  refine fun r dr nr ndr ner => ?_
  obtain ⟨s1, r1⟩ := made0 (C := CR) nr ndr
  generalize upd (upd H dr (.own r)) r (.ins CR dr []) = H1 at s1 r1 ⊢
  have w1 := mk_of kR r1
  have t1 := SL.Tabs.same hT s1
  clear s1 r1 nr ndr ner
  -- Boxes()
  refine fun x dx nx nd ne => ⟨x, dx, 2, rfl, upd_same, by decide, by decide, rfl, ?_⟩
  have s2 := same_made (C := CX) (o := .ins CX dx [("axes", .int 2)]) nx nd
  have w2 := mk_of (x := x) kX (upd_same (H := upd (upd H1 dx (.own x)) x (.ins CX dx [])) (o := .ins CX dx [("axes", .int 2)]))
  generalize upd (upd (upd H1 dx (.own x)) x (.ins CX dx [])) x (.ins CX dx [("axes", .int 2)]) = H2 at s2 w2 ⊢
  replace w1 := w1.same s2
  have t2 := SL.Tabs.same t1 s2
  clear s2 nx nd ne
  -- Both(Ranges(), Rests())
  refine fun r2 dr2 nr ndr ner => ?_
  obtain ⟨s3, _⟩ := made0 (C := CR) nr ndr
  generalize upd (upd H2 dr2 (.own r2)) r2 (.ins CR dr2 []) = H3 at s3 ⊢
  refine fun r3 dr3 nr ndr ner => ?_
  obtain ⟨s4, _⟩ := made0 (C := CQ) nr ndr
  generalize upd (upd H3 dr3 (.own r3)) r3 (.ins CQ dr3 []) = H4 at s4 ⊢
  refine fun bo dbo nx nd ne => ⟨bo, dbo, .ref r2, .ref r3, rfl, upd_same, rfl, ?_⟩
  have s5 := same_made (C := CBo) (o := .ins CBo dbo [("first", .ref r2), ("second", .ref r3)]) nx nd
  have w3 := mk_of (x := bo) kB (upd_same (H := upd (upd H4 dbo (.own bo)) bo (.ins CBo dbo [])) (o := .ins CBo dbo [("first", .ref r2), ("second", .ref r3)]))
  generalize upd (upd (upd H4 dbo (.own bo)) bo (.ins CBo dbo [])) bo (.ins CBo dbo [("first", .ref r2), ("second", .ref r3)]) = H5 at s5 w3 ⊢
  have s25 := (s3.trans s4).trans s5
  replace w1 := w1.same s25
  replace w2 := w2.same s25
  have t5 := SL.Tabs.same t2 s25
  clear s3 s4 s5 s25 t1 t2
  -- Coarse(Ranges(), ..)
  refine fun r6 dr6 nr ndr ner => ?_
  obtain ⟨s6, _⟩ := made0 (C := CR) nr ndr
  generalize upd (upd H5 dr6 (.own r6)) r6 (.ins CR dr6 []) = H6 at s6 ⊢
  refine ⟨SL.Tabs.same t5 s6, fun fl _ H7 e7 _ t7 _ _ _ => ?_⟩
  refine fun co dco nx nd ne => ⟨co, dco, .ref r6, .ref fl, rfl, upd_same, rfl, ?_⟩
  have s8 := same_made (C := CCo) (o := .ins CCo dco [("kind", .ref r6), ("squeeze", .ref fl)]) nx nd
  have w4 := mk_of (x := co) kC (upd_same (H := upd (upd H7 dco (.own co)) co (.ins CCo dco [])) (o := .ins CCo dco [("kind", .ref r6), ("squeeze", .ref fl)]))
  generalize upd (upd (upd H7 dco (.own co)) co (.ins CCo dco [])) co (.ins CCo dco [("kind", .ref r6), ("squeeze", .ref fl)]) = H8 at s8 w4 ⊢
  have e58 := ((SL.ExtN.of_same s6).trans e7).trans (SL.ExtN.of_same s8)
  replace w1 := w1.ext e58
  replace w2 := w2.ext e58
  replace w3 := w3.ext e58
  have t8 := SL.Tabs.same t7 s8
  clear s6 e7 s8 e58 t5 t7
  refine ⟨by show 4 ≤ sizeLine; decide, fun l nl => ?_⟩
  have s9 := same_upd (o := .lst [.ref r, .ref x, .ref bo, .ref co]) nl
  have l9 := upd_same (H := H8) (a := l) (o := .lst [.ref r, .ref x, .ref bo, .ref co])
  generalize upd H8 l (.lst [.ref r, .ref x, .ref bo, .ref co]) = H9 at s9 l9 ⊢
  have t9 := SL.Tabs.same t8 s9
  have al : ∀ v ∈ [V.ref r, .ref x, .ref bo, .ref co], Of K CB CF true H9 v := fun v hv => by
    rcases List.mem_cons.mp hv with rfl | hv
    · exact w1.same s9
    rcases List.mem_cons.mp hv with rfl | hv
    · exact w2.same s9
    rcases List.mem_cons.mp hv with rfl | hv
    · exact w3.same s9
    rw [List.mem_singleton.mp hv]
    exact w4.same s9
  clear s9 w1 w2 w3 w4
  refine ⟨_, rfl, l, rfl, ⟨_, .inl (.inl l9)⟩, fun D nD => ?_⟩
  refine lc_list (K := K) (xs := [V.ref r, .ref x, .ref bo, .ref co]) (fun i H' => Same H9 H' ∧ H' D = some (.lst [])) ⟨same_upd nD, upd_same⟩ (fun i H' _ ⟨s, _⟩ => .inl (.inl (s _ _ l9))) ?_ ?_
  · rintro i v H' hv ⟨s, hd⟩
    obtain ⟨a, C, dd, fs, rfl, e, kk⟩ := (al v (List.mem_of_getElem? hv)).same s
    refine ⟨rfl, ?_⟩
    have ty : TyX K H' (.ref a) (.ref C) := .base (.ins e kk.ik.cl kk.ik.ca kk.ik.gs kk.ik.tk kk.ik.mr)
    exact ⟨_, rfl, .ref a, _, _, _, true, rfl, .own CB, ty, kk.k1, true, rfl, iteF ⟨_, rfl, .ref a, _, _, _, true, rfl, .own CF, ty, kk.k2, true, rfl, iteF ⟨s, hd⟩⟩⟩
  · rintro Ha ⟨sa, hda⟩
    refine ⟨by show 0 ≤ sizeLine; decide, fun l2 n2 => ⟨D, l2, [], rfl, rfl, .inl (.inl (same_upd n2 _ _ hda)), .inl (.inl upd_same), false, rfl, iteF ?_⟩⟩
    have tb := SL.Tabs.same (SL.Tabs.same t9 sa) (same_upd (o := .lst []) n2)
    generalize upd Ha l2 (.lst []) = Hb at tb ⊢
    clear al t9 sa hda n2 l9 nD nl
    -- Rests(), Stems(), Signs()
    refine fun r dr nr ndr ner => ?_
    obtain ⟨s1, r1⟩ := made0 (C := CQ) nr ndr
    generalize upd (upd Hb dr (.own r)) r (.ins CQ dr []) = H1 at s1 r1 ⊢
    refine fun x dx nx ndx nex => ?_
    obtain ⟨s2, r2⟩ := made0 (C := CT) nx ndx
    generalize upd (upd H1 dx (.own x)) x (.ins CT dx []) = H2 at s2 r2 ⊢
    refine fun bo dbo nb ndb neb => ⟨bo, dbo, 8, rfl, upd_same, by decide, by decide, rfl, ?_⟩
    have s3 := same_made (C := CS) (o := .ins CS dbo [("bits", .int 8)]) nb ndb
    have w3 := mk_of (x := bo) kS (upd_same (H := upd (upd H2 dbo (.own bo)) bo (.ins CS dbo [])) (o := .ins CS dbo [("bits", .int 8)]))
    generalize upd (upd (upd H2 dbo (.own bo)) bo (.ins CS dbo [])) bo (.ins CS dbo [("bits", .int 8)]) = H3 at s3 w3 ⊢
    have w1 := mk_of kQ ((s2.trans s3) _ _ r1)
    have w2 := mk_of kT (s3 _ _ r2)
    refine ⟨by show 3 ≤ sizeLine; decide, fun l nl => ?_⟩
    have s9 := same_upd (o := .lst [.ref r, .ref x, .ref bo]) nl
    have l9 := upd_same (H := H3) (a := l) (o := .lst [.ref r, .ref x, .ref bo])
    generalize upd H3 l (.lst [.ref r, .ref x, .ref bo]) = H9 at s9 l9 ⊢
    have t9 := SL.Tabs.same tb ((s1.trans s2).trans (s3.trans s9))
    have al : ∀ v ∈ [V.ref r, .ref x, .ref bo], Of K CB CF false H9 v := fun v hv => by
      rcases List.mem_cons.mp hv with rfl | hv
      · exact w1.same s9
      rcases List.mem_cons.mp hv with rfl | hv
      · exact w2.same s9
      rw [List.mem_singleton.mp hv]
      exact w3.same s9
    clear s1 s2 s3 s9 w1 w2 w3 tb r1 r2
    refine ⟨_, rfl, l, rfl, ⟨_, .inl (.inl l9)⟩, fun D nD => ?_⟩
    refine lc_list (K := K) (xs := [V.ref r, .ref x, .ref bo]) (fun i H' => Same H9 H' ∧ H' D = some (.lst [])) ⟨same_upd nD, upd_same⟩ (fun i H' _ ⟨s, _⟩ => .inl (.inl (s _ _ l9))) ?_ ?_
    · rintro i v H' hv ⟨s, hd⟩
      obtain ⟨a, C, dd, fs, rfl, e, kk⟩ := (al v (List.mem_of_getElem? hv)).same s
      refine ⟨rfl, ?_⟩
      have ty : TyX K H' (.ref a) (.ref C) := .base (.ins e kk.ik.cl kk.ik.ca kk.ik.gs kk.ik.tk kk.ik.mr)
      exact ⟨_, rfl, .ref a, _, _, _, true, rfl, .own CB, ty, kk.k1, true, rfl, iteF ⟨_, rfl, .ref a, _, _, _, false, rfl, .own CF, ty, kk.k2, false, rfl, iteF ⟨s, hd⟩⟩⟩
    · rintro Ha ⟨sa, hda⟩
      refine ⟨by show 0 ≤ sizeLine; decide, fun l2 n2 => ⟨D, l2, [], rfl, rfl, .inl (.inl (same_upd n2 _ _ hda)), .inl (.inl upd_same), false, rfl, iteF ?_⟩⟩
      have tb := SL.Tabs.same (SL.Tabs.same t9 sa) (same_upd (o := .lst []) n2)
      generalize upd Ha l2 (.lst []) = Hb at tb ⊢
      refine ⟨tb, fun g1 _ K1 u1 _ t1 _ _ _ => ⟨t1, fun g2 _ K2 u2 _ t2 _ _ _ => ⟨t2, fun g3 _ K3 u3 _ t3 _ _ _ => ⟨t3, fun g4 _ K4 u4 _ t4 _ _ _ => ?_⟩⟩⟩⟩
      refine ⟨rfl, rfl, fun o dO nO ndO neO => ?_⟩
      refine ⟨o, dO, .ref g1, .ref g2, .ref g3, .ref g4, .non, .non, .non, .non, rfl, upd_same, rfl, ?_⟩
      have oS := upd_same (H := upd (upd K4 dO (.own o)) o (.ins CK dO [])) (a := o) (o := .ins CK dO (fs8 (.ref g1) (.ref g2) (.ref g3) (.ref g4) .non .non .non .non))
      generalize upd (upd (upd K4 dO (.own o)) o (.ins CK dO [])) o (.ins CK dO (fs8 (.ref g1) (.ref g2) (.ref g3) (.ref g4) .non .non .non .non)) = H18 at oS ⊢
      have ty : TyX K H18 (.ref o) (.ref CK) := .base (.ins oS kK.ik.cl kK.ik.ca kK.ik.gs kK.ik.tk kK.ik.mr)
      refine ⟨_, rfl, .ref o, _, _, _, true, rfl, .own CB, ty, kK.k1, true, rfl, iteT ⟨_, rfl, .ref o, _, _, _, true, rfl, .own CF, ty, kK.k2, true, rfl, iteT ?_⟩⟩
      refine fun z dz nz ndz nez => ?_
      obtain ⟨_, z2⟩ := made0 (C := CB) nz ndz
      exact ⟨.ref z, _, _, _, false, rfl, .own CF, .base (.ins z2 kKd.ik.cl kKd.ik.ca kKd.ik.gs kKd.ik.tk kKd.ik.mr), kKd.k2, false, rfl, q _⟩
end
end K10
set_option Elab.async false
set_option linter.all false
set_option maxRecDepth 100000
set_option maxHeartbeats 2000000
namespace K10
open PySem PySem.Spec PyProof.Rows L2 CM DN GR SRT RZ
section
variable {P : Program} {w : World} {K : PySem.W.Frag} {mg : Str → Option Value} {base : Heap}
structure GEq (K : PySem.W.Frag) (C : Addr) : Prop where
  ik : InsK K C
  kc : PySem.W.kitOne K (.ref C) (.ref C) = some true
  kt : ∀ T ∈ ["bool", "NoneType", "int", "str", "tuple", "list", "dict"], PySem.W.kitOne K (.type T) (.ref C) = some false ∧ PySem.W.notFirst K C (.type T) = true
/-! ### grids of flags -/
def FV (dv : Bool) (xs : List Ent) : Prop := ∀ x ∈ xs, x.2.2 = V.bl (!dv)
theorem FV.put {dv : Bool} {xs : List Ent} (h : FV dv xs) (k : NK) (a : Addr) : FV dv (putE xs k a (.bl (!dv))) := fun x hx => by
  rcases mem_put hx with ⟨y, hy, _, _, e⟩ | rfl
  · rcases e with e | e
    · rw [← e]
      exact h y hy
    · exact e
  · rfl
theorem FV.drop {dv : Bool} {xs : List Ent} (h : FV dv xs) (k : NK) : FV dv (dropE xs k) := fun x hx => h x (mem_drop hx)
theorem FV.at_ {dv : Bool} {xs : List Ent} (h : FV dv xs) {k : NK} {u : V} (e : DN.at_ xs k = some u) : u = .bl (!dv) := by
  obtain ⟨x, hx, rfl⟩ := at_mem e
  exact h x hx
theorem FV.fl {dv : Bool} {xs : List Ent} (h : FV dv xs) : ∀ x ∈ xs, fl4 x.2.2 = true := fun x hx => by
  rw [h x hx]
  rfl
theorem FV.kv {dv : Bool} {xs ys : List Ent} (h : FV dv xs) (e : xs.map GR.kv = ys.map GR.kv) : FV dv ys := fun y hy => by
  have : GR.kv y ∈ ys.map GR.kv := List.mem_map.mpr ⟨y, hy, rfl⟩
  rw [← e] at this
  obtain ⟨x, hx, ex⟩ := List.mem_map.mp this
  have e2 : x.2.2 = y.2.2 := (Prod.mk.inj (show (x.1, x.2.2) = (y.1, y.2.2) from ex)).2
  rw [← e2]
  exact h x hx
theorem FV.flE {dv : Bool} {xs ys : List Ent} (h : FV dv xs) (h2 : FV dv ys) : FlE xs ys := fun x hx v hv => ⟨h.fl x hx, by rw [h2.at_ hv]; rfl⟩
/-- a value of an own grid: what stands, or the default -/
theorem FV.getD {dv : Bool} {xs : List Ent} (h : FV dv xs) (k : NK) : (DN.at_ xs k).getD (.bl dv) = .bl (xor dv (DN.at_ xs k).isSome) := by
  cases e : DN.at_ xs k with
  | none => simp
  | some u =>
    rw [h.at_ e]
    simp
theorem eqv_bb (b d : Bool) : PyData.eqv (.bool b) (.bool d) = (b == d) := by cases b <;> cases d <;> simp [PyData.eqv]
/-- a grid of flags -/
structure Og (P : Program) (w : World) (C : Addr) (H : Hp) (g e : Addr) (dv : Bool) (zs : List Ent) : Prop where
  gd : Gd P w C H g (.bl dv) e zs
  nd : (ks zs).Nodup
  fv : FV dv zs
section
variable {C g e c p : Addr} {H H' : Hp} {dv : Bool} {zs : List Ent} {k : NK}
theorem Og.same (h : Og P w C H g e dv zs) (s : Same H H') : Og P w C H' g e dv zs := ⟨h.gd.same s, h.nd, h.fv⟩
theorem Og.ge (h : Og P w C H g e dv zs) : g ≠ e := fun z => by
  obtain ⟨⟨dx, h1⟩, h2⟩ := h.gd
  rw [z, h2.1] at h1
  exact dn_ins (Option.some.inj h1)
theorem Og.keep {S : List Addr} (h : Og P w C H g e dv zs) (s : Kps S H H') (t : TP H H') (n1 : g ∉ S) (n2 : e ∉ S) : Og P w C H' g e dv zs := by
  obtain ⟨⟨⟨dx, h1⟩, h2⟩, h3, h4⟩ := h
  exact ⟨⟨⟨dx, s _ _ n1 h1⟩, h2.mono (s _ _ n2 h2.1) t⟩, h3, h4⟩
theorem Og.ne_lst {a : Addr} {ys : List V} (h : Og P w C H g e dv zs) (ha : H a = some (.lst ys)) : g ≠ a ∧ e ≠ a := by
  obtain ⟨⟨⟨dx, h1⟩, h2⟩, _⟩ := h
  refine ⟨fun z => ?_, fun z => ?_⟩
  · rw [z, ha] at h1
    cases h1
  · have := h2.1
    rw [z, ha] at this
    exact dn_lst (Option.some.inj this).symm
theorem Og.kp {a : Addr} {ys : List V} (h : Og P w C H g e dv zs) (ha : H a = some (.lst ys)) (s : Kp a H H') : Og P w C H' g e dv zs := by
  obtain ⟨n1, n2⟩ := h.ne_lst ha
  exact h.keep (S := [a]) (Kps.kp s (List.mem_singleton.mpr rfl)) (kp_tup ha s) (fun z => n1 (List.mem_singleton.mp z)) (fun z => n2 (List.mem_singleton.mp z))
theorem Og.put (h : Og P w C H g e dv zs) (hk : KeyV H k (.ref p)) (hd : k.depth ≤ 8) : Og P w C (upd H e (dn P w e (putE zs k p (.bl (!dv))))) g e dv (putE zs k p (.bl (!dv))) := by
  have ge := h.ge
  obtain ⟨⟨⟨dx, h1⟩, h2⟩, h3, h4⟩ := h
  exact ⟨⟨⟨dx, by rw [upd_ne ge]; exact h1⟩, dct_put h2 hk hd⟩, nd_put h3 _ _ _, h4.put _ _⟩
theorem Og.drop (h : Og P w C H g e dv zs) : Og P w C (upd H e (dn P w e (dropE zs k))) g e dv (dropE zs k) := by
  have ge := h.ge
  obtain ⟨⟨⟨dx, h1⟩, h2⟩, h3, h4⟩ := h
  exact ⟨⟨⟨dx, by rw [upd_ne ge]; exact h1⟩, dct_drop h2⟩, nd_drop h3 _, h4.drop _⟩
/-- a flag is set: what the grid says then -/
def stored (dv b : Bool) (k : NK) (p : Addr) (zs : List Ent) : List Ent := if b = dv then (if (DN.at_ zs k).isSome then dropE zs k else zs) else putE zs k p (.bl b)
theorem at_stored {b : Bool} {j : NK} : DN.at_ (stored dv b k p zs) j = if j = k then (if b = dv then none else some (.bl b)) else DN.at_ zs j := by
  unfold stored
  by_cases hb : b = dv
  · rw [if_pos hb, if_pos hb]
    cases e : DN.at_ zs k with
    | none =>
      rw [if_neg (by simp)]
      by_cases ej : j = k
      · rw [if_pos ej, ej, e]
      · rw [if_neg ej]
    | some u => rw [if_pos (by simp), at_drop]
  · rw [if_neg hb, if_neg hb, at_put]
/-- grid[place] = flag, as a spec of the caller -/
theorem set_flag {g p e : Addr} {b : Bool} {Q : VK} {E : XK} (h : Og P w C H g e dv zs) (hp : Plc H p k) (hz : zs.length < 1000)
    (q : ∀ H' : Hp, Kp e H H' → TP H H' → Og P w C H' g e dv (stored dv b k p zs) → Q .non H') : spSet P w C [.ref g, .ref p, .bl b] H Q E := by
  have hk := hp.key
  refine ⟨g, p, e, k, true, .bl dv, .bl b, .bool dv, .bool b, zs, rfl, h.gd, hp, ⟨dv, rfl, rfl⟩, ⟨b, rfl, rfl⟩, hz, fun he => ?_, fun he hn => ?_, fun he u hu => ?_⟩
  · rw [eqv_bb] at he
    have nb : ¬ b = dv := by
      intro z
      rw [z] at he
      simp at he
    have eb : b = !dv := by cases b <;> cases dv <;> simp_all
    refine q _ Kp.set (tp_dct h.gd.2) ?_
    unfold stored
    rw [if_neg nb, eb]
    exact h.put hk.1 hk.2
  · rw [eqv_bb] at he
    have eb : b = dv := by simpa using he
    refine q _ (fun _ _ _ z => z) (fun _ _ z => z) ?_
    unfold stored
    rw [if_pos eb, hn, if_neg (by simp)]
    exact h
  · rw [eqv_bb] at he
    have eb : b = dv := by simpa using he
    refine q _ Kp.set (tp_dct h.gd.2) ?_
    unfold stored
    rw [if_pos eb, hu, if_pos (by simp)]
    exact h.drop
end
end
end K10
set_option Elab.async false
set_option linter.all false
set_option maxRecDepth 100000
set_option maxHeartbeats 2000000
namespace K10
open PySem PySem.Spec PyProof.Rows L2 CM DN GR SRT RZ
section
variable {P : Program} {w : World} {K : PySem.W.Frag} {mg : Str → Option Value} {base : Heap}
theorem cut_mem {xs : List V} {lo hi : Option Int} {v : V} (h : v ∈ cutV xs lo hi) : v ∈ xs := List.mem_of_mem_drop (List.mem_of_mem_take h)
/-- Grid(v) makes a grid -/
theorem init_new {C x dx : Addr} {H : Hp} {fl : Bool} {v : V} {d : PyData} {Q : Hp → Prop} {E : XK} (hx : H x = none) (hdx : H dx = none) (wr : Wr H fl v d) (q : ∀ (H' : Hp) (e : Addr), Same H H' → H e = none → Gd P w C H' x v e [] → Q H') :
    spInit P w C [.ref x, v] (upd (upd H dx (.own x)) x (.ins C dx [])) (fun u H2 => u = .non ∧ Q H2) E := by
  have sm : Same H (upd (upd H dx (.own x)) x (.ins C dx [])) := fun b o eb => by
    rw [upd_ne (ne_of_none eb hx), upd_ne (ne_of_none eb hdx)]
    exact eb
  refine ⟨x, dx, fl, v, d, rfl, upd_same, wr.same (same_tup sm), fun H' e He ne keep gd => ⟨rfl, q H' e (fun b o eb => keep b o (ne_of_none eb hx) (sm b o eb)) ?_ gd⟩⟩
  cases hh : H e with
  | none => rfl
  | some o =>
    have := sm e o hh
    rw [He] at this
    cases this
theorem plc_new {H : Hp} {p : Addr} {x y : V} {k1 k2 : NK} (n : H p = none) (h1 : Pl H x k1) (h2 : Pl H y k2) : Same H (upd H p (.tup [x, y])) ∧ Plc (upd H p (.tup [x, y])) p (.tup [k1, k2]) :=
  ⟨same_upd n, ⟨x, y, k1, k2, upd_same, h1.same (same_tup (same_upd n)), h2.same (same_tup (same_upd n)), rfl⟩⟩
/-- a grid of flags and the law's dict of it -/
structure Flg (P : Program) (w : World) (C : Addr) (H : Hp) (n : Nat) (g e c : Addr) (dv : Bool) (xs ys : List Ent) : Prop where
  og : Og P w C H g e dv xs
  dc : Dct P w H c ys
  ec : e ≠ c
  kv : xs.map kv = ys.map kv
  le : xs.length ≤ n
  pl : ∀ y ∈ ys, Plc H y.2.1 y.1
section
variable {C g e c p a : Addr} {H H' : Hp} {dv : Bool} {xs ys : List Ent} {k : NK} {n m : Nat}
theorem stored_kv {b : Bool} {p' : Addr} (h : xs.map kv = ys.map kv) : (stored dv b k p xs).map kv = (stored dv b k p' ys).map kv := by
  unfold stored
  rw [at_congr h k]
  split
  · split
    · exact drop_kv h k
    · exact h
  · exact put_kv h _ _ _ _
theorem stored_len {b : Bool} : (stored dv b k p xs).length ≤ xs.length + 1 := by
  unfold stored
  split
  · split
    · exact Nat.le_trans (len_drop _ _) (Nat.le_succ _)
    · exact Nat.le_succ _
  · exact len_put _ _ _ _
theorem stored_mem {b : Bool} {x : Ent} (h : x ∈ stored dv b k p xs) : (∃ y ∈ xs, y.1 = x.1 ∧ y.2.1 = x.2.1) ∨ (x.1 = k ∧ x.2.1 = p) := by
  unfold stored at h
  split at h
  · split at h
    · exact .inl ⟨x, mem_drop h, rfl, rfl⟩
    · exact .inl ⟨x, h, rfl, rfl⟩
  · rcases mem_put h with ⟨y, hy, e1, e2, _⟩ | rfl
    · exact .inl ⟨y, hy, e1, e2⟩
    · exact .inr ⟨rfl, rfl⟩
theorem Flg.same (h : Flg P w C H n g e c dv xs ys) (s : Same H H') : Flg P w C H' n g e c dv xs ys := ⟨h.og.same s, h.dc.same s, h.ec, h.kv, h.le, fun y hy => (h.pl y hy).same (same_tup s)⟩
theorem Flg.c_lst {zs : List V} (h : Flg P w C H n g e c dv xs ys) (ha : H a = some (.lst zs)) : c ≠ a := fun z => by
  have := h.dc.1
  rw [z, ha] at this
  exact dn_lst (Option.some.inj this).symm
theorem Flg.kp {zs : List V} (h : Flg P w C H n g e c dv xs ys) (ha : H a = some (.lst zs)) (s : Kp a H H') : Flg P w C H' n g e c dv xs ys :=
  ⟨h.og.kp ha s, h.dc.mono (s _ _ (h.c_lst ha) h.dc.1) (kp_tup ha s), h.ec, h.kv, h.le, fun y hy => (h.pl y hy).same (kp_tup ha s)⟩
theorem Flg.le_ (h : Flg P w C H n g e c dv xs ys) (l : n ≤ m) : Flg P w C H m g e c dv xs ys := ⟨h.og, h.dc, h.ec, h.kv, Nat.le_trans h.le l, h.pl⟩
theorem Flg.g_c (h : Flg P w C H n g e c dv xs ys) : g ≠ c := fun z => by
  obtain ⟨⟨dx, h1⟩, h2⟩ := h.og.gd
  rw [z, h.dc.1] at h1
  exact dn_ins (Option.some.inj h1)
/-- the grid was set, then its dict -/
theorem Flg.step {b : Bool} (h : Flg P w C H n g e c dv xs ys) (hp : Plc H p k) (k1 : Kp e H H') (t1 : TP H H') (og : Og P w C H' g e dv (stored dv b k p xs)) {H2 : Hp} (hc : H2 c = some (dn P w c (stored dv b k p ys))) (k2 : Kp c H' H2) :
    Flg P w C H2 (n + 1) g e c dv (stored dv b k p xs) (stored dv b k p ys) := by
  have d1 : Dct P w H' c ys := h.dc.mono (k1 _ _ (Ne.symm h.ec) h.dc.1) t1
  have t2 : TP H' H2 := fun a zs ea => k2 _ _ (fun z => by
    rw [z, d1.1] at ea
    exact dn_ne (Option.some.inj ea)) ea
  have hk := hp.key
  refine ⟨og.keep (S := [c]) (Kps.kp k2 (List.mem_singleton.mpr rfl)) t2 (fun z => h.g_c (List.mem_singleton.mp z)) (fun z => h.ec (List.mem_singleton.mp z)), ⟨hc, fun x hx => ?_⟩, h.ec, stored_kv h.kv, Nat.le_trans stored_len (Nat.succ_le_succ h.le), fun x hx => ?_⟩
  · rcases stored_mem hx with ⟨y, hy, e1, e2⟩ | ⟨e1, e2⟩
    · obtain ⟨q1, q2⟩ := d1.2 y hy
      rw [← e1, ← e2]
      exact ⟨q1.same t2, q2⟩
    · rw [e1, e2]
      exact ⟨(hk.1.same t1).same t2, hk.2⟩
  · rcases stored_mem hx with ⟨y, hy, e1, e2⟩ | ⟨e1, e2⟩
    · rw [← e1, ← e2]
      exact ((h.pl y hy).same t1).same t2
    · rw [e1, e2]
      exact (hp.same t1).same t2
theorem kp_put {o : HO} (k : Kp a H H') (h : H p = none) : Kp a H (upd H' p o) := fun b u n eb => by
  rw [upd_ne (ne_of_none eb h)]
  exact k b u n eb
theorem kp_kp {H2 : Hp} (k : Kp a H H') (h : H p = none) (k2 : Kp p H' H2) : Kp a H H2 := fun b u n eb => k2 _ _ (ne_of_none eb h) (k b u n eb)
theorem kp_lst {zs : List V} (k : Kp p H H') (n : p ≠ a) (h : H a = some (.lst zs)) : H' a = some (.lst zs) := k _ _ (Ne.symm n) h
end
end
end K10
set_option Elab.async false
set_option linter.all false
set_option maxRecDepth 100000
set_option maxHeartbeats 2000000
namespace K10
open PySem PySem.Spec PyProof.Rows L2 CM DN GR SRT RZ
section
variable {P : Program} {w : World} {K : PySem.W.Frag} {mg : Str → Option Value} {base : Heap}
/-! ### places in the order of their texts -/
abbrev refs (bs : List Ek) : List V := bs.map fun b => V.ref b.2
/-- keys that may be shown -/
def Kys (H : Hp) (bs : List Ek) : Prop := ∀ b ∈ bs, Plc H b.2 b.1 ∧ Sh b.1
theorem Kys.keys {H : Hp} {bs : List Ek} (h : Kys H bs) : ∀ b ∈ bs, KeyV H b.1 (.ref b.2) ∧ Sh b.1 := fun b hb => ⟨(h b hb).1.key.1, (h b hb).2⟩
theorem Kys.ext {H H' : Hp} {bs : List Ek} (h : Kys H bs) (e : LamX.ExtN H H') : Kys H' bs := fun b hb => ⟨(h b hb).1.same (extN_tup e), (h b hb).2⟩
theorem Kys.tp {H H' : Hp} {bs : List Ek} (h : Kys H bs) (e : TP H H') : Kys H' bs := fun b hb => ⟨(h b hb).1.same e, (h b hb).2⟩
theorem mem_sortE {bs : List Ek} {b : Ek} : b ∈ sortE bs ↔ b ∈ bs := by unfold sortE; exact List.mem_mergeSort
theorem Kys.sort {H : Hp} {bs : List Ek} (h : Kys H bs) : Kys H (sortE bs) := fun b hb => h b (mem_sortE.mp hb)
theorem sortE_len (bs : List Ek) : (sortE bs).length = bs.length := List.length_mergeSort ..
def spByR (K : PySem.W.Frag) : Sp := fun vs H Q _ => ∃ (l : Addr) (bs : List Ek), vs = [.ref l] ∧ H l = some (.lst (refs bs)) ∧ Kys H bs ∧ LamX.Tabs (TT K) H ∧ ∀ (D : Addr) (H' : Hp), LamX.ExtN H H' → LamX.Tabs (TT K) H' → H' D = some (.lst (refs (sortE bs))) → Q (.ref D) H'
theorem ok_byr {fd : FuncData} {k : Nat} (F : FnP K "by_repr" "by_repr" s_by_repr (He.fAd K ("by_repr", none)) fd) (TB : LamX.TabB base mg (He.cT K ("by_repr", none)).1 (He.cT K ("by_repr", none)).2) (ds : Dst K) (m_sorted : mg "sorted" = none) (m_repr : mg "repr" = none) :
    GD.FnG P w K mg base CX0 (k + 1) (He.fAd K ("by_repr", none)) fd ["things"] (spByR K) := by
  refine SY.okCG F sc_by_repr (fun vs H Q E h => ?_) (fun A outer s H vs Q E hr gd h => ?_)
  · obtain ⟨l, bs, rfl, _⟩ := h
    rfl
  · obtain ⟨l, bs, rfl, hl, hk, hT, q⟩ := h
    refine ⟨_, PSs.nox (pss_one (ps_ret (SRT.pe_sortR (T := TT K) (K := K) hr gd TB rfl (List.mem_of_getElem? (i := 0) rfl) (tt_q ds (i := 0) rfl) (SL.lam1_by (sc := defScope s_by_repr) (by decide +kernel)) rfl (fun _ _ _ _ _ _ => rfl) rfl (by rfl) m_sorted m_repr (pv 0)))), ?_⟩
    exact ⟨_, rfl, hT, l, bs, rfl, .inl (.inl hl), hk.keys, fun D H2 e _ T2 hD => q D H2 e T2 hD⟩
/-! ### what stands in one of two grids or in both -/
def ek (x : Ent) : Ek := (x.1, x.2.1)
def st (xs ys : List Ent) : List Ek := xs.map ek ++ (ys.filter fun y => !(at_ xs y.1).isSome).map ek
theorem refs_ek (xs : List Ent) : refs (xs.map ek) = keyRefs xs := by
  unfold refs keyRefs ek
  rw [List.map_map]
  rfl
/-- a grid of flags whose places may be shown -/
structure Gk (P : Program) (w : World) (C : Addr) (H : Hp) (g e : Addr) (dv : Bool) (zs : List Ent) : Prop where
  og : Og P w C H g e dv zs
  ks : Kys H (zs.map ek)
  le : zs.length ≤ 40
theorem ins_dn {H : Hp} {a C dx : Addr} {fs : List (Str × V)} {d : Addr} {xs : List Ent} (h : H a = some (.ins C dx fs)) (h2 : H a = some (dn P w d xs)) : False := by
  rw [h] at h2
  exact dn_ins (Option.some.inj h2).symm
theorem dn_tbl {d : Addr} {xs : List Ent} : ∀ ps, dn P w d xs ≠ .tbl ps := fun ps z => by
  unfold dn at z
  cases z
theorem Dct.extN {H H' : Hp} {d : Addr} {xs : List Ent} (h : Dct P w H d xs) (e : LamX.ExtN H H') : Dct P w H' d xs := h.mono (e _ _ h.1 dn_tbl) (extN_tup e)
theorem Gd.extN {C g e : Addr} {H H' : Hp} {v : V} {xs : List Ent} (h : Gd P w C H g v e xs) (x : LamX.ExtN H H') : Gd P w C H' g v e xs := by
  obtain ⟨⟨dx, h1⟩, h2⟩ := h
  exact ⟨⟨dx, x _ _ h1 fun ps z => by cases z⟩, Dct.extN h2 x⟩
theorem Gk.ext {C g e : Addr} {H H' : Hp} {dv : Bool} {zs : List Ent} (h : Gk P w C H g e dv zs) (x : LamX.ExtN H H') : Gk P w C H' g e dv zs :=
  ⟨⟨Gd.extN h.og.gd x, h.og.nd, h.og.fv⟩, h.ks.ext x, h.le⟩
theorem st_kys {H : Hp} {xs ys : List Ent} (h1 : Kys H (xs.map ek)) (h2 : Kys H (ys.map ek)) : Kys H (st xs ys) := fun b hb => by
  rcases List.mem_append.mp hb with hb | hb
  · exact h1 b hb
  · obtain ⟨y, hy, rfl⟩ := List.mem_map.mp hb
    exact h2 _ (List.mem_map.mpr ⟨y, (List.mem_filter.mp hy).1, rfl⟩)
end
end K10
set_option Elab.async false
set_option linter.all false
set_option maxRecDepth 100000
set_option maxHeartbeats 2000000
namespace K10
open PySem PySem.Spec PyProof.Rows L2 CM DN GR SRT RZ
section
variable {P : Program} {w : World} {K : PySem.W.Frag} {mg : Str → Option Value} {base : Heap}
/-! ### what a new grid begins with -/
def mkE (v : Bool) (bs : List Ek) : List Ent := bs.map fun x => (x.1, x.2, V.bl v)
theorem ks_mkE (v : Bool) (bs : List Ek) : ks (mkE v bs) = bs.map (·.1) := by
  unfold ks mkE
  rw [List.map_map]
  rfl
theorem ek_mkE (v : Bool) (bs : List Ek) : (mkE v bs).map ek = bs := by
  unfold mkE
  rw [List.map_map]
  exact List.map_id bs
theorem at_mkE (v : Bool) (bs : List Ek) (k : NK) : at_ (mkE v bs) k = if k ∈ bs.map (·.1) then some (.bl v) else none := by
  induction bs with
  | nil => rfl
  | cons b bs ih =>
    have e1 : at_ (mkE v (b :: bs)) k = if b.1 = k then some (.bl v) else at_ (mkE v bs) k := by
      unfold at_ mkE
      rw [List.map_cons, List.find?_cons]
      by_cases z : b.1 = k
      · simp [z]
      · simp [z]
    rw [e1, ih, List.map_cons]
    by_cases z : b.1 = k
    · rw [if_pos z, if_pos (by rw [z]; exact List.mem_cons_self ..)]
    · have z2 : ¬ k = b.1 := fun y => z y.symm
      rw [if_neg z]
      by_cases m : k ∈ bs.map (·.1)
      · rw [if_pos m, if_pos (List.mem_cons_of_mem _ m)]
      · rw [if_neg m, if_neg (fun y => (List.mem_cons.mp y).elim z2 m)]
theorem fv_mkE (v : Bool) (bs : List Ek) : FV v (mkE (!v) bs) := fun x hx => by
  obtain ⟨b, hb, rfl⟩ := List.mem_map.mp hx
  rfl
def spFill (P : Program) (w : World) (CF : Addr) : Sp := fun vs H Q _ => ∃ (p dx l : Addr) (b : Bool) (bs : List Ek), vs = [.ref p, .bl b, .ref l] ∧ H p = some (.ins CF dx []) ∧ H l = some (.lst (refs bs)) ∧ Kys H bs ∧ (bs.map (·.1)).Nodup ∧ bs.length ≤ 100 ∧
  ∀ (H' : Hp) (e : Addr), (∀ a o, a ≠ p → H a = some o → H' a = some o) → H' p = some (.ins CF dx [("default", .bl b), ("entries", .ref e)]) → Dct P w H' e (mkE (!b) bs) → Q .non H'
theorem ok_fill {CF f : Addr} {fd : FuncData} {k : Nat} (F : FnP K "__init__" "Filling.__init__" s_Filling___init f fd) (gF : GCls K CF) : FnOk P w K mg base CX0 (k + 1) f fd ["self", "default", "places"] (spFill P w CF) := by
  refine F.ok sc_Filling___init (fun vs H Q E h => ?_) (fun cdv A outer s H vs Q E hr h => ?_)
  · obtain ⟨p, dx, l, b, bs, rfl, _⟩ := h
    rfl
  · obtain ⟨p, dx, l, b, bs, rfl, hp, hl, hk, nd, le, q⟩ := h
    refine ⟨_, PSs.nox (pss_cons (ps_fld (pv 0) (pv 1) rfl)
    (pss_one (ps_fld (pv 0) (DN.pe_dcN (P := P) (w := w) (own := [("place", 3)]) rfl sc_Filling___init.nd (u40 hr.units) (pi_list (pv 2)) (blkOk_by (N := n_Filling___init) (sc := defScope s_Filling___init) (by decide +kernel)) (fun _ _ _ _ _ => pg_name (i := 3) sc_Filling___init.nd rfl (.inl rfl)) (fun _ _ _ _ _ => (pv 3)) (fun _ _ _ _ _ => (pe_not (pv 1)))) rfl))), ?_⟩
    have lp : l ≠ p := fun z => by
      rw [z, hp] at hl
      cases hl
    refine ⟨_, rfl, _, rfl, p, CF, dx, [], rfl, hp, gF.cl, gF.nd, (show (0 : Nat) < 1000 by decide), ?_⟩
    have hp1 := upd_same (H := H) (a := p) (o := .ins CF dx (putF "default" (V.bl b) []))
    have k1 : ∀ a o, a ≠ p → H a = some o → upd H p (.ins CF dx (putF "default" (V.bl b) [])) a = some o := fun a o n ea => by rw [upd_ne n]; exact ea
    generalize upd H p (.ins CF dx (putF "default" (V.bl b) [])) = H1 at hp1 k1
    have t1 : TP H H1 := fun a zs ea => k1 _ _ (fun z => by
      rw [z, hp] at ea
      cases ea) ea
    refine ⟨_, rfl, l, rfl, ⟨_, .inl (.inl (k1 _ _ lp hl))⟩, fun D nD => ?_⟩
    have nD2 : ∀ {b o}, H1 b = some o → b ≠ D := fun {b o} eb z => by
      rw [z, nD] at eb
      cases eb
    refine dc_listN (P := P) (w := w) (K := K) (a := l) (xs := refs bs) (fun i H' => Kp D H1 H' ∧ TP H1 H' ∧ Dct P w H' D (mkE (!b) (bs.take i))) ⟨Kp.same (same_upd nD), same_tup (same_upd nD), upd_same, fun x hx => by cases hx⟩ (fun i H' _ hq => .inl (.inl (hq.1 _ _ (nD2 (k1 _ _ lp hl)) (k1 _ _ lp hl)))) (fun i x H' hx hq => ?_) (fun H' hq => ?_)
    · obtain ⟨kp, tp, dc⟩ := hq
      obtain ⟨y, hy, rfl⟩ : ∃ y, bs[i]? = some y ∧ x = V.ref y.2 := by
        unfold refs at hx
        rw [List.getElem?_map] at hx
        obtain ⟨y, hy, e⟩ := Option.map_eq_some_iff.mp hx
        exact ⟨y, hy, e.symm⟩
      have hky := (hk y (List.mem_of_getElem? hy)).1.key
      have hlt := (List.getElem?_eq_some_iff.mp hy).1
      have ml : (mkE (!b) (bs.take i)).length < 1000 := by
        unfold mkE
        rw [List.length_map, List.length_take]
        omega
      have new : at_ (mkE (!b) (bs.take i)) y.1 = none := by
        rw [at_mkE, if_neg]
        intro z
        rw [List.map_take] at z
        obtain ⟨j, hj⟩ := List.getElem?_of_mem z
        rw [List.getElem?_take] at hj
        by_cases lt : j < i
        · rw [if_pos lt] at hj
          have h2 : (bs.map (·.1))[i]? = some y.1 := by rw [List.getElem?_map, hy]; rfl
          have hji := (List.getElem?_eq_some_iff.mp hj).1
          have := (List.getElem?_inj hji nd).mp (hj.trans h2.symm)
          omega
        · rw [if_neg lt] at hj
          cases hj
      have e2 : putE (mkE (!b) (bs.take i)) y.1 y.2 (.bl (!b)) = mkE (!b) (bs.take (i + 1)) := by
        unfold putE
        rw [new, if_neg (by simp)]
        unfold mkE
        rw [List.take_succ, hy]
        simp
      refine ⟨rfl, _, rfl, _, rfl, _, rfl, mkE (!b) (bs.take i), y.1, y.2, rfl, dc, (hky.1.same t1).same tp, hky.2, ml, Kp.trans kp Kp.set, (fun a zs (ea : H1 a = some (.tup zs)) => (tp_dct dc) a zs (tp a zs ea)), ?_⟩
      have := dct_put (p := y.2) (v := V.bl (!b)) dc ((hky.1.same t1).same tp) hky.2
      rw [← e2]
      exact this
    · obtain ⟨kp, tp, dc⟩ := hq
      have el : (refs bs).length = bs.length := List.length_map ..
      rw [el, List.take_length] at dc
      have hpD : p ≠ D := nD2 hp1
      refine ⟨_, rfl, p, CF, dx, _, rfl, kp _ _ hpD hp1, gF.cl, gF.ne, (show (1 : Nat) < 1000 by decide), ?_⟩
      have tp2 : TP H' (upd H' p (.ins CF dx (putF "entries" (V.ref D) (putF "default" (V.bl b) [])))) := fun a zs ea => by
        rw [upd_ne (fun z => by
          rw [z, kp _ _ hpD hp1] at ea
          cases ea)]
        exact ea
      refine q _ D (fun a o n ea => ?_) upd_same (dc.mono (by rw [upd_ne (Ne.symm hpD)]; exact dc.1) tp2)
      rw [upd_ne n]
      exact kp _ _ (nD2 (k1 _ _ n ea)) (k1 _ _ n ea)
/-- Grid(Filling(..)) -/
def spInitF (C CF : Addr) : Sp := fun vs H Q _ => ∃ (p dx f dxf e : Addr) (b : Bool), vs = [.ref p, .ref f] ∧ H p = some (.ins C dx []) ∧ H f = some (.ins CF dxf [("default", .bl b), ("entries", .ref e)]) ∧
  ∀ H' : Hp, (∀ a o, a ≠ p → H a = some o → H' a = some o) → H' p = some (.ins C dx [("default", .bl b), ("entries", .ref e)]) → Q .non H'
theorem ok_ginitF {C CF f : Addr} {fd : FuncData} {k : Nat} (F : FunG K f fd) (m_isinstance : mg "isinstance" = none) (m_Filling : mg "Filling" = some (.ref CF)) (fk : GEq K CF) (gF : GCls K CF)
    (gc : GCls K C) (C_flag : Cal P w K mg base CX0 "is_flag" (k + 1) ["thing"] (spFlag K)) (C_plain : Cal P w K mg base CX0 "is_plain" (k + 1) ["thing"] (spPlain K)) : FnOk P w K mg base CX0 (k + 2) f fd ["self", "default"] (spInitF C CF) := by
  obtain ⟨f_is_flag, fd_is_flag, G_is_flag, b_is_flag, m_is_flag, k_is_flag⟩ := C_flag
  obtain ⟨f_is_plain, fd_is_plain, G_is_plain, b_is_plain, m_is_plain, k_is_plain⟩ := C_plain
  refine F.ok sc_Grid___init (fun vs H Q E h => ?_) (fun cdv A outer s H vs Q E hr h => ?_)
  · obtain ⟨p, dx, f, dxf, e, b, rfl, _⟩ := h
    rfl
  · obtain ⟨p, dx, f, dxf, e, b, rfl, hp, hf, q⟩ := h
    refine ⟨_, PSs.nox (pss_one (ps_if (pt_val (pe_callB call_isi (by rfl) m_isinstance (by decide +kernel) (pa_cons (pv 1) (pa_cons (pe_gref (by rfl) m_Filling) pa_nil)))) (pss_cons (ps_fld (pv 0) (pe_fld (pv 1) rfl) rfl)
      (pss_one (ps_fld (pv 0) (pe_fld (pv 1) rfl) rfl))) (pss_one (ps_if (PW.pt (pw_or (pt_val (pe_call G_is_flag (hr.mono (by omega)) (by rfl) m_is_flag k_is_flag b_is_flag .nil pass0 (pa_cons (pv 1) pa_nil))) (pw_or1 (pt_val (pe_call G_is_plain (hr.mono (by omega)) (by rfl) m_is_plain k_is_plain b_is_plain .nil pass0 (pa_cons (pv 1) pa_nil)))))) (pss_cons (ps_fld (pv 0) (pv 1) rfl)
        (pss_one (ps_fld (pv 0) DN.pe_dnewN rfl))) (pss_one (ps_never)))))), ?_⟩
    have fp : f ≠ p := fun z => by
      rw [z, hp] at hf
      cases hf
    refine ⟨_, rfl, .ref f, _, .ref CF, _, true, rfl, .own CF, .base (.ins hf fk.ik.cl fk.ik.ca fk.ik.gs fk.ik.tk fk.ik.mr), fk.kc, true, rfl, iteT ?_⟩
    refine ⟨_, rfl, f, CF, dxf, _, _, rfl, hf, gF.cl, gF.nd, rfl, _, rfl, p, C, dx, [], rfl, hp, gc.cl, gc.nd, (show (0 : Nat) < 1000 by decide), ?_⟩
    refine ⟨_, rfl, f, CF, dxf, _, _, rfl, (by rw [upd_ne fp]; exact hf), gF.cl, gF.ne, rfl, _, rfl, p, C, dx, _, rfl, upd_same, gc.cl, gc.ne, (show (1 : Nat) < 1000 by decide), ?_⟩
    refine q _ (fun a o n ea => ?_) upd_same
    rw [upd_ne n, upd_ne n]
    exact ea
end
end K10
set_option Elab.async false
set_option linter.all false
set_option maxRecDepth 100000
set_option maxHeartbeats 2000000
namespace K10
open PySem PySem.Spec PyProof.Rows L2 CM DN GR SRT RZ
section
variable {P : Program} {w : World} {K : PySem.W.Frag} {mg : Str → Option Value} {base : Heap}
/-! ### ~o -/
theorem perm_sortE (bs : List Ek) : (sortE bs).Perm bs := List.mergeSort_perm ..
theorem nd_ek {xs : List Ent} (h : (ks xs).Nodup) : ((sortE (xs.map ek)).map (·.1)).Nodup := by
  refine ((perm_sortE _).map (·.1)).nodup_iff.mpr ?_
  rw [List.map_map]
  exact h
theorem make_both {C CF : Addr} {H : Hp} {l : Addr} {b : Bool} {bs : List Ek} {Q : VK} {E E2 : XK} (hl : H l = some (.lst (refs bs))) (hk : Kys H bs) (nd : (bs.map (·.1)).Nodup) (le : bs.length ≤ 100)
    (q : ∀ (g e : Addr) (H' : Hp), Same H H' → H g = none → Gd P w C H' g (.bl b) e (mkE (!b) bs) → Q (.ref g) H') :
    ∀ x dx, H x = none → H dx = none → dx ≠ x → spFill P w CF [.ref x, .bl b, .ref l] (upd (upd H dx (.own x)) x (.ins CF dx [])) (fun v H2 => v = .non ∧
      ∀ x2 dx2, H2 x2 = none → H2 dx2 = none → dx2 ≠ x2 → spInitF C CF [.ref x2, .ref x] (upd (upd H2 dx2 (.own x2)) x2 (.ins C dx2 [])) (fun v H3 => v = .non ∧ Q (.ref x2) H3) E2) E := by
  intro x dx nx ndx hdx
  have s1 : Same H (upd (upd H dx (.own x)) x (.ins CF dx [])) := fun a o ea => by
    rw [upd_ne (ne_of_none ea nx), upd_ne (ne_of_none ea ndx)]
    exact ea
  refine ⟨x, dx, l, b, bs, rfl, upd_same, s1 _ _ hl, fun y hy => ⟨(hk y hy).1.same (same_tup s1), (hk y hy).2⟩, nd, le, fun H2 e k2 hx2 dc => ⟨rfl, fun x2 dx2 nx2 ndx2 hdx2 => ?_⟩⟩
  have s2 : Same H H2 := fun a o ea => k2 a o (ne_of_none ea nx) (s1 a o ea)
  have s3 : Same H2 (upd (upd H2 dx2 (.own x2)) x2 (.ins C dx2 [])) := fun a o ea => by
    rw [upd_ne (ne_of_none ea nx2), upd_ne (ne_of_none ea ndx2)]
    exact ea
  refine ⟨x2, dx2, x, dx, e, b, rfl, upd_same, s3 _ _ hx2, fun H3 k3 hx3 => ⟨rfl, ?_⟩⟩
  have s4 : Same H2 H3 := fun a o ea => k3 a o (ne_of_none ea nx2) (s3 a o ea)
  refine q x2 e H3 (s2.trans s4) ?_ ⟨⟨dx2, hx3⟩, dc.same s4⟩
  cases hh : H x2 with
  | none => rfl
  | some o =>
    rw [s2 _ _ hh] at nx2
    cases nx2
def spInv (P : Program) (w : World) (K : PySem.W.Frag) (C : Addr) : Sp := fun vs H Q _ => ∃ (g e : Addr) (d : Bool) (xs : List Ent), vs = [.ref g] ∧ Gk P w C H g e d xs ∧ LamX.Tabs (TT K) H ∧
  ∀ (g3 e3 : Addr) (H' : Hp), LamX.ExtN H H' → LamX.Tabs (TT K) H' → Gd P w C H' g3 (.bl (!d)) e3 (mkE (!(!d)) (sortE (xs.map ek))) → Q (.ref g3) H'
theorem ok_inv {C CF f fG fF : Addr} {fd fdG fdF : FuncData} {k : Nat} (F : FnP K "__invert__" "Grid.__invert__" s_Grid___invert f fd) (gc : GCls K C) (m_list : mg "list" = none) (m_G : mg "Grid" = some (.ref C)) (M_G : Mk K C fG) (G_GF : FnOk P w K mg base CX0 k fG fdG ["self", "default"] (spInitF C CF)) (b_G : Binds K fdG ["self", "default"] [])
    (m_F : mg "Filling" = some (.ref CF)) (M_F : Mk K CF fF) (G_F : FnOk P w K mg base CX0 k fF fdF ["self", "default", "places"] (spFill P w CF)) (b_F : Binds K fdF ["self", "default", "places"] [])
    (C_byr : GD.CalG P w K mg base CX0 "by_repr" k ["things"] (spByR K)) : GD.FnG P w K mg base CX0 (k + 2) f fd ["self"] (spInv P w K C) := by
  obtain ⟨f_by_repr, fd_by_repr, G_by_repr, b_by_repr, m_by_repr, k_by_repr⟩ := C_byr
  refine GD.okG F sc_Grid___invert (fun vs H Q E h => ?_) (fun cdv A outer s H vs Q E hr gd h => ?_)
  · obtain ⟨g, e, d, xs, rfl, _⟩ := h
    rfl
  · obtain ⟨g, e, d, xs, rfl, h1, hT, q⟩ := h
    refine ⟨_, PSs.nox (pss_one (ps_ret (pe_make M_G G_GF (hr.mono (by omega)) (by rfl) m_G b_G .nil pass0 (pa_cons (pe_make M_F G_F (hr.mono (by omega)) (by rfl) m_F b_F .nil pass0 (pa_cons (pe_not (pe_fld (pv 0) rfl)) (pa_cons (GD.pe_callG G_by_repr (hr.mono (by omega)) gd (by rfl) m_by_repr k_by_repr b_by_repr .nil pass0 (pa_cons (pe_callTy (DN.cr_listN rfl) (by rfl) m_list (by decide +kernel) (pa_cons (pe_fld (pv 0) rfl) pa_nil)) pa_nil)) pa_nil))) pa_nil)))), ?_⟩
    obtain ⟨dx, hg⟩ := h1.og.gd.1
    refine ⟨_, rfl, g, C, dx, _, _, rfl, hg, gc.cl, gc.nd, rfl, d, rfl, _, rfl, g, C, dx, _, _, rfl, hg, gc.cl, gc.ne, rfl, e, xs, rfl, h1.og.gd.2, fun l nl => ?_⟩
    have s1 := same_upd (o := .lst (keyRefs xs)) nl
    have h2 := h1.ext (fun b o eb _ => s1 b o eb)
    refine ⟨l, xs.map ek, rfl, (by rw [refs_ek]; exact upd_same), h2.ks, SL.Tabs.same hT s1, fun D H2 x2 T2 hD => ?_⟩
    have h3 := h2.ext x2
    have le := h3.le
    refine make_both (w := w) (P := P) (C := C) (CF := CF) (b := !d) (bs := sortE (xs.map ek)) hD h3.ks.sort (nd_ek h3.og.nd) (by rw [sortE_len, List.length_map]; omega) fun g3 e3 H3 s3 n3 gd3 => ?_
    exact q g3 e3 H3 (fun b o eb n => s3 _ _ (x2 _ _ (s1 b o eb) n)) (SL.Tabs.same T2 s3) gd3
end
end K10
set_option Elab.async false
set_option linter.all false
set_option maxRecDepth 100000
set_option maxHeartbeats 2000000
namespace K10
open PySem PySem.Spec PyProof.Rows L2 CM DN GR SRT RZ
section
variable {P : Program} {w : World} {K : PySem.W.Frag} {mg : Str → Option Value} {base : Heap}
/-! ### grids as kinds -/
/-- Counted: its maker and its methods -/
structure CountK (P : Program) (w : World) (K : PySem.W.Frag) (mg : Str → Option Value) (base : Heap) (C CB f g : Addr) (fd : FuncData) (d2 : Value) : Prop where
  M : Mk K C f
  G : FnOk P w K mg base (L2.CX P w) 4 f fd ["self", "function", "arguments"] (spNInit K C CB)
  m : mg "Counted" = some (.ref C)
  b : Binds K fd ["self", "function", "arguments"] []
  b1 : Binds K fd ["self", "function", "arguments"] [d2]
  r : Vals [V.int 2] [d2]
  nc : NC K C
  co : StX.CallO K C g
  ca : FnR P w K mg base (L2.CX P w) 13 g (spNCall P w K mg base C)
  ca1 : FnR P w K mg base (L2.CX P w) 13 g (fun vs H Q E => vs.length = 2 ∧ spNCall P w K mg base C (vs ++ [.non]) H Q E)
theorem calls_down {n : Nat} {b : Bool} {f : Addr} {vs : List V} {H : Hp} {Q : VK} (c : CLO.CallsTo P w K mg base (L2.CX P w) n b f vs H Q (fun _ _ _ => False)) : CLO.CallsTo P w K mg base CX0 n b f vs H Q E0 := fun A outer s us hr e0 r =>
  have z := c A outer s us hr e0 r
  ⟨z.1, wpAny_mono z.2 (fun _ _ h => h) fun _ _ h => by
    obtain ⟨_, _, _, _, _, _, _, _, _, _, _, _, z⟩ := h
    exact z.elim⟩
/-- an instance of Counted is called: one argument -/
theorem cnt1_calls {C CB f g b dx h : Addr} {fd : FuncData} {d2 : Value} {H : Hp} {bo : Bool} {n : Int} {x : V} {Q : VK} (ck : CountK P w K mg base C CB f g fd d2) (hb : H b = some (.ins C dx (cnt (.ref h) 1 n))) (hf : bo = true → CLO.Fnk (made1 C dx (.ref h) 1 n b H) h)
    (q : CLO.CallsTo P w K mg base CX0 12 bo h [x] (made1 C dx (.ref h) 1 n b H) Q E0) : CLO.CallsTo P w K mg base CX0 14 false b [x] H Q E0 :=
  calls_down ((CLO.own_calls ck.co ck.ca1 hb ⟨rfl, b, dx, h, bo, 1, n, x, .non, rfl, hb, hf, .inl ⟨rfl, calls_up q⟩⟩).mono (by omega))
/-- .. two -/
theorem cnt2_calls {C CB f g b dx h : Addr} {fd : FuncData} {d2 : Value} {H : Hp} {bo : Bool} {n : Int} {x y : V} {Q : VK} (ck : CountK P w K mg base C CB f g fd d2) (hb : H b = some (.ins C dx (cnt (.ref h) 2 n))) (hf : bo = true → CLO.Fnk (made1 C dx (.ref h) 2 n b H) h)
    (q : CLO.CallsTo P w K mg base CX0 12 bo h [x, y] (made1 C dx (.ref h) 2 n b H) Q E0) : CLO.CallsTo P w K mg base CX0 14 false b [x, y] H Q E0 :=
  calls_down ((CLO.own_calls ck.co ck.ca hb ⟨b, dx, h, bo, 2, n, x, y, rfl, hb, hf, .inr ⟨rfl, calls_up q⟩⟩).mono (by omega))
/-- Grid: its maker, its methods -/
structure GridK (P : Program) (w : World) (K : PySem.W.Frag) (mg : Str → Option Value) (base : Heap) (C f gs gc gv : Addr) (fd fv : FuncData) (d0 : Value) : Prop where
  M : Mk K C f
  G : FnOk P w K mg base CX0 8 f fd ["self", "default"] (spInit P w C)
  m : mg "Grid" = some (.ref C)
  b : Binds K fd ["self", "default"] []
  b0 : Binds K fd ["self", "default"] [d0]
  r0 : Vals [V.bl false] [d0]
  nq : PySem.W.noSeq K C = true
  os : OP.Own K C "__setitem__" gs
  st : FnR P w K mg base CX0 10 gs (spSet P w C)
  oc : StX.CallO K C gc
  ca : FnR P w K mg base CX0 11 gc (spCallG P w C)
  oi : OP.Own K C "__invert__" gv
  iv : GD.FnG P w K mg base CX0 12 gv fv ["self"] (spInv P w K C)
  bi : Binds K fv ["self"] []
/-- a grid is called with two marks -/
theorem grid_calls {C f gs gc gv g e : Addr} {fd fv : FuncData} {d0 : Value} {H : Hp} {x y v : V} {k1 k2 : NK} {xs : List Ent} {Q : VK} (gk : GridK P w K mg base C f gs gc gv fd fv d0) (hg : Gd P w C H g v e xs) (h1 : Pl H x k1) (h2 : Pl H y k2) (q : ∀ H', Same H H' → Q ((at_ xs (.tup [k1, k2])).getD v) H') :
    CLO.CallsTo P w K mg base CX0 12 false g [x, y] H Q E0 := by
  obtain ⟨⟨dx, e1⟩, hd⟩ := hg
  exact (CLO.own_calls gk.oc gk.ca e1 ⟨g, e, k1, k2, x, y, v, xs, rfl, ⟨⟨dx, e1⟩, hd⟩, h1, h2, q⟩).mono (by omega)
def lamA : Expr → Arguments
  | .Lambda a _ _ _ => a
  | _ => defArgs s_law_well
def lamB : Expr → Expr
  | .Lambda _ b _ _ => b
  | e => e
def lamC : Expr → Scope
  | .Lambda _ _ c _ => c
  | _ => defScope s_law_well
def LamN (H : Hp) (f : Addr) (e : Expr) : Prop := ∃ q c', CLO.Clo H f ⟨"<lambda>", q, lamA e, [], lamC e, [], c'⟩ (lamB e) [] []
theorem LamN.mk {H : Hp} {f c' : Addr} {e : Expr} {q : Str} (h1 : H f = some (CLO.LamO f ⟨"<lambda>", q, lamA e, [], lamC e, [], c'⟩ (lamB e))) (h2 : H c' = some (LamX.CodeO c' q)) : LamN H f e :=
  ⟨q, c', ⟨h1, h2, fun p hp => (List.not_mem_nil hp).elim, fun x y c (h : List.lookup x [] = some c) => (by cases h), rfl, fun i y (h : ([] : List Str)[i]? = some y) => (by cases h)⟩⟩
theorem LamN.ext {H H' : Hp} {f : Addr} {e : Expr} (h : LamN H f e) (s : LamX.ExtN H H') : LamN H' f e := let ⟨q, c', C⟩ := h; ⟨q, c', C.ext s⟩
theorem LamN.fnk {H : Hp} {f : Addr} {e : Expr} (h : LamN H f e) : CLO.Fnk H f := let ⟨_, _, C⟩ := h; CLO.lamO_fnk C.fn
def gE : Expr := match (defBody s_law_grids_right).getD 4 (.Pass ⟨0, 0, 0, 0⟩) with
  | .Assign _ (.Tuple (_ :: .Call _ (e :: _) _ _ :: _) _ _) _ => e
  | _ => .Constant .none 0 ⟨0, 0, 0, 0⟩
theorem tg : NdefX.NScope ["_law_one_here"] ["_law_one_here"] [] (lamC gE) := NdefX.nscope_by (by decide +kernel)
theorem one_calls {H : Hp} {f : Addr} {x : Int} {Q : VK} (L : LamN H f gE) (q : Q (.int (x + 1)) H) : CLO.CallsTo P w K mg base CX0 1 true f [.int x] H Q E0 := by
  obtain ⟨q0, c', C⟩ := L
  refine CLO.lam_calls (k := 0) tg C rfl (fun pm ctv us hu => ?_) (fun A outer s hr => ⟨_, (pe_op op_add (pv 0) pe_int), ?_⟩)
  · match us, hu with
    | [u], _ => rfl
  · refine ⟨_, rfl, x, 1, rfl, rfl, fun _ => ?_⟩
    rw [CLO.hide_nil, CLO.back_nil]
    exact q
theorem Gd.lst {C g e a : Addr} {H : Hp} {v : V} {xs : List Ent} {ys zs : List V} (h : Gd P w C H g v e xs) (ha : H a = some (.lst ys)) : Gd P w C (upd H a (.lst zs)) g v e xs := by
  obtain ⟨⟨dx, h1⟩, h2⟩ := h
  refine ⟨⟨dx, (upd_ne (fun z => by rw [z, ha] at h1; cases h1)).trans h1⟩, h2.mono ((upd_ne (fun z => ?_)).trans h2.1) fun b xs hb => (upd_ne (fun z => by rw [z, ha] at hb; cases hb)).trans hb⟩
  have := h2.1
  rw [z, ha] at this
  unfold dn at this
  cases this
/-- one place is stored -/
theorem Gd.one {C g e : Addr} {H : Hp} {v u : V} {k : NK} {p : Addr} (h : Gd P w C H g v e []) (hp : Plc H p k) : Gd P w C (upd H e (dn P w e [(k, p, u)])) g v e [(k, p, u)] := by
  obtain ⟨⟨dx, h1⟩, h2⟩ := h
  refine ⟨⟨dx, (upd_ne (fun z => ins_dn h1 (z ▸ h2.1))).trans h1⟩, upd_same, fun x hx => ?_⟩
  rw [List.mem_singleton.mp hx]
  refine ⟨hp.key.1.same fun b xs hb => (upd_ne (fun z => ?_)).trans hb, hp.key.2⟩
  have := h2.1
  rw [← z, hb] at this
  unfold dn at this
  cases this
theorem Gd.off {C g e g' e' : Addr} {H : Hp} {v v' : V} {xs ys zs : List Ent} (h : Gd P w C H g v e xs) (h' : Gd P w C H g' v' e' ys) (n : e ≠ e') : Gd P w C (upd H e' (dn P w e' zs)) g v e xs := by
  obtain ⟨⟨dx, h1⟩, h2⟩ := h
  refine ⟨⟨dx, (upd_ne (fun z => ins_dn h1 (z ▸ h'.2.1))).trans h1⟩, h2.mono ((upd_ne n).trans h2.1) fun b xs hb => (upd_ne (fun z => ?_)).trans hb⟩
  have := h'.2.1
  rw [← z, hb] at this
  unfold dn at this
  cases this
theorem tabs_ins {T : List (Addr × Str)} {g C dx : Addr} {fs : List (Str × V)} {H H' : Hp} (t : LamX.Tabs T H) (hg : H g = some (.ins C dx fs)) (k : ∀ b o, b ≠ g → H b = some o → H' b = some o) : LamX.Tabs T H' := fun p hp => by
  obtain ⟨ps, h1, h2, h3⟩ := t p hp
  refine ⟨ps, k _ _ (fun z => by
    rw [z, hg] at h1
    cases h1) h1, h2, fun pos cv hc => ?_⟩
  obtain ⟨c, e, h4⟩ := h3 pos cv hc
  refine ⟨c, e, k _ _ (fun z => ?_) h4⟩
  rw [z, hg] at h4
  unfold LamX.CodeO at h4
  cases h4
theorem sh_ab {a b : Int} (a0 : 0 ≤ a) (a1 : a < 9) (b0 : 0 ≤ b) (b1 : b < 9) : Sh (.tup [.num a, .num (10 + b)]) := by
  have all : ∀ i j : Fin 9, (dat (.tup [.num (i.val : Int), .num (10 + (j.val : Int))])).showable = true ∧ (NestedKey.tup [.num (i.val : Int), .num (10 + (j.val : Int))]).depth ≤ 60 ∧ (txt (.tup [.num (i.val : Int), .num (10 + (j.val : Int))])).length ≤ 1000 := by decide +kernel
  obtain ⟨i, rfl⟩ := Int.eq_ofNat_of_zero_le a0
  obtain ⟨j, rfl⟩ := Int.eq_ofNat_of_zero_le b0
  obtain ⟨h1, h2, h3⟩ := all ⟨i, by omega⟩ ⟨j, by omega⟩
  exact ⟨h1, h2, Nat.le_of_lt (small1000 h3)⟩
/-- what an instance's change leaves -/
theorem ins_st {H : Hp} {a C dx : Addr} {fs gs : List (Str × V)} (ha : H a = some (.ins C dx fs)) {b : Addr} {o : HO} (n : ∀ C dx fs, o ≠ .ins C dx fs) (q : H b = some o) : (upd H a (.ins C dx gs)) b = some o := by
  have ne : b ≠ a := fun z => by
    rw [z, ha] at q
    exact n _ _ _ (Option.some.inj q).symm
  exact (upd_ne ne).trans q
theorem LamN.put {H : Hp} {f a C dx : Addr} {e : Expr} {fs gs : List (Str × V)} (h : LamN H f e) (ha : H a = some (.ins C dx fs)) : LamN (upd H a (.ins C dx gs)) f e := by
  obtain ⟨q0, c', D⟩ := h
  exact LamN.mk (ins_st ha (fun _ _ _ z => by unfold CLO.LamO at z; cases z) D.fn) (ins_st ha (fun _ _ _ z => by unfold LamX.CodeO at z; cases z) D.co)
theorem Gd.ins {C g e a C' dx' : Addr} {H : Hp} {v f : V} {ar n m : Int} {xs : List Ent} (h : Gd P w C H g v e xs) (ha : H a = some (.ins C' dx' (cnt f ar n))) : Gd P w C (upd H a (.ins C' dx' (cnt f ar m))) g v e xs := by
  obtain ⟨⟨dx, h1⟩, h2⟩ := h
  refine ⟨⟨dx, (upd_ne (fun z => ?_)).trans h1⟩, h2.mono (ins_st ha (fun _ _ _ z => by unfold dn at z; cases z) h2.1) fun b xs hb => ins_st ha (fun _ _ _ z => by cases z) hb⟩
  rw [z, ha] at h1
  unfold cnt at h1
  cases h1
structure GA where
  (p g1 x1 g2 x2 g3 x3 n1 d1 n2 d2 fl kd dk pt pf : Addr) (a b y c : Int)
abbrev GA.k (A : GA) : NK := .tup [.num A.a, .num (10 + A.b)]
structure GSt (P : Program) (w : World) (K : PySem.W.Frag) (CG CN CK : Addr) (A : GA) (ys : List Ent) (m1 m2 : Int) (H Hi : Hp) : Prop where
  kn : SL.KpN A.p H Hi
  hp : Hi A.p = some (.lst [.int A.y, .int A.c])
  tb : LamX.Tabs (TT K) Hi
  gA : Gd P w CG Hi A.g1 .non A.x1 [(A.k, A.pt, .str "joined")]
  gB : Gd P w CG Hi A.g2 (.bl false) A.x2 [(A.k, A.pf, .bl true)]
  gC : Gd P w CG Hi A.g3 (.bl true) A.x3 ys
  c1 : Hi A.n1 = some (.ins CN A.d1 (cnt (.ref A.g2) 2 m1))
  c2 : Hi A.n2 = some (.ins CN A.d2 (cnt (.ref A.fl) 1 m2))
  L : LamN Hi A.fl gE
  kd : Hi A.kd = some (.ins CK A.dk (fs8 (.ref A.n2) (.ref A.g1) (.ref A.n1) (.ref A.g3) .non .non .non .non))
  ne : A.n1 ≠ A.n2
  h1 : ∀ o, (∀ ps, o ≠ .tbl ps) → H A.n1 ≠ some o
  h2 : ∀ o, (∀ ps, o ≠ .tbl ps) → H A.n2 ≠ some o
section
variable {CG CN CK : Addr} {A : GA} {ys : List Ent} {m1 m2 : Int} {H Hi Hj : Hp}
theorem GSt.same (S : GSt P w K CG CN CK A ys m1 m2 H Hi) (s : Same Hi Hj) : GSt P w K CG CN CK A ys m1 m2 H Hj :=
  ⟨S.kn.trans (SL.KpN.ext (SL.ExtN.of_same s)), s _ _ S.hp, SL.Tabs.same S.tb s, S.gA.same s, S.gB.same s, S.gC.same s, s _ _ S.c1, s _ _ S.c2, S.L.ext (SL.ExtN.of_same s), s _ _ S.kd, S.ne, S.h1, S.h2⟩
theorem GSt.up1 (S : GSt P w K CG CN CK A ys m1 m2 H Hi) : GSt P w K CG CN CK A ys (m1 + 1) m2 H (made1 CN A.d1 (.ref A.g2) 2 m1 A.n1 Hi) := by
  refine ⟨fun d o nd nt e => (upd_ne (fun z => S.h1 o nt (by rw [← z]; exact e))).trans (S.kn d o nd nt e), ins_st S.c1 (fun _ _ _ z => by cases z) S.hp, tabs_ins S.tb S.c1 (fun d o nd e => (upd_ne nd).trans e), Gd.ins S.gA S.c1, Gd.ins S.gB S.c1, Gd.ins S.gC S.c1, upd_same, (upd_ne (Ne.symm S.ne)).trans S.c2, S.L.put S.c1, (upd_ne (fun z => ?_)).trans S.kd, S.ne, S.h1, S.h2⟩
  have e := S.kd
  rw [z, S.c1] at e
  exact absurd (show (3 : Nat) = 8 from congrArg (fun o => match o with | some (HO.ins _ _ fs) => fs.length | _ => 0) e) (by decide)
theorem GSt.up2 (S : GSt P w K CG CN CK A ys m1 m2 H Hi) : GSt P w K CG CN CK A ys m1 (m2 + 1) H (made1 CN A.d2 (.ref A.fl) 1 m2 A.n2 Hi) := by
  refine ⟨fun d o nd nt e => (upd_ne (fun z => S.h2 o nt (by rw [← z]; exact e))).trans (S.kn d o nd nt e), ins_st S.c2 (fun _ _ _ z => by cases z) S.hp, tabs_ins S.tb S.c2 (fun d o nd e => (upd_ne nd).trans e), Gd.ins S.gA S.c2, Gd.ins S.gB S.c2, Gd.ins S.gC S.c2, (upd_ne S.ne).trans S.c1, upd_same, S.L.put S.c2, (upd_ne (fun z => ?_)).trans S.kd, S.ne, S.h1, S.h2⟩
  have e := S.kd
  rw [z, S.c2] at e
  exact absurd (show (3 : Nat) = 8 from congrArg (fun o => match o with | some (HO.ins _ _ fs) => fs.length | _ => 0) e) (by decide)
end
theorem abs_hp {Q : VK} {v : V} {U0 : Hp} (R : Hp → Prop) (h0 : R U0) (key : ∀ U, R U → Q v U) : Q v U0 := key _ h0
theorem at_one {k j : NK} {p : Addr} {v : V} : at_ [(k, p, v)] j = if k = j then some v else none := by
  unfold at_
  by_cases z : k = j
  · simp [z]
  · simp [z]
theorem at_inv {k j : NK} {p : Addr} {v : V} : at_ (mkE (!(!false)) (sortE (List.map ek [(k, p, v)]))) j = if j = k then some (.bl false) else none := by
  rw [at_mkE]
  have : (j ∈ (sortE (List.map ek [(k, p, v)])).map (·.1)) ↔ j = k := by
    constructor
    · intro h
      obtain ⟨b, hb, rfl⟩ := List.mem_map.mp h
      have := mem_sortE.mp hb
      rw [List.mem_singleton.mp this]
      rfl
    · rintro rfl
      exact List.mem_map.mpr ⟨ek (j, p, v), mem_sortE.mpr (List.mem_singleton.mpr rfl), rfl⟩
  by_cases z : j = k
  · rw [if_pos (this.mpr z), if_pos z]
    rfl
  · rw [if_neg (fun h => z (this.mp h)), if_neg z]
theorem ok_grids {CG CB CK CN CNt fG fN gN gs gc gv fK : Addr} {fdG fdN fv fd fdK : FuncData} {d0 d2 : Value} {k : Nat} {gK : List Value → List Value → List Value} (F : FnP K "_law_grids_right" "_law_grids_right" s_law_grids_right (He.fAd K ("_law_grids_right", none)) fd) (TB : LamX.TabB base mg (He.cT K ("_law_grids_right", none)).1 (He.cT K ("_law_grids_right", none)).2) (ds : Dst K)
    (gk : GridK P w K mg base CG fG gs gc gv fdG fv d0) (nk : CountK P w K mg base CNt CB fN gN fdN d2) (ck : CallsK P w K mg base CK CN fK fdK gK) (pr : ∃ (p_c q_c : Addr) (fd_c : FuncData), PropOf K CNt "calls" p_c q_c ∧ FnOk P w K mg base CX0 1 q_c fd_c ["self"] (spNCalls CNt) ∧ Binds K fd_c ["self"] [])
    (KB : KBn K fdK ["self", "own", "join", "consistent", "matches", "penalty", "sides", "distance", "bound"] 1 ["own", "join", "consistent", "matches"] gK (fun us zs => us ++ zs ++ [.non, .non, .non, .non]))
    (C_draw : Cal P w K mg base CX0 "_law_draw" 1 ["_law_well_here", "_law_many"] spDraw) :
    GD.FnG P w K mg base CX0 (k + 20 + 1) (He.fAd K ("_law_grids_right", none)) fd ["_law_well_here"] (spRight K) := by
  obtain ⟨p_c, q_c, fd_c, pr_calls, G_calls, b_calls⟩ := pr
  obtain ⟨f_law_draw, fd_law_draw, G_law_draw, b_law_draw, m_law_draw, k_law_draw⟩ := C_draw
  obtain ⟨M_G, G_G, m_G, b_G, b_G0, r_G0, nq_C, O_set, G_set, O_call, G_call, O_inv, G_inv, b_inv⟩ := id gk
  obtain ⟨M_N, G_N, m_N, b_N, b_N1, r_N, nc, _⟩ := id nk
  have cl_N := nc.cl
  obtain ⟨M_K, G_K, m_K, kc, D1, D2, D3, D4, D5, D6, D7, D8⟩ := ck
  have cl_K := kc.cl
  obtain ⟨e1, j1, G_Kown, b_Kown, me_Kown⟩ := D1
  obtain ⟨e2, j2, G_Kjoin, b_Kjoin, me_Kjoin⟩ := D2
  obtain ⟨e3, j3, G_Kconsistent, b_Kconsistent, me_Kconsistent⟩ := D3
  obtain ⟨e4, j4, G_Kmatches, b_Kmatches, me_Kmatches⟩ := D4
  refine SY.okCG F sc_law_grids_right (fun vs H Q E h => ?_) (fun A outer s H vs Q E hr gd h => ?_)
  · obtain ⟨p, x, c, rfl, _⟩ := h
    rfl
  · obtain ⟨p, x, c, rfl, hp, hT, q⟩ := h
    refine ⟨_, PSs.nox (pss_cons (ps_par (i := 1) (j := 2) rfl sc_law_grids_right.nd rfl rfl (by decide) rfl rfl (pa_cons (pe_make M_G G_G (hr.mono (by omega)) (by rfl) m_G b_G .nil pass0 (pa_cons pe_non pa_nil)) (pa_cons (pe_make0 M_G G_G (hr.mono (by omega)) (by rfl) m_G b_G0 r_G0 pass0) pa_nil)) (by rfl))
    (pss_cons (ps_par (i := 3) (j := 4) rfl sc_law_grids_right.nd rfl rfl (by decide) rfl rfl (pa_cons (pe_call G_law_draw (hr.mono (by omega)) (by rfl) m_law_draw k_law_draw b_law_draw .nil pass0 (pa_cons (pv 0) (pa_cons pe_int pa_nil))) (pa_cons (pe_op op_add pe_int (pe_call G_law_draw (hr.mono (by omega)) (by rfl) m_law_draw k_law_draw b_law_draw .nil pass0 (pa_cons (pv 0) (pa_cons pe_int pa_nil)))) pa_nil)) (by rfl))
    (pss_cons (ps_asg pe_str (pg_sub (pv 1) (pe_tup (pa_cons (pv 3) (pa_cons (pv 4) pa_nil))) (OP.set_own O_set nq_C G_set (hr.mono (by omega)) pass0)))
    (pss_cons (ps_asg pe_bl (pg_sub (pv 2) (pe_tup (pa_cons (pv 3) (pa_cons (pv 4) pa_nil))) (OP.set_own O_set nq_C G_set (hr.mono (by omega)) pass0)))
    (pss_cons (ps_par (i := 5) (j := 6) rfl sc_law_grids_right.nd rfl rfl (by decide) rfl rfl (pa_cons (pe_make M_N G_N (hr.mono (by omega)) (by rfl) m_N b_N1 r_N passF (pa_cons ((pv 2)) pa_nil)) (pa_cons (pe_make M_N G_N (hr.mono (by omega)) (by rfl) m_N b_N .nil passF (pa_cons (CLO.pe_lamV (T := TT K) TB rfl (List.mem_of_getElem? (i := 3) rfl) (tt_q ds (i := 3) rfl) rfl (NdefX.ndef_free (sc := defScope s_law_grids_right) (fr := []) (by decide +kernel))) (pa_cons (pe_int) pa_nil))) pa_nil)) (by rfl))
    (pss_cons (ps_set (i := 7) sc_law_grids_right.nd rfl (.inl rfl) (pe_makeK0 M_K G_K (hr.mono (by omega)) (by rfl) m_K KB pass0 (pk_cons (pv 6) (pk_cons (pv 1) (pk_cons (pv 5) (pk_cons (pe_un (OP.un_invG O_inv G_inv b_inv (hr.mono (by omega)) gd pass0) (pv 2)) pk_nil))))))
    (pss_cons (ps_set (i := 8) sc_law_grids_right.nd rfl (.inl rfl) (pe_lst (pa_cons (pe_meth (pv 7) cl_K me_Kjoin G_Kjoin (hr.mono (by omega)) b_Kjoin .nil pass0 (pa_cons (pv 3) (pa_cons (pv 4) pa_nil))) (pa_cons (pe_meth (pv 7) cl_K me_Kjoin G_Kjoin (hr.mono (by omega)) b_Kjoin .nil pass0 (pa_cons (pv 4) (pa_cons (pv 3) pa_nil))) (pa_cons (pe_meth (pv 7) cl_K me_Kown G_Kown (hr.mono (by omega)) b_Kown .nil pass0 (pa_cons (pv 3) pa_nil)) (pa_cons (pe_meth (pv 7) cl_K me_Kconsistent G_Kconsistent (hr.mono (by omega)) b_Kconsistent .nil pass0 (pa_cons (pv 3) (pa_cons (pv 4) pa_nil))) (pa_cons (pe_meth (pv 7) cl_K me_Kconsistent G_Kconsistent (hr.mono (by omega)) b_Kconsistent .nil pass0 (pa_cons (pv 4) (pa_cons (pv 4) pa_nil))) pa_nil)))))))
    (pss_cons (ps_set (i := 8) sc_law_grids_right.nd rfl (.inl rfl) (pe_op op_cat (pv 8) (pe_lst (pa_cons (pe_meth (pv 7) cl_K me_Kmatches G_Kmatches (hr.mono (by omega)) b_Kmatches .nil pass0 (pa_cons (pv 3) (pa_cons (pv 4) pa_nil))) (pa_cons (pe_meth (pv 7) cl_K me_Kmatches G_Kmatches (hr.mono (by omega)) b_Kmatches .nil pass0 (pa_cons (pv 4) (pa_cons (pv 3) pa_nil))) (pa_cons (pe_prop (pv 5) cl_N pr_calls G_calls (hr.mono (by omega)) b_calls .nil pass0 rfl) (pa_cons (pe_prop (pv 6) cl_N pr_calls G_calls (hr.mono (by omega)) b_calls .nil pass0 rfl) pa_nil)))))))
    (pss_one (ps_ret (pe_cmpR (DN.op_eqD hr.units) (pv 8) (pe_lst (pa_cons pe_str (pa_cons pe_non (pa_cons (pe_op op_add (pv 3) pe_int) (pa_cons pe_bl (pa_cons pe_bl (pa_cons pe_bl (pa_cons pe_bl (pa_cons pe_int (pa_cons pe_int pa_nil)))))))))) (nomark _)))))))))))), ?_⟩
    refine fun g1 d1 n1 nd1 _ => init_new (fl := false) (d := dat .none) n1 nd1 ⟨.none, .non, rfl⟩ fun H1 x1 s1 nx1 gd1 => ?_
    refine fun g2 d2' n2 nd2 _ => init_new (fl := true) (d := .bool false) n2 nd2 ⟨false, rfl, rfl⟩ fun H2 x2 s2 nx2 gd2 => ?_
    refine ⟨_, _, rfl, ?_⟩
    have gd1' := gd1.same s2
    have S12 := s1.trans s2
    have hp2 := S12 _ _ hp
    have g12 : g1 ≠ g2 := fun z => by
      obtain ⟨dd, e⟩ := gd1.1
      rw [z, n2] at e
      cases e
    have x12 : x1 ≠ x2 := fun z => by
      have e := gd1.2.1
      rw [z, nx2] at e
      cases e
    refine ⟨_, rfl, p, x, c, 9, rfl, hp2, by decide, .of (k := 10) (by decide) (by decide), fun a y1 c1 a0 a1 => ?_⟩
    refine ⟨_, rfl, p, y1, c1, 9, rfl, upd_same, by decide, .of (k := 10) (by decide) (by decide), fun b y2 c2 b0 b1 => ?_⟩
    rw [upd_upd]
    refine ⟨10, b, rfl, rfl, ?_⟩
    refine ⟨_, _, rfl, ?_⟩
    have gdA := Gd.lst (zs := [.int y2, .int c2]) gd1' hp2
    have gdB := Gd.lst (zs := [.int y2, .int c2]) gd2 hp2
    have hp3 := upd_same (H := H2) (a := p) (o := .lst [.int y2, .int c2])
    have kn3 : Kp p H (upd H2 p (.lst [.int y2, .int c2])) := fun b o nb e => (upd_ne nb).trans (S12 _ _ e)
    generalize upd H2 p (.lst [.int y2, .int c2]) = H3 at gdA gdB hp3 kn3 ⊢
    have hx2 : ∀ o, H x2 ≠ some o := fun o e => by
      have := s1 _ _ e
      rw [nx2] at this
      cases this
    have hx1 : ∀ o, H x1 ≠ some o := fun o e => by
      rw [nx1] at e
      cases e
    clear gd1 gd1' gd2 s1 s2 S12 hp2 nx1 nx2 n1 n2 nd1 nd2
    have nk3 : NestedKey.tup [.num a, .num (10 + b)] ≠ NestedKey.tup [.num (10 + b), .num (10 + b)] := fun z => by
      injection z with z
      injection z with z _
      injection z with z
      omega
    have nk' : NestedKey.tup [.num a, .num (10 + b)] ≠ NestedKey.tup [.num (10 + b), .num a] := fun z => by
      injection z with z
      injection z with z _
      injection z with z
      omega
    -- plain[x, y] = 'joined'
    refine ⟨_, rfl, _, rfl, _, rfl, by show 2 ≤ sizeLine; decide, fun pt npt => ?_⟩
    obtain ⟨s4, pl4⟩ := plc_new npt (Pl.int a) (Pl.int (10 + b))
    generalize upd H3 pt (.tup [.int a, .int (10 + b)]) = H4 at s4 pl4 ⊢
    replace gdA := gdA.same s4
    replace gdB := gdB.same s4
    obtain ⟨dA, iA⟩ := gdA.1
    refine ⟨g1, dA, _, rfl, iA, g1, pt, x1, _, false, .non, .str "joined", _, dat (.text "joined"), [], rfl, gdA, pl4, ⟨.none, .non, rfl⟩, ⟨.text "joined", .str _, rfl⟩, by decide, fun _ => ?_, fun z => ?_, fun z => ?_⟩
    rotate_left
    · cases z
    · cases z
    have gdA2 := Gd.one (u := .str "joined") gdA pl4
    have gdB2 := Gd.off (zs := [(NestedKey.tup [.num a, .num (10 + b)], pt, V.str "joined")]) gdB gdA (Ne.symm x12)
    have px1 : p ≠ x1 := fun z => by
      have := gdA.2.1
      rw [← z, s4 _ _ hp3] at this
      unfold dn at this
      cases this
    have px2 : p ≠ x2 := fun z => by
      have := gdB.2.1
      rw [← z, s4 _ _ hp3] at this
      unfold dn at this
      cases this
    have hp5 : (upd H4 x1 (dn P w x1 [(NestedKey.tup [.num a, .num (10 + b)], pt, V.str "joined")])) p = _ := (upd_ne px1).trans (s4 _ _ hp3)
    have kn5 : Kp p H (upd H4 x1 (dn P w x1 [(NestedKey.tup [.num a, .num (10 + b)], pt, V.str "joined")])) := fun d o nd e => (upd_ne (fun z => hx1 o (by rw [← z]; exact e))).trans (s4 _ _ (kn3 d o nd e))
    rw [show putE [] (NestedKey.tup [.num a, .num (10 + b)]) pt (V.str "joined") = [(NestedKey.tup [.num a, .num (10 + b)], pt, V.str "joined")] from rfl]
    generalize upd H4 x1 (dn P w x1 [(NestedKey.tup [.num a, .num (10 + b)], pt, V.str "joined")]) = H5 at gdA2 gdB2 hp5 kn5 ⊢
    clear gdA gdB iA s4 pl4 npt hp3 kn3
    -- flags[x, y] = True
    refine ⟨_, rfl, _, rfl, _, rfl, by show 2 ≤ sizeLine; decide, fun pf npf => ?_⟩
    obtain ⟨s6, pl6⟩ := plc_new npf (Pl.int a) (Pl.int (10 + b))
    generalize upd H5 pf (.tup [.int a, .int (10 + b)]) = H6 at s6 pl6 ⊢
    replace gdA2 := gdA2.same s6
    replace gdB2 := gdB2.same s6
    obtain ⟨dB, iB⟩ := gdB2.1
    refine ⟨g2, dB, _, rfl, iB, g2, pf, x2, _, true, .bl false, .bl true, .bool false, .bool true, [], rfl, gdB2, pl6, ⟨false, rfl, rfl⟩, ⟨true, rfl, rfl⟩, by decide, fun _ => ?_, fun z => ?_, fun z => ?_⟩
    rotate_left
    · cases z
    · cases z
    have gdA3 := Gd.off (zs := [(NestedKey.tup [.num a, .num (10 + b)], pf, V.bl true)]) gdA2 gdB2 x12
    have gdB3 := Gd.one (u := .bl true) gdB2 pl6
    have plf : Plc (upd H6 x2 (dn P w x2 [(NestedKey.tup [.num a, .num (10 + b)], pf, V.bl true)])) pf _ := pl6.same fun b xs hb => (upd_ne (fun z => by
      have := gdB2.2.1
      rw [← z, hb] at this
      unfold dn at this
      cases this)).trans hb
    have hp7 : (upd H6 x2 (dn P w x2 [(NestedKey.tup [.num a, .num (10 + b)], pf, V.bl true)])) p = _ := (upd_ne px2).trans (s6 _ _ hp5)
    have kn7 : Kp p H (upd H6 x2 (dn P w x2 [(NestedKey.tup [.num a, .num (10 + b)], pf, V.bl true)])) := fun d o nd e => (upd_ne (fun z => hx2 o (by rw [← z]; exact e))).trans (s6 _ _ (kn5 d o nd e))
    rw [show putE [] (NestedKey.tup [.num a, .num (10 + b)]) pf (V.bl true) = [(NestedKey.tup [.num a, .num (10 + b)], pf, V.bl true)] from rfl]
    generalize upd H6 x2 (dn P w x2 [(NestedKey.tup [.num a, .num (10 + b)], pf, V.bl true)]) = H7 at gdA3 gdB3 plf hp7 kn7 ⊢
    clear gdA2 gdB2 iB s6 pl6 npf hp5 kn5
    have t7 := SL.Tabs.kp hT hp kn7
    replace kn7 := SL.KpN.of kn7
    -- Counted(flags), Counted(.., 1)
    refine ⟨_, rfl, fun n1 dn1 nn1 nd1 ne1 => ⟨n1, dn1, .ref g2, .int 2, rfl, upd_same, .inl ⟨2, rfl, by decide, by decide, rfl, ?_⟩⟩⟩
    have s8 := same_made (C := CNt) (o := .ins CNt dn1 (cnt (.ref g2) 2 0)) nn1 nd1
    have c8 := upd_same (H := upd (upd H7 dn1 (.own n1)) n1 (.ins CNt dn1 [])) (a := n1) (o := .ins CNt dn1 (cnt (.ref g2) 2 0))
    generalize upd (upd (upd H7 dn1 (.own n1)) n1 (.ins CNt dn1 [])) n1 (.ins CNt dn1 (cnt (.ref g2) 2 0)) = H8 at s8 c8 ⊢
    refine ⟨SL.Tabs.same t7 s8, fun fl cl H9 e9 _ t9 _ f9 c9 => ?_⟩
    have L9 : LamN H9 fl gE := LamN.mk (q := ("_law_grids_right" ++ ".<locals>.") ++ "<lambda>") (c' := cl) f9 c9
    refine fun n2 dn2 nn2 nd2 ne2 => ⟨n2, dn2, .ref fl, .int 1, rfl, upd_same, .inl ⟨1, rfl, by decide, by decide, rfl, ?_⟩⟩
    have c9 := e9 _ _ c8 (fun _ z => by cases z)
    have s10 := same_made (C := CNt) (o := .ins CNt dn2 (cnt (.ref fl) 1 0)) nn2 nd2
    have c10 := upd_same (H := upd (upd H9 dn2 (.own n2)) n2 (.ins CNt dn2 [])) (a := n2) (o := .ins CNt dn2 (cnt (.ref fl) 1 0))
    have n12 : n1 ≠ n2 := fun z => by rw [z, nn2] at c9; cases c9
    have e710 := (SL.ExtN.of_same s8).trans (e9.trans (SL.ExtN.of_same s10))
    have h1 : ∀ o, (∀ ps, o ≠ .tbl ps) → H n1 ≠ some o := fun o nt e => by
      have np : n1 ≠ p := fun z => by rw [z, hp7] at nn1; cases nn1
      have := kn7 _ _ np nt e
      rw [nn1] at this
      cases this
    have h2 : ∀ o, (∀ ps, o ≠ .tbl ps) → H n2 ≠ some o := fun o nt e => by
      have np : n2 ≠ p := fun z => by
        have := e9 _ _ (s8 _ _ hp7) (fun _ z => by cases z)
        rw [← z, nn2] at this
        cases this
      have := e9 _ _ (s8 _ _ (kn7 _ _ np nt e)) nt
      rw [nn2] at this
      cases this
    have t10 := SL.Tabs.same t9 s10
    have L10 := L9.ext (SL.ExtN.of_same s10)
    have c1' := s10 _ _ c9
    have gdA := Gd.extN gdA3 e710
    have gdB := Gd.extN gdB3 e710
    have pl10 := plf.same (extN_tup e710)
    have hp10 := e710 _ _ hp7 (fun _ z => by cases z)
    have kn10 := kn7.trans (SL.KpN.ext e710)
    generalize upd (upd (upd H9 dn2 (.own n2)) n2 (.ins CNt dn2 [])) n2 (.ins CNt dn2 (cnt (.ref fl) 1 0)) = H10 at c10 t10 L10 c1' gdA gdB pl10 hp10 kn10 ⊢
    clear s10 e710 c9 c8 s8 e9 f9 L9 t9 gdA3 gdB3 plf hp7 kn7 nn1 nd1 ne1 nn2 nd2 ne2 t7
    refine ⟨_, _, rfl, ?_⟩
    -- Calls(own=.., join=.., consistent=.., matches=~flags)
    have og10 : Og P w CG H10 g2 x2 false [(NestedKey.tup [.num a, .num (10 + b)], pf, V.bl true)] := ⟨gdB, by simp [ks], fun z hz => by rw [List.mem_singleton.mp hz]; rfl⟩
    have gk10 : Gk P w CG H10 g2 x2 false [(NestedKey.tup [.num a, .num (10 + b)], pf, V.bl true)] := ⟨og10, fun z hz => by rw [List.mem_singleton.mp hz]; exact ⟨pl10, sh_ab a0 a1 b0 b1⟩, (by show 1 ≤ 40; decide)⟩
    obtain ⟨dG, iG⟩ := gdB.1
    refine ⟨_, rfl, _, rfl, _, rfl, ?_⟩
    refine ⟨_, rfl, g2, dG, _, rfl, iG, g2, x2, false, _, rfl, gk10, t10, fun g3 x3 H11 e11 t11 gC => ?_⟩
    refine ⟨rfl, rfl, fun o dO nO ndO neO => ?_⟩
    refine ⟨o, dO, .ref n2, .ref g1, .ref n1, .ref g3, .non, .non, .non, .non, rfl, upd_same, rfl, ?_⟩
    have s12 := same_made (C := CK) (o := .ins CK dO (fs8 (.ref n2) (.ref g1) (.ref n1) (.ref g3) .non .non .non .non)) nO ndO
    have oS := upd_same (H := upd (upd H11 dO (.own o)) o (.ins CK dO [])) (a := o) (o := .ins CK dO (fs8 (.ref n2) (.ref g1) (.ref n1) (.ref g3) .non .non .non .non))
    generalize upd (upd (upd H11 dO (.own o)) o (.ins CK dO [])) o (.ins CK dO (fs8 (.ref n2) (.ref g1) (.ref n1) (.ref g3) .non .non .non .non)) = H12 at s12 oS ⊢
    have e12 := e11.trans (SL.ExtN.of_same s12)
    generalize hys : mkE (!(!false)) (sortE (List.map ek [(NestedKey.tup [.num a, .num (10 + b)], pf, V.bl true)])) = ys at gC
    have S : GSt P w K CG CNt CK ⟨p, g1, x1, g2, x2, g3, x3, n1, dn1, n2, dn2, fl, o, dO, pt, pf, a, b, y2, c2⟩ ys 0 0 H H12 :=
      ⟨kn10.trans (SL.KpN.ext e12), e12 _ _ hp10 (fun _ z => by cases z), SL.Tabs.same t11 s12, Gd.extN gdA e12, Gd.extN gdB e12, gC.same s12, e12 _ _ c1' (fun _ z => by cases z), e12 _ _ c10 (fun _ z => by cases z), L10.ext e12, oS, n12, h1, h2⟩
    have v1 : ∀ {u d : V} {q : Addr}, (at_ [(NestedKey.tup [.num a, .num (10 + b)], q, u)] (.tup [.num a, .num (10 + b)])).getD d = u := fun {u d q} => by rw [at_one, if_pos rfl]; rfl
    have v2 : ∀ {u d : V} {q : Addr}, (at_ [(NestedKey.tup [.num a, .num (10 + b)], q, u)] (.tup [.num (10 + b), .num a])).getD d = d := fun {u d q} => by rw [at_one, if_neg nk']; rfl
    have v3 : ∀ {u d : V} {q : Addr}, (at_ [(NestedKey.tup [.num a, .num (10 + b)], q, u)] (.tup [.num (10 + b), .num (10 + b)])).getD d = d := fun {u d q} => by rw [at_one, if_neg nk3]; rfl
    have v4 : (at_ ys (.tup [.num a, .num (10 + b)])).getD (.bl true) = .bl false := by rw [← hys, at_inv, if_pos rfl]; rfl
    have v5 : (at_ ys (.tup [.num (10 + b), .num a])).getD (.bl true) = .bl true := by rw [← hys, at_inv, if_neg (Ne.symm nk')]; rfl
    refine ⟨_, rfl, o, dO, _, rfl, S.kd, rfl, _, rfl, _, rfl, o, dO, g1, _, false, .int a, .int (10 + b), rfl, S.kd, rfl, (fun z => by cases z), (grid_calls gk S.gA (Pl.int a) (Pl.int (10 + b)) fun HA sA => ?_).mono (by omega)⟩
    rw [v1]
    replace S := S.same sA
    refine ⟨_, rfl, o, dO, _, rfl, S.kd, rfl, _, rfl, _, rfl, o, dO, g1, _, false, .int (10 + b), .int a, rfl, S.kd, rfl, (fun z => by cases z), (grid_calls gk S.gA (Pl.int (10 + b)) (Pl.int a) fun HB sB => ?_).mono (by omega)⟩
    rw [v2]
    replace S := S.same sB
    refine ⟨_, rfl, o, dO, _, rfl, S.kd, rfl, _, rfl, o, dO, n2, _, false, .int a, rfl, S.kd, rfl, (fun z => by cases z), cnt1_calls nk S.c2 (fun _ => S.up2.L.fnk) ((one_calls S.up2.L ?_).mono (by omega))⟩
    have SC := S.up2
    refine ⟨_, rfl, o, dO, _, rfl, SC.kd, rfl, _, rfl, _, rfl, o, dO, n1, _, false, .int a, .int (10 + b), rfl, SC.kd, rfl, (fun z => by cases z), cnt2_calls nk SC.c1 (fun z => by cases z) (grid_calls gk SC.up1.gB (Pl.int a) (Pl.int (10 + b)) fun HD sD => ?_)⟩
    rw [v1]
    have SD := SC.up1.same sD
    refine ⟨_, rfl, o, dO, _, rfl, SD.kd, rfl, _, rfl, _, rfl, o, dO, n1, _, false, .int (10 + b), .int (10 + b), rfl, SD.kd, rfl, (fun z => by cases z), cnt2_calls nk SD.c1 (fun z => by cases z) (grid_calls gk SD.up1.gB (Pl.int (10 + b)) (Pl.int (10 + b)) fun HE sE => ?_)⟩
    rw [v3]
    have SE := SD.up1.same sE
    refine ⟨by show 5 ≤ sizeLine; decide, fun r nr => ?_⟩
    have SF := SE.same (same_upd (o := .lst [.str "joined", .non, .int (a + 1), .bl true, .bl false]) nr)
    have lF := upd_same (H := HE) (a := r) (o := .lst [.str "joined", .non, .int (a + 1), .bl true, .bl false])
    generalize upd HE r (.lst [.str "joined", .non, .int (a + 1), .bl true, .bl false]) = HF at SF lF ⊢
    clear S SC SD SE sA sB sD sE nr
    refine ⟨_, rfl, _, rfl, o, dO, _, rfl, SF.kd, rfl, _, rfl, _, rfl, o, dO, g3, _, false, .int a, .int (10 + b), rfl, SF.kd, rfl, (fun z => by cases z), (grid_calls gk SF.gC (Pl.int a) (Pl.int (10 + b)) fun HG sG => ?_).mono (by omega)⟩
    rw [v4]
    have SG := SF.same sG
    have lG := sG _ _ lF
    refine ⟨_, rfl, o, dO, _, rfl, SG.kd, rfl, _, rfl, _, rfl, o, dO, g3, _, false, .int (10 + b), .int a, rfl, SG.kd, rfl, (fun z => by cases z), (grid_calls gk SG.gC (Pl.int (10 + b)) (Pl.int a) fun HI sI => ?_).mono (by omega)⟩
    rw [v5]
    have SI := SG.same sI
    have lI := sI _ _ lG
    refine ⟨_, rfl, n1, dn1, _, rfl, SI.c1, n1, dn1, _, 2, _, rfl, SI.c1, ?_⟩
    refine ⟨_, rfl, n2, dn2, _, rfl, SI.c2, n2, dn2, _, 1, _, rfl, SI.c2, ?_⟩
    refine ⟨by show 4 ≤ sizeLine; decide, fun r2 nr2 => ?_⟩
    have l2 := same_upd (o := .lst [.bl false, .bl true, .int (0 + 1 + 1), .int (0 + 1)]) nr2 _ _ lI
    have SJ := SI.same (same_upd (o := .lst [.bl false, .bl true, .int (0 + 1 + 1), .int (0 + 1)]) nr2)
    have m2 := upd_same (H := HI) (a := r2) (o := .lst [.bl false, .bl true, .int (0 + 1 + 1), .int (0 + 1)])
    refine ⟨r, r2, _, _, rfl, rfl, l2, m2, Nat.le_of_lt (small1000 (by show 9 ≤ 1000; decide)), fun r3 nr3 => ?_⟩
    have SK := SJ.same (same_upd (o := .lst ([V.str "joined", .non, .int (a + 1), .bl true, .bl false] ++ [.bl false, .bl true, .int (0 + 1 + 1), .int (0 + 1)])) nr3)
    have m3 := upd_same (H := upd HI r2 (.lst [.bl false, .bl true, .int (0 + 1 + 1), .int (0 + 1)])) (a := r3) (o := .lst ([V.str "joined", .non, .int (a + 1), .bl true, .bl false] ++ [.bl false, .bl true, .int (0 + 1 + 1), .int (0 + 1)]))
    refine ⟨_, rfl, _, rfl, a, 1, rfl, rfl, by show 9 ≤ sizeLine; decide, fun r4 nr4 => ?_⟩
    have m4 := same_upd (o := .lst [V.str "joined", .non, .int (a + 1), .bl true, .bl false, .bl false, .bl true, .int 2, .int 1]) nr4 _ _ m3
    have SZ := SK.same (same_upd (o := .lst [V.str "joined", .non, .int (a + 1), .bl true, .bl false, .bl false, .bl true, .int 2, .int 1]) nr4)
    refine rEq_same (D := .list [.str "joined", .none, .int (a + 1), .bool true, .bool false, .bool false, .bool true, .int 2, .int 1]) (.lst m4 ?_) (.lst upd_same ?_) (by simp [PyData.canLay0, PyData.canLayAll0]; decide +kernel) (by simp [PyData.depth, PyData.depthAll]) ?_
    · exact .cons (.str _) (.cons .non (.cons (.int _) (.cons (.bl _) (.cons (.bl _) (.cons (.bl _) (.cons (.bl _) (.cons (.int _) (.cons (.int _) .nil))))))))
    · exact .cons (.str _) (.cons .non (.cons (.int _) (.cons (.bl _) (.cons (.bl _) (.cons (.bl _) (.cons (.bl _) (.cons (.int _) (.cons (.int _) .nil))))))))
    · exact q _ y2 c2 SZ.kn SZ.tb SZ.hp
end
end K10
set_option Elab.async false
set_option linter.all false
set_option maxRecDepth 100000
set_option maxHeartbeats 2000000
namespace K10
open PySem PySem.Spec PyProof.Rows L2 CM DN GR SRT RZ
section
variable {P : Program} {w : World} {K : PySem.W.Frag} {mg : Str → Option Value} {base : Heap}
/-! ### what is counted -/
def cE1 : Expr := match (defBody s_law_counted_right).getD 0 (.Pass ⟨0, 0, 0, 0⟩) with
  | .Assign _ (.Tuple (_ :: .Call _ _ (kw :: _) _ :: _) _ _) _ => kw.value
  | _ => .Constant .none 0 ⟨0, 0, 0, 0⟩
def cE2 : Expr := match (defBody s_law_counted_right).getD 1 (.Pass ⟨0, 0, 0, 0⟩) with
  | .Assign _ (.Call _ (e :: _) _ _) _ => e
  | _ => .Constant .none 0 ⟨0, 0, 0, 0⟩
theorem tc1 : NdefX.NScope ["_law_one_here", "_law_two"] ["_law_one_here", "_law_two"] [] (lamC cE1) := NdefX.nscope_by (by decide +kernel)
theorem tc2 : NdefX.NScope ["_law_one_here"] ["_law_one_here"] [] (lamC cE2) := NdefX.nscope_by (by decide +kernel)
theorem pair_calls {H : Hp} {f : Addr} {x y : V} {Q : VK} (L : LamN H f cE1) (q : ∀ t, H t = none → Q (.ref t) (upd H t (.tup [x, y]))) : CLO.CallsTo P w K mg base CX0 1 true f [x, y] H Q E0 := by
  obtain ⟨q0, c', C⟩ := L
  refine CLO.lam_calls (k := 0) tc1 C rfl (fun pm ctv us hu => ?_) (fun A outer s hr => ⟨_, (pe_tup (pa_cons (pv 0) (pa_cons (pv 1) pa_nil))), ?_⟩)
  · match us, hu with
    | [u, v], _ => rfl
  · refine ⟨_, rfl, _, rfl, by show 2 ≤ sizeLine; decide, fun t nt _ => ?_⟩
    rw [CLO.hide_nil] at nt ⊢
    rw [CLO.back_nil]
    exact q t nt
theorem list_calls {H : Hp} {f : Addr} {x : V} {Q : VK} (L : LamN H f cE2) (q : ∀ t, H t = none → Q (.ref t) (upd H t (.lst [x]))) : CLO.CallsTo P w K mg base CX0 1 true f [x] H Q E0 := by
  obtain ⟨q0, c', C⟩ := L
  refine CLO.lam_calls (k := 0) tc2 C rfl (fun pm ctv us hu => ?_) (fun A outer s hr => ⟨_, (pe_lst (pa_cons (pv 0) pa_nil)), ?_⟩)
  · match us, hu with
    | [u], _ => rfl
  · refine ⟨_, rfl, by show 1 ≤ sizeLine; decide, fun t nt _ => ?_⟩
    rw [CLO.hide_nil] at nt ⊢
    rw [CLO.back_nil]
    exact q t nt
structure CA where
  (p n1 d1 n2 d2 f1 f2 : Addr) (y c : Int)
structure CSt (P : Program) (w : World) (K : PySem.W.Frag) (CN : Addr) (A : CA) (m1 m2 : Int) (H Hi : Hp) : Prop where
  kn : SL.KpN A.p H Hi
  hp : Hi A.p = some (.lst [.int A.y, .int A.c])
  tb : LamX.Tabs (TT K) Hi
  c1 : Hi A.n1 = some (.ins CN A.d1 (cnt (.ref A.f1) 2 m1))
  c2 : Hi A.n2 = some (.ins CN A.d2 (cnt (.ref A.f2) 1 m2))
  L1 : LamN Hi A.f1 cE1
  L2 : LamN Hi A.f2 cE2
  ne : A.n1 ≠ A.n2
  h1 : ∀ o, (∀ ps, o ≠ .tbl ps) → H A.n1 ≠ some o
  h2 : ∀ o, (∀ ps, o ≠ .tbl ps) → H A.n2 ≠ some o
section
variable {CN : Addr} {A : CA} {m1 m2 n : Int} {H Hi Hj : Hp}
theorem CSt.ext (S : CSt P w K CN A m1 m2 H Hi) (s : LamX.ExtN Hi Hj) (t : LamX.Tabs (TT K) Hj) : CSt P w K CN A m1 m2 H Hj :=
  ⟨S.kn.trans (SL.KpN.ext s), s _ _ S.hp (fun _ z => by cases z), t, s _ _ S.c1 (fun _ z => by cases z), s _ _ S.c2 (fun _ z => by cases z), S.L1.ext s, S.L2.ext s, S.ne, S.h1, S.h2⟩
theorem CSt.same (S : CSt P w K CN A m1 m2 H Hi) (s : Same Hi Hj) : CSt P w K CN A m1 m2 H Hj := S.ext (SL.ExtN.of_same s) (SL.Tabs.same S.tb s)
theorem CSt.set1 (S : CSt P w K CN A m1 m2 H Hi) : CSt P w K CN A n m2 H (upd Hi A.n1 (.ins CN A.d1 (cnt (.ref A.f1) 2 n))) :=
  ⟨fun d o nd nt e => (upd_ne (fun z => S.h1 o nt (by rw [← z]; exact e))).trans (S.kn d o nd nt e), ins_st S.c1 (fun _ _ _ z => by cases z) S.hp, tabs_ins S.tb S.c1 (fun d o nd e => (upd_ne nd).trans e), upd_same, (upd_ne (Ne.symm S.ne)).trans S.c2, S.L1.put S.c1, S.L2.put S.c1, S.ne, S.h1, S.h2⟩
theorem CSt.set2 (S : CSt P w K CN A m1 m2 H Hi) : CSt P w K CN A m1 n H (upd Hi A.n2 (.ins CN A.d2 (cnt (.ref A.f2) 1 n))) :=
  ⟨fun d o nd nt e => (upd_ne (fun z => S.h2 o nt (by rw [← z]; exact e))).trans (S.kn d o nd nt e), ins_st S.c2 (fun _ _ _ z => by cases z) S.hp, tabs_ins S.tb S.c2 (fun d o nd e => (upd_ne nd).trans e), (upd_ne S.ne).trans S.c1, upd_same, S.L1.put S.c2, S.L2.put S.c2, S.ne, S.h1, S.h2⟩
end
/-- the law's own context here -/
abbrev XC (P : Program) (w : World) (K : PySem.W.Frag) (mg : Str → Option Value) (base : Heap) (A : Around) (outer : List Env) (s : Shared) (H : Hp) (E : XK) : Cx :=
  (cxOf CX0 P w K mg base n_law_counted_right "_law_counted_right" (defScope s_law_counted_right) (He.fAd K ("_law_counted_right", none)) (.ref (He.codeOf K ("_law_counted_right", none))) A outer s H E).nox
abbrev ApC (K : PySem.W.Frag) (A : Around) (s : Shared) : Around := A.deeper (envOfC "_law_counted_right" (defScope s_law_counted_right) s.heap.objs.size (He.fAd K ("_law_counted_right", none)) (.ref (He.codeOf K ("_law_counted_right", none))))
abbrev σC (A : CA) (m : Nat) (v4 : Option V) : L2.St := [some (.ref A.p), some (.int (m : Int)), some (.ref A.n1), some (.ref A.n2), v4, none, none, none, none, none]
theorem cr_0 {CB CN fN gN : Addr} {fdN : FuncData} {d2 : Value} {k : Nat} {A : Around} {outer : List Env} {s : Shared} {H0 : Hp} {E : XK} {gg : List Value → List Value → List Value} {t4 : TS} (hr : Room (k + 20) (ApC K A s)) (TB : LamX.TabB base mg (He.cT K ("_law_counted_right", none)).1 (He.cT K ("_law_counted_right", none)).2) (ds : Dst K) (m_range : mg "range" = none)
    (nk : CountK P w K mg base CN CB fN gN fdN d2) (kb_N : KBn K fdN ["self", "function", "arguments"] 1 ["function", "arguments"] gg (fun us zs => us ++ zs)) (C_draw : Cal P w K mg base CX0 "_law_draw" 1 ["_law_well_here", "_law_many"] spDraw)
    (ht4 : PSs (XC P w K mg base A outer s H0 E) ((defBody s_law_counted_right).drop 3) t4) :
    ∃ t, PSs (XC P w K mg base A outer s H0 E) (defBody s_law_counted_right) t ∧ ∀ (p : Addr) (x c : Int) (H : Hp) (Q : VK), H p = some (.lst [.int x, .int c]) → LamX.Tabs (TT K) H →
      (∀ (a : CA) (m : Nat) (v4 : Option V) (Hi : Hp), a.p = p → m ≤ 20 → CSt P w K CN a m m H Hi → t4 { nx := fun _ H' => Q .non H', rt := Q } (σC a m v4) Hi) → t { nx := fun _ H' => Q .non H', rt := Q } (L2.start n_law_counted_right [.ref p]) H := by
  obtain ⟨f_law_draw, fd_law_draw, G_law_draw, b_law_draw, m_law_draw, k_law_draw⟩ := C_draw
  obtain ⟨M_N, G_N, m_N, b_N, b_N1, r_N, nc, _⟩ := id nk
  refine ⟨_, pss_cons (ps_par (i := 1) (j := 2) rfl sc_law_counted_right.nd rfl rfl (by decide) rfl rfl (pa_cons (pe_call G_law_draw (hr.mono (by omega)) (by rfl) m_law_draw k_law_draw b_law_draw .nil pass0 (pa_cons (pv 0) (pa_cons pe_int pa_nil))) (pa_cons (pe_makeK0 M_N G_N (hr.mono (by omega)) (by rfl) m_N kb_N passF (pk_cons (CLO.pe_lamV (T := TT K) TB rfl (List.mem_of_getElem? (i := 4) rfl) (tt_q ds (i := 4) rfl) rfl (NdefX.ndef_free (sc := defScope s_law_counted_right) (fr := []) (by decide +kernel))) (pk_cons pe_int pk_nil))) pa_nil)) (by rfl))
    (pss_cons (ps_set (i := 3) sc_law_counted_right.nd rfl (.inl rfl) (pe_make M_N G_N (hr.mono (by omega)) (by rfl) m_N b_N .nil passF (pa_cons (CLO.pe_lamV (T := TT K) TB rfl (List.mem_of_getElem? (i := 4) rfl) (tt_q ds (i := 4) rfl) rfl (NdefX.ndef_free (sc := defScope s_law_counted_right) (fr := []) (by decide +kernel))) (pa_cons (pe_int) pa_nil))))
    (pss_cons (ps_for PassesOwn.never rfl (pi_range1 (by rfl) m_range (pa_cons (pv 1) pa_nil)) (pg_name (i := 4) sc_law_counted_right.nd rfl (.inl rfl))
      (pss_one (ps_if (PW.pt (pw_or (pt_cmpR (DN.op_neD hr.units) (CLO.pe_vcall (P := P) (w := w) (K := K) (mg := mg) (base := base) (CX := CX0) (n := 14) (pv 2) (hr.mono (by omega)) pass0 (pa_cons (pv 4) (pa_cons pe_non pa_nil))) (pe_tup (pa_cons (pv 4) (pa_cons pe_non pa_nil))) (nomark _)) (pw_or1 (pt_cmpR (DN.op_neD hr.units) (CLO.pe_vcall (P := P) (w := w) (K := K) (mg := mg) (base := base) (CX := CX0) (n := 14) (pv 3) (hr.mono (by omega)) pass0 (pa_cons (pv 4) pa_nil)) (pe_lst (pa_cons (pv 4) pa_nil)) (nomark _))))) (pss_one (ps_ret pe_bl)) (pss_nil))))
    (ht4))), fun p x c H Q hp hT q => ?_⟩
  refine ⟨_, rfl, p, x, c, 20, rfl, hp, by decide, .of (k := 10) (by decide) (by decide), fun m x1 c1 m0 m1 => ?_⟩
  obtain ⟨m, rfl⟩ := Int.eq_ofNat_of_zero_le m0
  have hp1 := upd_same (H := H) (a := p) (o := .lst [.int x1, .int c1])
  have kn1 : SL.KpN p H (upd H p (.lst [.int x1, .int c1])) := SL.KpN.of Kp.set
  have t1 := SL.Tabs.kp hT hp (Kp.set (o := .lst [.int x1, .int c1]))
  generalize upd H p (.lst [.int x1, .int c1]) = H1 at hp1 kn1 t1 ⊢
  refine ⟨t1, fun f1 k1 H2 e2 _ t2 _ l2 c2 => ?_⟩
  have L2 : LamN H2 f1 cE1 := LamN.mk (q := ("_law_counted_right" ++ ".<locals>.") ++ "<lambda>") (c' := k1) l2 c2
  refine ⟨rfl, rfl, fun n1 d1 nn1 nd1 ne1 => ⟨n1, d1, .ref f1, .int 2, rfl, upd_same, .inl ⟨2, rfl, by decide, by decide, rfl, ?_⟩⟩⟩
  have s3 := same_made (C := CN) (o := .ins CN d1 (cnt (.ref f1) 2 0)) nn1 nd1
  have c3 := upd_same (H := upd (upd H2 d1 (.own n1)) n1 (.ins CN d1 [])) (a := n1) (o := .ins CN d1 (cnt (.ref f1) 2 0))
  generalize upd (upd (upd H2 d1 (.own n1)) n1 (.ins CN d1 [])) n1 (.ins CN d1 (cnt (.ref f1) 2 0)) = H3 at s3 c3 ⊢
  refine ⟨_, _, rfl, ?_⟩
  have t3 := SL.Tabs.same t2 s3
  refine ⟨t3, fun f2 k2 H4 e4 _ t4 _ l4 c4 => ?_⟩
  have L4 : LamN H4 f2 cE2 := LamN.mk (q := ("_law_counted_right" ++ ".<locals>.") ++ "<lambda>") (c' := k2) l4 c4
  refine fun n2 d2 nn2 nd2 ne2 => ⟨n2, d2, .ref f2, .int 1, rfl, upd_same, .inl ⟨1, rfl, by decide, by decide, rfl, ?_⟩⟩
  have s5 := same_made (C := CN) (o := .ins CN d2 (cnt (.ref f2) 1 0)) nn2 nd2
  have c5 := upd_same (H := upd (upd H4 d2 (.own n2)) n2 (.ins CN d2 [])) (a := n2) (o := .ins CN d2 (cnt (.ref f2) 1 0))
  have e35 := e4.trans (SL.ExtN.of_same s5)
  have e15 := e2.trans ((SL.ExtN.of_same s3).trans e35)
  have n12 : n1 ≠ n2 := fun z => by
    have := e4 _ _ c3 (fun _ z => by cases z)
    rw [z, nn2] at this
    cases this
  have h1 : ∀ o, (∀ ps, o ≠ .tbl ps) → H n1 ≠ some o := fun o nt e => by
    have np : n1 ≠ p := fun z => by
      have := e2 _ _ hp1 (fun _ z => by cases z)
      rw [← z, nn1] at this
      cases this
    have := e2 _ _ (kn1 _ _ np nt e) nt
    rw [nn1] at this
    cases this
  have h2 : ∀ o, (∀ ps, o ≠ .tbl ps) → H n2 ≠ some o := fun o nt e => by
    have np : n2 ≠ p := fun z => by
      have := e4 _ _ (s3 _ _ (e2 _ _ hp1 (fun _ z => by cases z))) (fun _ z => by cases z)
      rw [← z, nn2] at this
      cases this
    have := e4 _ _ (s3 _ _ (e2 _ _ (kn1 _ _ np nt e) nt)) nt
    rw [nn2] at this
    cases this
  have S : CSt P w K CN ⟨p, n1, d1, n2, d2, f1, f2, x1, c1⟩ (0 : Nat) (0 : Nat) H (upd (upd (upd H4 d2 (.own n2)) n2 (.ins CN d2 [])) n2 (.ins CN d2 (cnt (.ref f2) 1 0))) :=
    ⟨kn1.trans (SL.KpN.ext e15), e15 _ _ hp1 (fun _ z => by cases z), SL.Tabs.same t4 s5, e35 _ _ c3 (fun _ z => by cases z), c5, L2.ext ((SL.ExtN.of_same s3).trans e35), L4.ext (SL.ExtN.of_same s5), n12, h1, h2⟩
  generalize upd (upd (upd H4 d2 (.own n2)) n2 (.ins CN d2 [])) n2 (.ins CN d2 (cnt (.ref f2) 1 0)) = H5 at S ⊢
  clear e15 e35 s5 c5 s3 c3 t3 t4 e4 e2 l2 c2 l4 c4 L2 L4 h1 h2 hp1 kn1 t1 t2 nn1 nn2 nd1 nd2
  refine ⟨_, rfl, (m : Int), rfl, by omega, by omega, ?_⟩
  rw [Int.toNat_natCast]
  refine for_range (n := m) (fun i σ H' => ∃ v4, σ = σC ⟨p, n1, d1, n2, d2, f1, f2, x1, c1⟩ m v4 ∧ CSt P w K CN ⟨p, n1, d1, n2, d2, f1, f2, x1, c1⟩ i i H H') ⟨_, rfl, S⟩ ?_ ?_
  · rintro i σ H6 hi ⟨v4, rfl, S⟩
    refine ⟨_, rfl, n1, false, rfl, (fun z => by cases z), _, rfl, cnt2_calls nk S.c1 (fun _ => (S.set1 (n := (i : Int) + 1)).L1.fnk) ((pair_calls (S.set1 (n := (i : Int) + 1)).L1 fun t nt => ?_).mono (by omega))⟩
    have S7 := (S.set1 (n := (i : Int) + 1)).same (same_upd (o := .tup [.int (0 + (i : Int)), .non]) nt)
    refine ⟨_, rfl, by show 2 ≤ sizeLine; decide, fun t2 nt2 => ?_⟩
    have z1 := same_upd (o := .tup [.int (0 + (i : Int)), .non]) nt2 _ _ (upd_same (a := t) (o := .tup [.int (0 + (i : Int)), .non]))
    have S8 := S7.same (same_upd (o := .tup [.int (0 + (i : Int)), .non]) nt2)
    refine rNe_same (D := .tuple [.int (0 + (i : Int)), .none]) (.tup z1 (.cons (.int _) (.cons .non .nil))) (.tup upd_same (.cons (.int _) (.cons .non .nil))) (by simp [PyData.canLay0, PyData.canLayAll0]) (by simp [PyData.depth, PyData.depthAll]) ?_
    refine ⟨false, rfl, iteF ?_⟩
    refine ⟨_, rfl, n2, false, rfl, (fun z => by cases z), _, rfl, cnt1_calls nk S8.c2 (fun _ => (S8.set2 (n := (i : Int) + 1)).L2.fnk) ((list_calls (S8.set2 (n := (i : Int) + 1)).L2 fun l nl => ?_).mono (by omega))⟩
    have S9 := (S8.set2 (n := (i : Int) + 1)).same (same_upd (o := .lst [.int (0 + (i : Int))]) nl)
    refine ⟨_, rfl, by show 1 ≤ sizeLine; decide, fun l2 nl2 => ?_⟩
    have z2 := same_upd (o := .lst [.int (0 + (i : Int))]) nl2 _ _ (upd_same (a := l) (o := .lst [.int (0 + (i : Int))]))
    have Sa := S9.same (same_upd (o := .lst [.int (0 + (i : Int))]) nl2)
    refine rNe_same (D := .list [.int (0 + (i : Int))]) (.lst z2 (.cons (.int _) .nil)) (.lst upd_same (.cons (.int _) .nil)) (by simp [PyData.canLay0, PyData.canLayAll0]) (by simp [PyData.depth, PyData.depthAll]) ?_
    refine ⟨false, rfl, iteF ?_⟩
    exact ⟨_, rfl, by rw [Int.natCast_succ]; exact Sa⟩
  · rintro σ H6 ⟨v4, rfl, S⟩
    exact q ⟨p, n1, d1, n2, d2, f1, f2, x1, c1⟩ m v4 H6 rfl (by omega) S
theorem cr_3 {CB CN fN gN f_c p_c q_c : Addr} {fdN fd_cl fd_c : FuncData} {d2 : Value} {k : Nat} {A : Around} {outer : List Env} {s : Shared} {H0 : Hp} {E : XK} {t4 : TS} (hr : Room (k + 20) (ApC K A s))
    (nk : CountK P w K mg base CN CB fN gN fdN d2) (pr_calls : PropOf K CN "calls" p_c q_c) (G_calls : FnOk P w K mg base CX0 1 q_c fd_c ["self"] (spNCalls CN)) (b_calls : Binds K fd_c ["self"] []) (G_clear : FnOk P w K mg base CX0 1 f_c fd_cl ["self"] (spNClear CN)) (b_clear : Binds K fd_cl ["self"] []) (me_clear : Meth K CN "clear" f_c)
    (ht4 : PSs (XC P w K mg base A outer s H0 E) ((defBody s_law_counted_right).drop 4) t4) :
    ∃ t, PSs (XC P w K mg base A outer s H0 E) ((defBody s_law_counted_right).drop 3) t ∧ ∀ (a : CA) (m : Nat) (v4 : Option V) (H Hi : Hp) (Q : VK), CSt P w K CN a m m H Hi →
      (∀ Hj, CSt P w K CN a 0 0 H Hj → t4 { nx := fun _ H' => Q .non H', rt := Q } (σC a m v4) Hj) → t { nx := fun _ H' => Q .non H', rt := Q } (σC a m v4) Hi := by
  obtain ⟨M_N, G_N, m_N, b_N, b_N1, r_N, nc, _⟩ := id nk
  have cl_N := nc.cl
  refine ⟨_, pss_cons (ps_if (pt_cmpR (DN.op_neD hr.units) (pe_lst (pa_cons (pe_prop (pv 2) cl_N pr_calls G_calls (hr.mono (by omega)) b_calls .nil pass0 rfl) (pa_cons (pe_meth0 (pv 2) cl_N me_clear G_clear (hr.mono (by omega)) b_clear .nil pass0) (pa_cons (pe_prop (pv 2) cl_N pr_calls G_calls (hr.mono (by omega)) b_calls .nil pass0 rfl) (pa_cons (pe_meth0 (pv 3) cl_N me_clear G_clear (hr.mono (by omega)) b_clear .nil pass0) (pa_cons (pe_meth0 (pv 3) cl_N me_clear G_clear (hr.mono (by omega)) b_clear .nil pass0) pa_nil)))))) (pe_lst (pa_cons (pv 1) (pa_cons (pv 1) (pa_cons pe_int (pa_cons (pv 1) (pa_cons pe_int pa_nil)))))) (nomark _)) (pss_one (ps_ret pe_bl)) (pss_nil))
    (ht4), fun a m v4 H Hi Q S q => ?_⟩
  refine ⟨_, rfl, a.n1, a.d1, _, rfl, S.c1, a.n1, a.d1, _, 2, _, rfl, S.c1, ?_⟩
  refine ⟨_, rfl, a.n1, a.d1, _, rfl, S.c1, rfl, a.n1, a.d1, _, 2, _, rfl, S.c1, ?_⟩
  have S1 := S.set1 (n := 0)
  refine ⟨_, rfl, a.n1, a.d1, _, rfl, S1.c1, a.n1, a.d1, _, 2, _, rfl, S1.c1, ?_⟩
  refine ⟨_, rfl, a.n2, a.d2, _, rfl, S1.c2, rfl, a.n2, a.d2, _, 1, _, rfl, S1.c2, ?_⟩
  have S2 := S1.set2 (n := 0)
  refine ⟨_, rfl, a.n2, a.d2, _, rfl, S2.c2, rfl, a.n2, a.d2, _, 1, _, rfl, S2.c2, ?_⟩
  have S3 := S2.set2 (n := 0)
  refine ⟨by show 5 ≤ sizeLine; decide, fun r nr => ?_⟩
  have S4 := S3.same (same_upd (o := .lst [.int (m : Int), .int (m : Int), .int 0, .int (m : Int), .int 0]) nr)
  refine ⟨_, rfl, _, rfl, _, rfl, by show 5 ≤ sizeLine; decide, fun r2 nr2 => ?_⟩
  have z1 := same_upd (o := .lst [.int (m : Int), .int (m : Int), .int 0, .int (m : Int), .int 0]) nr2 _ _ (upd_same (a := r) (o := .lst [.int (m : Int), .int (m : Int), .int 0, .int (m : Int), .int 0]))
  have S5 := S4.same (same_upd (o := .lst [.int (m : Int), .int (m : Int), .int 0, .int (m : Int), .int 0]) nr2)
  refine rNe_same (D := .list [.int (m : Int), .int (m : Int), .int 0, .int (m : Int), .int 0]) (.lst z1 ?_) (.lst upd_same ?_) (by simp [PyData.canLay0, PyData.canLayAll0]) (by simp [PyData.depth, PyData.depthAll]) ?_
  · exact .cons (.int _) (.cons (.int _) (.cons (.int _) (.cons (.int _) (.cons (.int _) .nil))))
  · exact .cons (.int _) (.cons (.int _) (.cons (.int _) (.cons (.int _) (.cons (.int _) .nil))))
  refine ⟨false, rfl, iteF ?_⟩
  exact q _ S5
end
end K10
set_option Elab.async false
set_option linter.all false
set_option maxRecDepth 100000
set_option maxHeartbeats 2000000
namespace K10
open PySem PySem.Spec PyProof.Rows L2 CM DN GR SRT RZ
section
variable {P : Program} {w : World} {K : PySem.W.Frag} {mg : Str → Option Value} {base : Heap}
/-! ### what is no number of arguments -/
def OddV (K : PySem.W.Frag) (H : Hp) (v : V) : Prop := BadA K H v ∧ ∃ d : PyData, RZ.Says H v d ∧ d.showable = true ∧ d.depth ≤ 80 ∧ d.shown.length ≤ sizeLine
theorem bad_of {H : Hp} {v : V} {t : String} {bi bb : Bool} (ty : TyX K H v (.type t)) (k1 : L2.kitB t "int" = some bi) (k2 : bi = true → L2.kitB t "bool" = some bb) (h : (bi && !bb) = true → ∃ i : Int, v = .int i ∧ ¬ (1 ≤ i ∧ i ≤ 2)) : BadA K H v :=
  ⟨_, bi, bb, ty, kit_ty k1, fun e => kit_ty (k2 e), h⟩
theorem odd_int {H : Hp} {i : Int} (h : ¬ (1 ≤ i ∧ i ≤ 2)) (hz : (PyData.int i).showable = true) (hl : (PyData.int i).shown.length ≤ sizeLine) : OddV K H (.int i) :=
  ⟨bad_of (.base (.int i)) (bi := true) (bb := false) (by decide +kernel) (fun _ => by decide +kernel) fun _ => ⟨i, rfl, h⟩, _, .inl (.int i), hz, by simp [PyData.depth], hl⟩
theorem odd_all {H : Hp} {p1 p2 p3 : Addr} (h1 : H p1 = some (.tup [.int 1])) (h2 : H p2 = some (.lst [])) (h3 : H p3 = some (.dK [])) :
    ∀ v ∈ [V.int 0, .int 3, .bl true, .non, .str "1", .ref p1, .ref p2, .ref p3, .int (-1), .int (10 ^ 20)], OddV K H v := fun v hv => by
  have nf : ∀ {p : Bool}, (false && p) = true → ∀ {q : Prop}, q := fun h => by cases h
  rcases List.mem_cons.mp hv with rfl | hv
  · exact odd_int (by decide) (by decide +kernel) (by decide +kernel)
  rcases List.mem_cons.mp hv with rfl | hv
  · exact odd_int (by decide) (by decide +kernel) (by decide +kernel)
  rcases List.mem_cons.mp hv with rfl | hv
  · exact ⟨bad_of (.base (.bl true)) (bi := true) (bb := true) (by decide +kernel) (fun _ => by decide +kernel) (fun e => by cases e), _, .inl (.bl true), by decide +kernel, by decide, by decide +kernel⟩
  rcases List.mem_cons.mp hv with rfl | hv
  · exact ⟨bad_of (.base .non) (bi := false) (bb := false) (by decide +kernel) (fun e => by cases e) (fun e => by cases e), _, .inl .non, by decide +kernel, by decide, by decide +kernel⟩
  rcases List.mem_cons.mp hv with rfl | hv
  · exact ⟨bad_of (.base (.str _)) (bi := false) (bb := false) (by decide +kernel) (fun e => by cases e) (fun e => by cases e), _, .inl (.str _), by decide +kernel, by decide, by decide +kernel⟩
  rcases List.mem_cons.mp hv with rfl | hv
  · exact ⟨bad_of (.base (.tup h1)) (bi := false) (bb := false) (by decide +kernel) (fun e => by cases e) (fun e => by cases e), _, .inl (.tup h1 (.cons (.int 1) .nil)), by decide +kernel, by decide, by decide +kernel⟩
  rcases List.mem_cons.mp hv with rfl | hv
  · exact ⟨bad_of (.base (.lst h2)) (bi := false) (bb := false) (by decide +kernel) (fun e => by cases e) (fun e => by cases e), _, .inl (.lst h2 .nil), by decide +kernel, by decide, by decide +kernel⟩
  rcases List.mem_cons.mp hv with rfl | hv
  · exact ⟨bad_of (.base (.dK h3)) (bi := false) (bb := false) (by decide +kernel) (fun e => by cases e) (fun e => by cases e), _, .inr ⟨p3, rfl, h3, rfl⟩, by decide +kernel, by decide, by decide +kernel⟩
  rcases List.mem_cons.mp hv with rfl | hv
  · exact odd_int (by decide) (by decide +kernel) (by decide +kernel)
  rcases List.mem_cons.mp hv with rfl | hv
  · exact odd_int (by decide +kernel) (by decide +kernel) (by decide +kernel)
  · cases hv
theorem cr_7 {CB CN fN gN : Addr} {fdN : FuncData} {d2 : Value} {k : Nat} {A : Around} {outer : List Env} {s : Shared} {H0 : Hp} {E : XK} (hr : Room (k + 20) (ApC K A s)) (gd : (ApC K A s).guards = some []) (TB : LamX.TabB base mg (He.cT K ("_law_counted_right", none)).1 (He.cT K ("_law_counted_right", none)).2) (ds : Dst K)
    (m_repr : mg "repr" = none) (nk : CountK P w K mg base CN CB fN gN fdN d2) (m_BadValue : mg "BadValue" = some (.ref CB)) (XF : XfC K CB) (nV : PySem.W.findIn K (.ref CB) "value" = some none) (te : PySem.W.exmOne K (.ref CB) (.ref CB) = some true) :
    ∃ t, PSs (XC P w K mg base A outer s H0 E) ((defBody s_law_counted_right).drop 7) t ∧ ∀ (p : Addr) (σ : L2.St) (H : Hp) (Q : VK), σ.length = 10 → LamX.Tabs (TT K) H → (∀ Hj, LamX.ExtN H Hj → LamX.Tabs (TT K) Hj → Q (.bl true) Hj) → t { nx := fun _ H' => Q .non H', rt := Q } σ H := by
  obtain ⟨M_N, G_N, m_N, b_N, b_N1, r_N, nc, _⟩ := id nk
  have hu : (ApC K A s).units + 90 < cLine := by
    have := hr.un
    omega
  refine ⟨_, pss_cons (ps_for PassesOwn.never rfl (pi_tup (pe_tup (pa_cons pe_int (pa_cons pe_int (pa_cons pe_bl (pa_cons pe_non (pa_cons pe_str (pa_cons (pe_tup (pa_cons pe_int pa_nil)) (pa_cons (pe_lst (pa_nil)) (pa_cons pe_dnewK (pa_cons (pe_un un_neg pe_int) (pa_cons (pe_op op_pow pe_int pe_int) pa_nil)))))))))))) (pg_name (i := 6) sc_law_counted_right.nd rfl (.inl rfl))
      (pss_cons (ps_set (i := 7) sc_law_counted_right.nd rfl (.inl rfl) pe_str)
      (pss_cons (ps_try_as (i := 8) rfl rfl sc_law_counted_right.nd rfl rfl ⟨rfl, by decide, .inl m_BadValue⟩ LamX.takes0 (fun W pn xe tk _ => pss_one (ps_expr (RZ.pe_makeS M_N G_N (hr.mono (by omega)) (by rfl) m_N b_N (fun σ => passAt tk σ) (pa_cons (CLO.pe_lamV (T := TT K) (mk := CLO.lamF (XC P w K mg base A outer s H0 E) _ _) TB rfl (List.mem_of_getElem? (i := 4) rfl) (tt_q ds (i := 4) rfl) rfl (NdefX.ndef_free (sc := defScope s_law_counted_right) (fr := []) (by decide +kernel))) (pa_cons (pv 6) pa_nil))))) (fun a oe cls d pn hz hf => pss_one (ps_set (i := 7) sc_law_counted_right.nd rfl (.inl rfl) (pe_callB (RZ.call_reprD gd hu) (by rfl) m_repr (by decide +kernel) (pa_cons (pe_xf XF nV hz hf (pv 8)) pa_nil)))))
      (pss_one (ps_if (pt_cmpR op_ne (pv 7) (pe_callB (RZ.call_reprD gd hu) (by rfl) m_repr (by decide +kernel) (pa_cons (pv 6) pa_nil)) (nomark _)) (pss_one (ps_ret pe_bl)) (pss_nil))))))
    (pss_one (ps_ret pe_bl)), fun p σ0 H Q hσ hT q => ?_⟩
  obtain ⟨u0, u1, u2, u3, u4, u5, u6, u7, u8, u9, rfl⟩ : ∃ u0 u1 u2 u3 u4 u5 u6 u7 u8 u9, σ0 = [u0, u1, u2, u3, u4, u5, u6, u7, u8, u9] := by
    match σ0, hσ with
    | [u0, u1, u2, u3, u4, u5, u6, u7, u8, u9], _ => exact ⟨_, _, _, _, _, _, _, _, _, _, rfl⟩
  refine ⟨by show 1 ≤ sizeLine; decide, fun p1 n1 => ⟨by show 0 ≤ sizeLine; decide, fun p2 n2 p3 n3 => ⟨1, rfl, ?_⟩⟩⟩
  refine ⟨10, 20, rfl, rfl, ⟨by decide, by decide, by decide⟩, by show 10 ≤ sizeLine; decide, fun pt nt => ?_⟩
  have s1 := same_upd (o := .tup [V.int 1]) n1
  have s2 := same_upd (o := .lst []) n2
  have s3 := same_upd (o := .dK []) n3
  obtain ⟨xs, hxs⟩ : ∃ xs : List V, xs = [V.int 0, .int 3, .bl true, .non, .str "1", .ref p1, .ref p2, .ref p3, .int (-1), .int (10 ^ Int.toNat 20)] := ⟨_, rfl⟩
  try dsimp only
  rw [← hxs]
  have s4 := same_upd (o := .tup xs) nt
  have h1 := s4 _ _ (s3 _ _ (s2 _ _ (upd_same (H := H) (a := p1) (o := .tup [V.int 1]))))
  have h2 := s4 _ _ (s3 _ _ (upd_same (H := upd H p1 (.tup [V.int 1])) (a := p2) (o := .lst [])))
  have h3 := s4 _ _ (upd_same (H := upd (upd H p1 (.tup [V.int 1])) p2 (.lst [])) (a := p3) (o := .dK []))
  have sA := s1.trans (s2.trans (s3.trans s4))
  have ht : (upd (upd (upd (upd H p1 (.tup [V.int 1])) p2 (.lst [])) p3 (.dK [])) pt (.tup xs)) pt = some (.tup xs) := upd_same
  generalize upd (upd (upd (upd H p1 (.tup [V.int 1])) p2 (.lst [])) p3 (.dK [])) pt (.tup xs) = G at h1 h2 h3 sA ht
  have tG := SL.Tabs.same hT sA
  refine ⟨pt, rfl, ⟨_, .inl (.inl ht)⟩, ?_⟩
  refine for_tup (K := K) (a := pt) (xs := xs) (σ := [u0, u1, u2, u3, u4, u5, u6, u7, u8, u9]) (H := G) (D := { nx := _, rt := Q }) (fun i σ H' => LamX.ExtN G H' ∧ LamX.Tabs (TT K) H' ∧ ∃ v0 v1 v2 v3 v4 v5 v6 v7 v8 v9 : Option V, σ = [v0, v1, v2, v3, v4, v5, v6, v7, v8, v9]) ?_ ?_ ?_ ?_
  · exact ⟨SL.ExtN.of_same (Same.refl _), tG, _, _, _, _, _, _, _, _, _, _, rfl⟩
  · rintro i σ H' _ ⟨sg, _⟩
    exact .inl (.inl (sg _ _ ht (fun _ z => by cases z)))
  · rintro i v σ H' hv ⟨sg, tg, v0, v1, v2, v3, v4, v5, v6, v7, v8, v9, rfl⟩
    have hm : v ∈ [V.int 0, .int 3, .bl true, .non, .str "1", .ref p1, .ref p2, .ref p3, .int (-1), .int (10 ^ 20)] := by
      have z := List.mem_of_getElem? hv
      rw [hxs] at z
      exact z
    have od : ∀ {H'' : Hp}, LamX.ExtN H' H'' → OddV K H'' v := fun {H''} s => odd_all ((sg.trans s) _ _ h1 (fun _ z => by cases z)) ((sg.trans s) _ _ h2 (fun _ z => by cases z)) ((sg.trans s) _ _ h3 (fun _ z => by cases z)) v hm
    refine ⟨tg, fun fl cl H1 e1 _ t1 _ _ _ => ?_⟩
    refine ⟨_, rfl, fun x dx nx ndx ne => ?_⟩
    have sx : Same H1 (upd (upd H1 dx (.own x)) x (.ins CN dx [])) := (made0 nx ndx).1
    have ex := e1.trans (SL.ExtN.of_same sx)
    refine ⟨x, dx, .ref fl, v, rfl, upd_same, .inr ⟨(od ex).1, fun d H2 nd s2 hd => ?_⟩⟩
    have eB := ex.trans (SL.ExtN.of_same s2)
    have tB := SL.Tabs.same t1 (sx.trans s2)
    obtain ⟨_, pd, says, z1, z2, z3⟩ := od eB
    refine ⟨true, te, fun _ a na => ?_, fun e => by cases e⟩
    refine ⟨_, rfl, rfl, rfl, d, _, v, rfl, hd, rfl, v, pd, rfl, says, z1, z2, z3, ?_⟩
    refine ⟨_, rfl, _, rfl, v, pd, rfl, says, z1, z2, z3, rfl, _, rfl, ite2 (fun e => absurd e (by simp)) (fun _ => ⟨sg.trans eB, tB, _, _, _, _, _, _, _, _, _, _, rfl⟩)⟩
  · rintro σ H' ⟨sg, tg, _⟩
    exact q _ ((SL.ExtN.of_same sA).trans sg) tg
end
end K10
set_option Elab.async false
set_option linter.all false
set_option maxRecDepth 100000
set_option maxHeartbeats 2000000
namespace K10
open PySem PySem.Spec PyProof.Rows L2 CM DN GR SRT RZ
section
variable {P : Program} {w : World} {K : PySem.W.Frag} {mg : Str → Option Value} {base : Heap}
/-- a lambda that captures nothing and may raise -/
theorem lam_callsX {CX : CXT} {N ps : List Str} {F : NdefX.NF} {f : Addr} {k : Nat} {b : Expr} {H : Hp} {vs : List V} {Q : VK} {E : XK} (S : NdefX.NScope N ps [] F.scope) (C : CLO.Clo H f F b [] []) (hcl : F.cl = []) (hl : vs.length = ps.length)
    (hb : ∀ (pm ctv : Value) (us : List Value), us.length = ps.length → bindArgs (PySem.W.kla_fn "<lambda>" F.qual F.params b F.scope F.cl pm (.ref F.c) ctv) ⟨us, []⟩ = pure (ps.zip us))
    (hbody : ∀ (A : Around) (outer : List Env) (s : Shared), Room k (A.deeper (NdefX.envF F f s.heap.objs.size)) → ∃ t, PE (NdefX.ncx CX P w K mg base N F f A outer s H E) b t ∧ t (NdefX.startF N vs []) H Q) :
    CLO.CallsTo P w K mg base CX (k + 1) true f vs H Q E := by
  intro A outer s us hr e0 r
  obtain ⟨pm, ctv, ho⟩ := (e0.hok f _ C.fn).1
  refine ⟨⟨_, _, _, _, ho⟩, wpAny_call ?_⟩
  have lim : s.heap.NoLimit := e0.mod.nolimit.keeps fun b o e => (e0.bs b o e).1
  have CA : NdefX.CellsAt F.cl [] [] s.heap H := by
    rw [hcl]
    exact ⟨rfl, (fun y c (e : List.lookup y [] = some c) => nomatch e), (fun x y c (e : List.lookup x [] = some c) => nomatch e), (fun i y (hi : ([] : List Str)[i]? = some y) => nomatch hi)⟩
  refine PySem.W.kla_callFunE hr.depth ho rfl S.co S.gen rfl (NdefX.codeO_at e0.hok C.co) ?_
  rw [hb pm ctv us (by rw [← r.length]; exact hl)]
  refine wpAny_pure (wpAny_newFunctionEnv S.nocell (fun ⟨n, _⟩ hy => S.par n (List.of_mem_zip hy).1) (fun h₁ hns hsb => ⟨lim.fresh _ hsb, ?_⟩) S.kind)
  show codeAny _ _ (.expr b (NdefX.envF F f s.heap.objs.size)) _ _
  have kp : ∀ b o, s.heap.get? b = some o → h₁.get? b = some o := fun b o e => hsb.extBut b o (Nat.ne_of_lt (Heap.lt_size e)) (Heap.get?_push_of_some _ e)
  obtain ⟨t, ht, hq⟩ := hbody A outer s (hr.deeper _)
  have J : Inv (NdefX.ncx CX P w K mg base N F f A outer s H E) [] (NdefX.startF N vs []) H { s with heap := h₁, toks := s.toks + (ps.zip us).length } := NdefX.inv_startN S hr.hd e0 hl r CA hns kp
  refine PySem.W.kla_codeExpr (wpAny_mono (ht.run [] _ _ _ _ J hq) (fun v s' hs => ?_) fun e s' hs => hs)
  obtain ⟨v', H', J', rv, q⟩ := hs
  exact ⟨v', H', J'.os, J'.bare, J'.base, J'.hok, rv, q⟩
def cE3 : Expr := match (defBody s_law_counted_right).getD 4 (.Pass ⟨0, 0, 0, 0⟩) with
  | .Assign _ (.Call _ (e :: _) _ _) _ => e
  | _ => .Constant .none 0 ⟨0, 0, 0, 0⟩
theorem tc3 : NdefX.NScope ["_law_one_here"] ["_law_one_here"] [] (lamC cE3) := NdefX.nscope_by (by decide +kernel)
theorem no_calls {CKd CF CNg : Addr} {H : Hp} {f : Addr} {x : V} {Q : VK} {E : XK} (bk : BareK P w K mg base CKd CF CNg) (L : LamN H f cE3) (q : Ng CNg E H "own") : CLO.CallsTo P w K mg base (L2.CX P w) 12 true f [x] H Q E := by
  obtain ⟨m_B, m_F, M_B, M_F, cl_B, cl_F, C1, _⟩ := bk
  obtain ⟨f1, g1, G_Bown, b_Bown, me_Bown⟩ := C1
  obtain ⟨q0, c', C⟩ := L
  refine lam_callsX (k := 11) tc3 C rfl rfl (fun pm ctv us hu => ?_) (fun A outer s hr => ⟨_, (pe_meth (pe_make00 M_B (by rfl) m_B) cl_B me_Bown G_Bown (hr.mono (by omega)) b_Bown .nil (passes_call (takes_of rfl rfl rfl rfl) (fun _ _ _ _ h => h)) (pa_cons (pv 0) pa_nil)), ?_⟩)
  · match us, hu with
    | [u], _ => rfl
  · refine fun b db nb ndb neb => ?_
    obtain ⟨s1, h1⟩ := made0 (C := CKd) nb ndb
    refine ⟨b, db, [], rfl, h1, rfl, _, rfl, rfl, fun d H' nd s2 hd => ?_⟩
    refine q d H' ?_ (s1.trans s2) hd
    cases z : H d with
    | none => rfl
    | some o =>
      rw [s1 _ _ z] at nd
      cases nd
def cS : Scope := match (defBody s_law_counted_right).getD 5 (.Pass ⟨0, 0, 0, 0⟩) with
  | .Assign _ (.ListComp _ _ c _) _ => c
  | _ => defScope s_law_well
theorem cr_4 {CB CKd CF CN CNg fN gN p_c q_c : Addr} {fdN fd_c : FuncData} {d2 : Value} {k : Nat} {A : Around} {outer : List Env} {s : Shared} {H0 : Hp} {E : XK} {t7 : TS} (hr : Room (k + 20) (ApC K A s)) (TB : LamX.TabB base mg (He.cT K ("_law_counted_right", none)).1 (He.cT K ("_law_counted_right", none)).2) (ds : Dst K) (m_range : mg "range" = none)
    (R : Tells K mg "_law_name_of" "_law_ask" s_law_name_of) (nf : NgF K mg CNg) (bk : BareK P w K mg base CKd CF CNg)
    (nk : CountK P w K mg base CN CB fN gN fdN d2) (pr_calls : PropOf K CN "calls" p_c q_c) (G_calls : FnOk P w K mg base CX0 1 q_c fd_c ["self"] (spNCalls CN)) (b_calls : Binds K fd_c ["self"] [])
    (ht7 : PSs (XC P w K mg base A outer s H0 E) ((defBody s_law_counted_right).drop 7) t7) :
    ∃ t, PSs (XC P w K mg base A outer s H0 E) ((defBody s_law_counted_right).drop 4) t ∧ ∀ (a : CA) (m : Nat) (v4 : Option V) (H Hi : Hp) (Q : VK), CSt P w K CN a 0 0 H Hi →
      (∀ (σ : L2.St) (Hj : Hp), σ.length = 10 → SL.KpN a.p H Hj → Hj a.p = some (.lst [.int a.y, .int a.c]) → LamX.Tabs (TT K) Hj → t7 { nx := fun _ H' => Q .non H', rt := Q } σ Hj) → t { nx := fun _ H' => Q .non H', rt := Q } (σC a m v4) Hi := by
  obtain ⟨M_N, G_N, m_N, b_N, b_N1, r_N, nc, _⟩ := id nk
  have cl_N := nc.cl
  refine ⟨_, pss_cons (ps_set (i := 9) sc_law_counted_right.nd rfl (.inr rfl) (pe_make M_N G_N (hr.mono (by omega)) (by rfl) m_N b_N .nil passF (pa_cons (CLO.pe_lamV (T := TT K) TB rfl (List.mem_of_getElem? (i := 4) rfl) (tt_q ds (i := 4) rfl) rfl (NdefX.ndef_free (sc := defScope s_law_counted_right) (fr := []) (by decide +kernel))) (pa_cons (pe_int) pa_nil))))
    (pss_cons (ps_setLc (i := 5) (own := [("_law_k", 4)]) rfl sc_law_counted_right.nd rfl rfl (sw_true rfl rfl rfl (by decide +kernel)) (pi_range1 (by rfl) m_range (pa_cons pe_int pa_nil)) (blkOk_by (N := n_law_counted_right) (sc := defScope s_law_counted_right) (by decide +kernel)) (fun _ _ _ _ _ => pg_name (i := 4) sc_law_counted_right.nd rfl (.inr rfl)) (fun _ _ _ _ _ => pts_nil) (fun _ _ _ _ _ => (pe_name (k := k + 16) R nf TB rfl (List.mem_of_getElem? (i := 4) rfl) (tt_q ds (i := 4) rfl) (hr.mono (by omega)) (by rfl) (LamX.lamS_by (sc := relS cS (defScope s_law_counted_right)) (by decide +kernel)) rfl (fun _ _ _ _ _ => rfl) (fun A outer s H E f c' hr => CLO.pe_vcall (P := P) (w := w) (K := K) (mg := mg) (base := base) (CX := L2.CX P w) (n := 14) (pv 9) (hr.mono (by omega)) (passes_call (takes_of rfl rfl rfl rfl) (fun _ _ _ _ h => h)) (pa_cons (pv 4) pa_nil)))))
    (pss_cons (ps_if (PW.pt (pw_or (pt_cmpR (DN.op_neD hr.units) (pv 5) (pe_op op_rep (pe_lst (pa_cons pe_str pa_nil)) pe_int) (nomark _)) (pw_or1 (pt_cmpR (DN.op_neD hr.units) (pe_prop (pv 9) cl_N pr_calls G_calls (hr.mono (by omega)) b_calls .nil pass0 rfl) pe_int (nomark _))))) (pss_one (ps_ret pe_bl)) (pss_nil))
    (ht7))), fun a m v4 H Hi Q S q => ?_⟩
  refine ⟨S.tb, fun f1 k1 H2 e2 _ t2 _ l2 c2 => ?_⟩
  have L2 : LamN H2 f1 cE3 := LamN.mk (q := ("_law_counted_right" ++ ".<locals>.") ++ "<lambda>") (c' := k1) l2 c2
  refine fun n1 d1 nn1 nd1 ne1 => ⟨n1, d1, .ref f1, .int 1, rfl, upd_same, .inl ⟨1, rfl, by decide, by decide, rfl, ?_⟩⟩
  have s3 := same_made (C := CN) (o := .ins CN d1 (cnt (.ref f1) 1 0)) nn1 nd1
  have c3 := upd_same (H := upd (upd H2 d1 (.own n1)) n1 (.ins CN d1 [])) (a := n1) (o := .ins CN d1 (cnt (.ref f1) 1 0))
  have t3 := SL.Tabs.same t2 s3
  have kn3 := S.kn.trans (SL.KpN.ext (e2.trans (SL.ExtN.of_same s3)))
  have hp3 := s3 _ _ (e2 _ _ S.hp (fun _ z => by cases z))
  have L3 := L2.ext (SL.ExtN.of_same s3)
  have h1 : ∀ o, (∀ ps, o ≠ .tbl ps) → H n1 ≠ some o := fun o nt e => by
    have np : n1 ≠ a.p := fun z => by
      have := e2 _ _ S.hp (fun _ z => by cases z)
      rw [← z, nn1] at this
      cases this
    have := e2 _ _ (S.kn _ _ np nt e) nt
    rw [nn1] at this
    cases this
  generalize upd (upd (upd H2 d1 (.own n1)) n1 (.ins CN d1 [])) n1 (.ins CN d1 (cnt (.ref f1) 1 0)) = H3 at c3 t3 kn3 hp3 L3 ⊢
  clear s3 L2 t2 e2 l2 c2 nn1 nd1
  refine ⟨3, rfl, by decide, by decide, fun D nD => ?_⟩
  have Dp : D ≠ a.p := fun z => by rw [z, hp3] at nD; cases nD
  have Dn : D ≠ n1 := fun z => by rw [z, c3] at nD; cases nD
  have hD0 : ∀ o, (∀ ps, o ≠ .tbl ps) → H D ≠ some o := fun o nt e => by
    have := kn3 _ _ Dp nt e
    rw [nD] at this
    cases this
  have s0 := same_upd (o := .lst []) nD
  refine lc_range (lo := 0) (n := 3) (fun j H' => H' n1 = some (.ins CN d1 (cnt (.ref f1) 1 (j : Int))) ∧ SL.KpN a.p H H' ∧ H' a.p = some (.lst [.int a.y, .int a.c]) ∧ LamX.Tabs (TT K) H' ∧ LamN H' f1 cE3 ∧ H' D = some (.lst (List.replicate j (V.str "own")))) ?_ ?_ ?_
  · exact ⟨s0 _ _ c3, kn3.trans (SL.KpN.ext (SL.ExtN.of_same s0)), s0 _ _ hp3, SL.Tabs.same t3 s0, L3.ext (SL.ExtN.of_same s0), upd_same⟩
  · rintro j H4 hj ⟨c4, kn4, hp4, t4, L4, hD4⟩
    refine ⟨rfl, t4, fun Ga e5 t5 E5 Q5 hE => ?_⟩
    have c5 := e5 _ _ c4 (fun _ z => by cases z)
    have L5 := (L4.ext e5).put (gs := cnt (.ref f1) 1 ((j : Int) + 1)) c5
    refine ⟨_, rfl, n1, false, rfl, (fun z => by cases z), _, rfl, ?_⟩
    refine (CLO.own_calls nk.co nk.ca1 c5 ⟨rfl, n1, d1, f1, true, 1, j, .int (0 + (j : Int)), .non, rfl, c5, fun _ => L5.fnk, .inl ⟨rfl, no_calls bk L5 fun d H' nd s hd => hE d H' _ hd ?_⟩⟩).mono (by omega)
    have hD6 := s _ _ ((upd_ne Dn).trans (e5 _ _ hD4 (fun _ z => by cases z)))
    have c6 := s _ _ (upd_same (H := Ga) (a := n1) (o := .ins CN d1 (cnt (.ref f1) 1 ((j : Int) + 1))))
    have hp6 := s _ _ (ins_st c5 (fun _ _ _ z => by cases z) (e5 _ _ hp4 (fun _ z => by cases z)))
    have t6 := SL.Tabs.same (tabs_ins t5 c5 (H' := upd Ga n1 (.ins CN d1 (cnt (.ref f1) 1 ((j : Int) + 1)))) (fun d o nd e => (upd_ne nd).trans e)) s
    have kn6 : SL.KpN a.p H H' := fun d o nd nt e => s _ _ ((upd_ne (fun z => h1 o nt (by rw [← z]; exact e))).trans (e5 _ _ (kn4 d o nd nt e) nt))
    have L6 := L5.ext (SL.ExtN.of_same s)
    refine ⟨_, hD6, small1000 (by rw [List.length_replicate]; omega), (upd_ne (Ne.symm Dn)).trans ?_, fun d o nd nt e => (upd_ne (fun z => hD0 o nt (by rw [← z]; exact e))).trans (kn6 d o nd nt e), (upd_ne (Ne.symm Dp)).trans hp6, SL.Tabs.kp t6 hD6 Kp.set, ?_, ?_⟩
    · rw [Int.natCast_succ]
      exact c6
    · obtain ⟨q0, c', Dd⟩ := L6
      exact LamN.mk ((upd_ne (fun z => by have := Dd.fn; rw [z, hD6] at this; unfold CLO.LamO at this; cases this)).trans Dd.fn) ((upd_ne (fun z => by have := Dd.co; rw [z, hD6] at this; unfold LamX.CodeO at this; cases this)).trans Dd.co)
    · rw [upd_same, ← List.replicate_succ']
  · rintro H4 ⟨c4, kn4, hp4, t4, L4, hD4⟩
    refine ⟨_, rfl, by show 1 ≤ sizeLine; decide, fun r nr => ⟨r, 3, [.str "own"], rfl, rfl, upd_same, by decide, by decide, Nat.le_of_lt (small1000 (by decide)), fun r2 nr2 => ?_⟩⟩
    have s5 := (same_upd (o := .lst [.str "own"]) nr).trans (same_upd (o := .lst (List.replicate (Int.toNat 3) [V.str "own"]).flatten) nr2)
    have z1 := s5 _ _ hD4
    have z2 := upd_same (H := upd H4 r (.lst [.str "own"])) (a := r2) (o := .lst (List.replicate (Int.toNat 3) [V.str "own"]).flatten)
    refine rNe_same (D := .list ((["own", "own", "own"] : List Str).map .str)) (shw_strs z1) (shw_strs z2) (by decide +kernel) (by decide +kernel) ?_
    refine ⟨false, rfl, iteF ?_⟩
    have c7 := s5 _ _ c4
    refine ⟨_, rfl, n1, d1, _, rfl, c7, n1, d1, _, 1, _, rfl, c7, ?_⟩
    set_option simprocs false in dsimp only
    unfold tC
    set_option simprocs false in dsimp only
    refine rNe_same (D := .int 3) (.int _) (.int _) rfl (by decide +kernel) ?_
    refine ⟨false, rfl, iteF ?_⟩
    exact q _ _ rfl (kn4.trans (SL.KpN.ext (SL.ExtN.of_same s5))) (s5 _ _ hp4) (SL.Tabs.same t4 s5)
end
end K10
set_option Elab.async false
set_option linter.all false
set_option maxRecDepth 100000
set_option maxHeartbeats 2000000
namespace K10
open PySem PySem.Spec PyProof.Rows L2 CM DN GR SRT RZ
section
variable {P : Program} {w : World} {K : PySem.W.Frag} {mg : Str → Option Value} {base : Heap}
theorem ok_counted {CB CKd CF CN CNg fN gN f_c p_c q_c : Addr} {fd fdN fd_cl fd_c : FuncData} {d2 : Value} {k : Nat} {gg : List Value → List Value → List Value} (F : FnP K "_law_counted_right" "_law_counted_right" s_law_counted_right (He.fAd K ("_law_counted_right", none)) fd) (TB : LamX.TabB base mg (He.cT K ("_law_counted_right", none)).1 (He.cT K ("_law_counted_right", none)).2) (ds : Dst K)
    (m_range : mg "range" = none) (m_repr : mg "repr" = none) (R : Tells K mg "_law_name_of" "_law_ask" s_law_name_of) (nf : NgF K mg CNg) (bk : BareK P w K mg base CKd CF CNg)
    (nk : CountK P w K mg base CN CB fN gN fdN d2) (kb_N : KBn K fdN ["self", "function", "arguments"] 1 ["function", "arguments"] gg (fun us zs => us ++ zs)) (pr_calls : PropOf K CN "calls" p_c q_c) (G_calls : FnOk P w K mg base CX0 1 q_c fd_c ["self"] (spNCalls CN)) (b_calls : Binds K fd_c ["self"] [])
    (G_clear : FnOk P w K mg base CX0 1 f_c fd_cl ["self"] (spNClear CN)) (b_clear : Binds K fd_cl ["self"] []) (me_clear : Meth K CN "clear" f_c)
    (m_BadValue : mg "BadValue" = some (.ref CB)) (XF : XfC K CB) (nV : PySem.W.findIn K (.ref CB) "value" = some none) (te : PySem.W.exmOne K (.ref CB) (.ref CB) = some true)
    (C_draw : Cal P w K mg base CX0 "_law_draw" 1 ["_law_well_here", "_law_many"] spDraw) :
    GD.FnG P w K mg base CX0 (k + 20 + 1) (He.fAd K ("_law_counted_right", none)) fd ["_law_well_here"] (spRight K) := by
  refine SY.okCG F sc_law_counted_right (fun vs H Q E h => ?_) (fun A outer s H vs Q E hr gd h => ?_)
  · obtain ⟨p, x, c, rfl, _⟩ := h
    rfl
  · obtain ⟨p, x, c, rfl, hp, hT, q⟩ := h
    obtain ⟨t7, ht7, q7⟩ := cr_7 (outer := outer) (H0 := H) (E := E) hr gd TB ds m_repr nk m_BadValue XF nV te
    obtain ⟨t4, ht4, q4⟩ := cr_4 hr TB ds m_range R nf bk nk pr_calls G_calls b_calls ht7
    obtain ⟨t3, ht3, q3⟩ := cr_3 hr nk pr_calls G_calls b_calls G_clear b_clear me_clear ht4
    obtain ⟨t0, ht0, q0⟩ := cr_0 hr TB ds m_range nk kb_N C_draw ht3
    refine ⟨t0, PSs.nox ht0, q0 p x c H Q hp hT fun a m v4 Hi ep hm S => q3 a m v4 H Hi Q S fun Hj Sj => q4 a m v4 H Hj Q Sj fun σ Hk l kn hp2 tb => q7 a.p σ Hk Q l tb fun Hl e t => ?_⟩
    rw [ep] at kn hp2
    exact q Hl a.y a.c (kn.trans (SL.KpN.ext e)) t (e _ _ hp2 (fun _ z => by cases z))
end
end K10
set_option Elab.async false
set_option linter.all false
set_option maxRecDepth 100000
set_option maxHeartbeats 2000000
namespace K10
open PySem PySem.Spec PyProof.Rows L2 CM DN GR SRT RZ
section
variable {P : Program} {w : World} {K : PySem.W.Frag} {mg : Str → Option Value} {base : Heap}
/-! ### the lambdas of _law_calls_right that capture nothing -/
def kE (i : Nat) : Expr := match (defBody s_law_calls_right).getD 1 (.Pass ⟨0, 0, 0, 0⟩) with
  | .Assign _ (.Call _ _ kws _) _ => (match kws[i]? with
    | some kw => kw.value
    | none => .Constant .none 0 ⟨0, 0, 0, 0⟩)
  | _ => .Constant .none 0 ⟨0, 0, 0, 0⟩
theorem tk0 : NdefX.NScope ["_law_one_here"] ["_law_one_here"] [] (lamC (kE 0)) := NdefX.nscope_by (by decide +kernel)
theorem tk1 : NdefX.NScope ["_law_one_here", "_law_two"] ["_law_one_here", "_law_two"] [] (lamC (kE 1)) := NdefX.nscope_by (by decide +kernel)
theorem tk4 : NdefX.NScope ["_law_one_here", "_law_two"] ["_law_one_here", "_law_two"] [] (lamC (kE 4)) := NdefX.nscope_by (by decide +kernel)
theorem tk6 : NdefX.NScope ["_law_one_here", "_law_two"] ["_law_one_here", "_law_two"] [] (lamC (kE 6)) := NdefX.nscope_by (by decide +kernel)
theorem tk7 : NdefX.NScope ["_law_one_here", "_law_two"] ["_law_one_here", "_law_two"] [] (lamC (kE 7)) := NdefX.nscope_by (by decide +kernel)
section
variable {H : Hp} {f : Addr} {Q : VK}
theorem kown_calls {x : V} (L : LamN H f (kE 0)) (q : ∀ t, H t = none → Q (.ref t) (upd H t (.tup [x, .str "own"]))) : CLO.CallsTo P w K mg base CX0 1 true f [x] H Q E0 := by
  obtain ⟨q0, c', C⟩ := L
  refine CLO.lam_calls (k := 0) tk0 C rfl (fun pm ctv us hu => ?_) (fun A outer s hr => ⟨_, (pe_tup (pa_cons (pv 0) (pa_cons pe_str pa_nil))), ?_⟩)
  · match us, hu with
    | [u], _ => rfl
  · refine ⟨_, rfl, by show 2 ≤ sizeLine; decide, fun t nt _ => ?_⟩
    rw [CLO.hide_nil] at nt ⊢
    rw [CLO.back_nil]
    exact q t nt
theorem kjoin_calls {x y : V} (L : LamN H f (kE 1)) (q : ∀ t, H t = none → Q (.ref t) (upd H t (.tup [y, x]))) : CLO.CallsTo P w K mg base CX0 1 true f [x, y] H Q E0 := by
  obtain ⟨q0, c', C⟩ := L
  refine CLO.lam_calls (k := 0) tk1 C rfl (fun pm ctv us hu => ?_) (fun A outer s hr => ⟨_, (pe_tup (pa_cons (pv 1) (pa_cons (pv 0) pa_nil))), ?_⟩)
  · match us, hu with
    | [u, v], _ => rfl
  · refine ⟨_, rfl, _, rfl, by show 2 ≤ sizeLine; decide, fun t nt _ => ?_⟩
    rw [CLO.hide_nil] at nt ⊢
    rw [CLO.back_nil]
    exact q t nt
theorem kpen_calls {t : Addr} {a y : Int} {v : V} (L : LamN H f (kE 4)) (ht : H t = some (.tup [.int a, v])) (q : Q (.int (a - y)) H) : CLO.CallsTo P w K mg base CX0 1 true f [.ref t, .int y] H Q E0 := by
  obtain ⟨q0, c', C⟩ := L
  refine CLO.lam_calls (k := 0) tk4 C rfl (fun pm ctv us hu => ?_) (fun A outer s hr => ⟨_, (pe_op op_sub (pe_ix ix_tup (pv 0) pe_int (fun _ _ => rfl)) (pv 1)), ?_⟩)
  · match us, hu with
    | [u, v], _ => rfl
  · rw [CLO.hide_nil]
    refine ⟨_, rfl, t, _, 0, _, rfl, rfl, .inl (.inl ht), rfl, _, rfl, a, y, rfl, rfl, fun _ => ?_⟩
    rw [CLO.back_nil]
    exact q
theorem kdis_calls {x y : Int} (L : LamN H f (kE 6)) (hx : x.natAbs < 2 ^ 60) (q : Q (.int (x * 100 + y)) H) : CLO.CallsTo P w K mg base CX0 1 true f [.int x, .int y] H Q E0 := by
  obtain ⟨q0, c', C⟩ := L
  refine CLO.lam_calls (k := 0) tk6 C rfl (fun pm ctv us hu => ?_) (fun A outer s hr => ⟨_, (pe_op op_add (pe_op op_mul (pv 0) pe_int) (pv 1)), ?_⟩)
  · match us, hu with
    | [u, v], _ => rfl
  · refine ⟨_, rfl, x, 100, rfl, rfl, .inr (by decide), _, rfl, _, y, rfl, rfl, fun _ => ?_⟩
    rw [CLO.hide_nil, CLO.back_nil]
    exact q
theorem kbou_calls {x y : Int} (L : LamN H f (kE 7)) (q : Q (.int (x - y * 100)) H) : CLO.CallsTo P w K mg base CX0 1 true f [.int x, .int y] H Q E0 := by
  obtain ⟨q0, c', C⟩ := L
  refine CLO.lam_calls (k := 0) tk7 C rfl (fun pm ctv us hu => ?_) (fun A outer s hr => ⟨_, (pe_op op_sub (pv 0) (pe_op op_mul (pv 1) pe_int)), ?_⟩)
  · match us, hu with
    | [u, v], _ => rfl
  · refine ⟨_, rfl, _, rfl, y, 100, rfl, rfl, .inr (by decide), x, _, rfl, rfl, fun _ => ?_⟩
    rw [CLO.hide_nil, CLO.back_nil]
    exact q
end
end
end K10
set_option Elab.async false
set_option linter.all false
set_option maxRecDepth 100000
set_option maxHeartbeats 2000000
namespace K10
open PySem PySem.Spec PyProof.Rows L2 CM DN GR SRT RZ
section
variable {P : Program} {w : World} {K : PySem.W.Frag} {mg : Str → Option Value} {base : Heap}
/-! ### .. and those that capture -/
def LamK (H : Hp) (f : Addr) (i : Nat) (fr : List Str) (ws : List V) : Prop := ∃ q cl c', CLO.Clo H f ⟨"<lambda>", q, lamA (kE i), [], lamC (kE i), cl, c'⟩ (lamB (kE i)) fr ws
theorem LamK.fnk {H : Hp} {f : Addr} {i : Nat} {fr : List Str} {ws : List V} (h : LamK H f i fr ws) : CLO.Fnk H f := let ⟨_, _, _, C⟩ := h; CLO.lamO_fnk C.fn
theorem tk2 : NdefX.NScope ["_law_one_here", "_law_two", "_law_a", "_law_b"] ["_law_one_here", "_law_two"] ["_law_a", "_law_b"] (lamC (kE 2)) := NdefX.nscope_by (by decide +kernel)
theorem tk3 : NdefX.NScope ["_law_one_here", "_law_two", "_law_c", "_law_a"] ["_law_one_here", "_law_two"] ["_law_c", "_law_a"] (lamC (kE 3)) := NdefX.nscope_by (by decide +kernel)
/-- seen wherever the tuples stand -/
def ShwT (H : Hp) (v : V) (d : PyData) : Prop := ∀ H' : Hp, (∀ t xs, H t = some (.tup xs) → H' t = some (.tup xs)) → RZ.Shw H' v d
section
variable {H : Hp} {f : Addr} {Q : VK} {x y a b : V} {dx dy da db : PyData}
theorem kmat_calls (L : LamK H f 2 ["_law_a", "_law_b"] [a, b]) (hx : ShwT H x dx) (hy : ShwT H y dy) (ha : ShwT H a da) (hb : ShwT H b db) (d1 : dx.depth ≤ 40) (d2 : dy.depth ≤ 40) (q : Q (.bl (dx.eqv da && dy.eqv db)) H) : CLO.CallsTo P w K mg base CX0 1 true f [x, y] H Q E0 := by
  obtain ⟨q0, cl, c', C⟩ := L
  have kp : ∀ t xs, H t = some (.tup xs) → CLO.hide H cl t = some (.tup xs) := fun t xs e => C.cels.keep e (fun ob z => by unfold CLO.CelO at z; cases z)
  refine CLO.lam_calls (k := 0) tk2 C rfl (fun pm ctv us hu => ?_) (fun A outer s hr => ⟨_, (pe_and (pe_cmpR (DN.op_eqD hr.units) (pv 0) (pv 2) (nomark _)) (pe_one (pe_cmpR (DN.op_eqD hr.units) (pv 1) (pv 3) (nomark _)))), ?_⟩)
  · match us, hu with
    | [u, v], _ => rfl
  · refine ⟨_, rfl, _, rfl, dx, da, hx _ kp, ha _ kp, d1, _, rfl, ?_⟩
    cases e1 : dx.eqv da with
    | false =>
      rw [e1] at q
      refine iteF fun _ => ?_
      rw [CLO.back_hide]
      exact q
    | true =>
      rw [e1] at q
      refine iteT ⟨_, rfl, _, rfl, dy, db, hy _ kp, hb _ kp, d2, fun _ => ?_⟩
      rw [CLO.back_hide]
      exact q
theorem kcon_calls (L : LamK H f 3 ["_law_c", "_law_a"] [a, b]) (hx : ShwT H x dx) (hy : ShwT H y dy) (ha : ShwT H a da) (hb : ShwT H b db) (d1 : dx.depth ≤ 40) (d2 : dy.depth ≤ 40) (q : Q (.bl (dx.eqv da && dy.eqv db)) H) : CLO.CallsTo P w K mg base CX0 1 true f [x, y] H Q E0 := by
  obtain ⟨q0, cl, c', C⟩ := L
  have kp : ∀ t xs, H t = some (.tup xs) → CLO.hide H cl t = some (.tup xs) := fun t xs e => C.cels.keep e (fun ob z => by unfold CLO.CelO at z; cases z)
  refine CLO.lam_calls (k := 0) tk3 C rfl (fun pm ctv us hu => ?_) (fun A outer s hr => ⟨_, (pe_and (pe_cmpR (DN.op_eqD hr.units) (pv 0) (pv 2) (nomark _)) (pe_one (pe_cmpR (DN.op_eqD hr.units) (pv 1) (pv 3) (nomark _)))), ?_⟩)
  · match us, hu with
    | [u, v], _ => rfl
  · refine ⟨_, rfl, _, rfl, dx, da, hx _ kp, ha _ kp, d1, _, rfl, ?_⟩
    cases e1 : dx.eqv da with
    | false =>
      rw [e1] at q
      refine iteF fun _ => ?_
      rw [CLO.back_hide]
      exact q
    | true =>
      rw [e1] at q
      refine iteT ⟨_, rfl, _, rfl, dy, db, hy _ kp, hb _ kp, d2, fun _ => ?_⟩
      rw [CLO.back_hide]
      exact q
end
end
end K10
set_option Elab.async false
set_option linter.all false
set_option maxRecDepth 100000
set_option maxHeartbeats 2000000
namespace K10
open PySem PySem.Spec PyProof.Rows L2 CM DN GR SRT RZ
section
variable {P : Program} {w : World} {K : PySem.W.Frag} {mg : Str → Option Value} {base : Heap}
theorem tk5 : NdefX.NScope ["_law_some", "_law_a", "_law_one_here"] ["_law_some"] ["_law_a"] (lamC (kE 5)) := NdefX.nscope_by (by decide +kernel)
section
variable {H : Hp} {f l : Addr} {Q : VK} {a : V} {da : PyData} {vs : List V} {dv : List PyData}
def sidV (da : PyData) (dv : List PyData) : List V := dv.map fun d => V.int (if d.eqv da = true then 1 else 0)
theorem ksid_calls (m_int : mg "int" = none) (L : LamK H f 5 ["_law_a"] [a]) (hl : H l = some (.lst vs)) (hn : vs.length = dv.length) (hv : ∀ (i : Nat) (v : V), vs[i]? = some v → ∃ d, dv[i]? = some d ∧ ShwT H v d ∧ d.depth ≤ 40) (ha : ShwT H a da) (hz : dv.length ≤ 900)
    (q : ∀ (r : Addr) (H' : Hp), Same H H' → H' r = some (.lst (sidV da dv)) → Q (.ref r) H') : CLO.CallsTo P w K mg base CX0 1 true f [.ref l] H Q E0 := by
  obtain ⟨q0, cl, c', C⟩ := L
  have kp : ∀ t xs, H t = some (.tup xs) → CLO.hide H cl t = some (.tup xs) := fun t xs e => C.cels.keep e (fun ob z => by unfold CLO.CelO at z; cases z)
  have kl : CLO.hide H cl l = some (.lst vs) := C.cels.keep hl (fun ob z => by unfold CLO.CelO at z; cases z)
  refine CLO.lam_calls (k := 0) tk5 C rfl (fun pm ctv us hu => ?_) (fun A outer s hr => ⟨_, pe_lc (own := [("_law_one_here", 2)]) rfl tk5.nd (pi_list (pv 0)) (blkOk_by (N := ["_law_some", "_law_a", "_law_one_here"]) (sc := lamC (kE 5)) (by decide +kernel)) (fun _ _ _ _ _ => pg_name (i := 2) tk5.nd rfl (.inl rfl)) (fun _ _ _ _ _ => pts_nil) (fun _ _ _ _ _ => (pe_callTy call_int1 (by rfl) m_int boot_int (pa_cons (pe_cmpR (DN.op_eqD hr.units) (pv 2) (pv 1) (nomark _)) pa_nil))), ?_⟩)
  · match us, hu with
    | [u], _ => rfl
  · refine ⟨_, rfl, l, rfl, ⟨_, .inl (.inl kl)⟩, fun D nD => ?_⟩
    refine lc_list (K := K) (xs := vs) (fun i H' => Same (CLO.hide H cl) H' ∧ H' D = some (.lst ((sidV da dv).take i))) ⟨same_upd nD, upd_same⟩ (fun i H' _ ⟨s, _⟩ => .inl (.inl (s _ _ kl))) ?_ ?_
    · rintro i v H' hi ⟨s, hD⟩
      obtain ⟨d, hd, sd, dd⟩ := hv i v hi
      refine ⟨rfl, ?_⟩
      refine ⟨_, rfl, _, rfl, d, da, sd _ (fun t xs e => s _ _ (kp t xs e)), ha _ (fun t xs e => s _ _ (kp t xs e)), dd, .inr ⟨_, rfl, _, hD, ?_, ?_⟩⟩
      · exact Nat.lt_of_le_of_lt (List.length_take_le ..) (small1000 (by have := (List.getElem?_eq_some_iff.mp hd).1; omega))
      · refine ⟨fun b u e => (upd_ne (ne_of_none e nD)).trans (s b u e), ?_⟩
        rw [upd_same, List.take_succ]
        have e : (sidV da dv)[i]? = some (V.int (if d.eqv da = true then 1 else 0)) := by
          unfold sidV
          rw [List.getElem?_map, hd]
          rfl
        rw [e]
        rfl
    · rintro H' ⟨s, hD⟩ hc
      have nd : D ∉ cl.map (·.2) := fun z => by
        have := hc D z
        rw [hD] at this
        cases this
      refine q D _ (CLO.same_back s) ?_
      rw [CLO.at_back hD nd, hn, List.take_of_length_le (by unfold sidV; rw [List.length_map]; exact Nat.le_refl _)]
end
end
end K10
set_option Elab.async false
set_option linter.all false
set_option maxRecDepth 100000
set_option maxHeartbeats 2000000
namespace K10
open PySem PySem.Spec PyProof.Rows L2 CM DN GR SRT RZ
section
variable {P : Program} {w : World} {K : PySem.W.Frag} {mg : Str → Option Value} {base : Heap}
/-! ### kinds by functions: the law's state -/
theorem same_unfz {sc : Scope} {cells : List (Str × Addr)} {N : List Str} {σ : L2.St} {Hi Hz H' : Hp} (fz : CLO.Frz sc cells N σ Hi Hz) (hc : ∀ y c, cells.lookup y = some c → Hi c = none) (s : Same Hz H') : Same Hi (CLO.unfz cells H') := fun b o e => by
  have nx : ¬ ∃ y, cells.lookup y = some b := fun ⟨y, z⟩ => by
    rw [hc y b z] at e
    cases e
  rw [CLO.unfz_out nx]
  exact s b o (fz.same b o e)
theorem unfz_new {sc : Scope} {cells : List (Str × Addr)} {N : List Str} {σ : L2.St} {Hi Hz H' : Hp} {r : Addr} {xs : List V} (fz : CLO.Frz sc cells N σ Hi Hz) (s : Same Hz H') (e : H' r = some (.lst xs)) : CLO.unfz cells H' r = some (.lst xs) := by
  have nx : ¬ ∃ y, cells.lookup y = some r := fun ⟨y, z⟩ => by
    obtain ⟨ob, v, h1, _⟩ := fz.cel y r z
    have h2 := s _ _ h1
    rw [e] at h2
    unfold CLO.CelO at h2
    cases h2
  rw [CLO.unfz_out nx]
  exact e
/-- a lambda of the def, with its cells -/
def FnC (cells : List (Str × Addr)) (H : Hp) (f : Addr) (i : Nat) : Prop := ∃ q c', H f = some (CLO.LamO f ⟨"<lambda>", q, lamA (kE i), [], lamC (kE i), cloFrom cells (lamC (kE i)).names [], c'⟩ (lamB (kE i))) ∧ H c' = some (LamX.CodeO c' q)
theorem FnC.ext {cells : List (Str × Addr)} {H H' : Hp} {f : Addr} {i : Nat} (h : FnC cells H f i) (e : LamX.ExtN H H') : FnC cells H' f i := by
  obtain ⟨q, c', h1, h2⟩ := h
  exact ⟨q, c', e _ _ h1 (fun _ z => by unfold CLO.LamO at z; cases z), e _ _ h2 (fun _ z => by unfold LamX.CodeO at z; cases z)⟩
theorem FnC.lam {cells : List (Str × Addr)} {H Hz : Hp} {f : Addr} {i : Nat} {σ : L2.St} {fr : List Str} {js : List Nat} {ws : List V} (h : FnC cells H f i) (fz : CLO.Frz (defScope s_law_calls_right) cells n_law_calls_right σ H Hz) (h1 : ∀ y ∈ (lamC (kE i)).names, y.2 = .free → (defScope s_law_calls_right).names.lookup y.1 = some .cell) (h2 : ∀ y ∈ fr, (y, NameKind.free) ∈ (lamC (kE i)).names)
    (h3 : js.map (fun j => n_law_calls_right[j]?) = fr.map some) (h4 : js.map (NdefX.slotAt σ) = ws.map some) : LamK Hz f i fr ws := by
  obtain ⟨q, c', e1, e2⟩ := h
  exact ⟨q, _, c', CLO.clo_of fz (fz.same _ _ e1) (fz.same _ _ e2) h1 h2 h3 h4⟩
theorem kc2 : ∀ y ∈ (lamC (kE 2)).names, y.2 = .free → (defScope s_law_calls_right).names.lookup y.1 = some .cell := by decide +kernel
theorem kc3 : ∀ y ∈ (lamC (kE 3)).names, y.2 = .free → (defScope s_law_calls_right).names.lookup y.1 = some .cell := by decide +kernel
theorem kc5 : ∀ y ∈ (lamC (kE 5)).names, y.2 = .free → (defScope s_law_calls_right).names.lookup y.1 = some .cell := by decide +kernel
theorem kd2 : ∀ y ∈ (["_law_a", "_law_b"] : List Str), (y, NameKind.free) ∈ (lamC (kE 2)).names := by decide +kernel
theorem kd3 : ∀ y ∈ (["_law_c", "_law_a"] : List Str), (y, NameKind.free) ∈ (lamC (kE 3)).names := by decide +kernel
theorem kd5 : ∀ y ∈ (["_law_a"] : List Str), (y, NameKind.free) ∈ (lamC (kE 5)).names := by decide +kernel
/-- the keywords as they are written, in the parameters' order -/
def g8 {α : Type} (us zs : List α) : List α := match zs with | [o, j, m, c, p, s, d, b] => us ++ [o, j, c, m, p, s, d, b] | _ => us
structure KA where
  (p f0 f1 f2 f3 f4 f5 f6 f7 o dO tc : Addr) (cells : List (Str × Addr)) (cc x c : Int)
structure KSt (K : PySem.W.Frag) (CK : Addr) (A : KA) (H Hi : Hp) : Prop where
  kn : SL.KpN A.p H Hi
  hp : Hi A.p = some (.lst [.int A.x, .int A.c])
  tb : LamX.Tabs (TT K) Hi
  kd : Hi A.o = some (.ins CK A.dO (fs8 (.ref A.f0) (.ref A.f1) (.ref A.f3) (.ref A.f2) (.ref A.f4) (.ref A.f5) (.ref A.f6) (.ref A.f7)))
  tc : Hi A.tc = some (.tup [.int A.cc, .non])
  L0 : LamN Hi A.f0 (kE 0)
  L1 : LamN Hi A.f1 (kE 1)
  L2 : FnC A.cells Hi A.f2 2
  L3 : FnC A.cells Hi A.f3 3
  L4 : LamN Hi A.f4 (kE 4)
  L5 : FnC A.cells Hi A.f5 5
  L6 : LamN Hi A.f6 (kE 6)
  L7 : LamN Hi A.f7 (kE 7)
theorem KSt.ext {CK : Addr} {A : KA} {H Hi Hj : Hp} (S : KSt K CK A H Hi) (e : LamX.ExtN Hi Hj) (t : LamX.Tabs (TT K) Hj) : KSt K CK A H Hj :=
  ⟨S.kn.trans (SL.KpN.ext e), e _ _ S.hp (fun _ z => by cases z), t, e _ _ S.kd (fun _ z => by cases z), e _ _ S.tc (fun _ z => by cases z), S.L0.ext e, S.L1.ext e, S.L2.ext e, S.L3.ext e, S.L4.ext e, S.L5.ext e, S.L6.ext e, S.L7.ext e⟩
theorem KSt.same {CK : Addr} {A : KA} {H Hi Hj : Hp} (S : KSt K CK A H Hi) (s : Same Hi Hj) : KSt K CK A H Hj := S.ext (SL.ExtN.of_same s) (SL.Tabs.same S.tb s)
theorem shwT_int {H : Hp} {i : Int} : ShwT H (.int i) (.int i) := fun _ _ => .int _
theorem shwT_str {H : Hp} {s : Str} : ShwT H (.str s) (.str s) := fun _ _ => .str _
theorem shwT_tc {H : Hp} {t : Addr} {i : Int} (h : H t = some (.tup [.int i, .non])) : ShwT H (.ref t) (.tuple [.int i, .none]) := fun H' k => .tup (k _ _ h) (.cons (.int _) (.cons .non .nil))
end
end K10
set_option Elab.async false
set_option linter.all false
set_option maxRecDepth 100000
set_option maxHeartbeats 2000000
namespace K10
open PySem PySem.Spec PyProof.Rows L2 CM DN GR SRT RZ
section
variable {P : Program} {w : World} {K : PySem.W.Frag} {mg : Str → Option Value} {base : Heap}
/-! ### kinds by functions -/
theorem ok_calls {CK CN fK : Addr} {fd fdK : FuncData} {k : Nat} {gK : List Value → List Value → List Value} (F : FnP K "_law_calls_right" "_law_calls_right" s_law_calls_right (He.fAd K ("_law_calls_right", none)) fd) (TB : LamX.TabB base mg (He.cT K ("_law_calls_right", none)).1 (He.cT K ("_law_calls_right", none)).2) (ds : Dst K)
    (m_list : mg "list" = none) (m_str : mg "str" = none) (m_int : mg "int" = none) (ck : CallsK P w K mg base CK CN fK fdK gK)
    (KB : KBn K fdK ["self", "own", "join", "consistent", "matches", "penalty", "sides", "distance", "bound"] 1 ["own", "join", "matches", "consistent", "penalty", "sides", "distance", "bound"] gK (fun us zs => g8 us zs))
    (C_draw : Cal P w K mg base CX0 "_law_draw" 1 ["_law_well_here", "_law_many"] spDraw) :
    FnOk P w K mg base CX0 (k + 20 + 1) (He.fAd K ("_law_calls_right", none)) fd ["_law_well_here"] (spRight K) := by
  obtain ⟨f_law_draw, fd_law_draw, G_law_draw, b_law_draw, m_law_draw, k_law_draw⟩ := C_draw
  obtain ⟨M_K, G_K, m_K, kc, D1, D2, D3, D4, D5, D6, D7, D8⟩ := ck
  have cl_K := kc.cl
  obtain ⟨e1, j1, G_Kown, b_Kown, me_Kown⟩ := D1
  obtain ⟨e2, j2, G_Kjoin, b_Kjoin, me_Kjoin⟩ := D2
  obtain ⟨e5, j5, G_Kpenalty, b_Kpenalty, me_Kpenalty⟩ := D5
  obtain ⟨e7, j7, G_Kdistance, b_Kdistance, me_Kdistance⟩ := D7
  obtain ⟨e8, j8, G_Kbound, b_Kbound, me_Kbound⟩ := D8
  refine SL.okC F sc_law_calls_right (fun vs H Q E h => ?_) (fun A outer s H vs Q E hr h => ?_)
  · obtain ⟨p, x, c, rfl, _⟩ := h
    rfl
  · obtain ⟨p, x, c, rfl, hp, hT, q⟩ := h
    have hyo : CLO.Young (cxOf CX0 P w K mg base n_law_calls_right "_law_calls_right" (defScope s_law_calls_right) (He.fAd K ("_law_calls_right", none)) (.ref (He.codeOf K ("_law_calls_right", none))) A outer s H E).nox :=
      fun y c z => CLO.young_of (CX := CX0) (P := P) (w := w) (K := K) (mg := mg) (base := base) (N := n_law_calls_right) (qual := "_law_calls_right") (f := He.fAd K ("_law_calls_right", none)) (cd := .ref (He.codeOf K ("_law_calls_right", none))) (A := A) (outer := outer) (H := H) (E := E) y c z
    refine ⟨_, PSs.nox (pss_cons (ps_asg (pe_tup (pa_cons (pe_call G_law_draw (hr.mono (by omega)) (by rfl) m_law_draw k_law_draw b_law_draw .nil pass0 (pa_cons (pv 0) (pa_cons pe_int pa_nil))) (pa_cons (pe_op op_add_str pe_str (pe_callTy call_str_int (by rfl) m_str (by decide +kernel) (pa_cons (pe_call G_law_draw (hr.mono (by omega)) (by rfl) m_law_draw k_law_draw b_law_draw .nil pass0 (pa_cons (pv 0) (pa_cons pe_int pa_nil))) pa_nil))) (pa_cons (pe_tup (pa_cons (pe_call G_law_draw (hr.mono (by omega)) (by rfl) m_law_draw k_law_draw b_law_draw .nil pass0 (pa_cons (pv 0) (pa_cons pe_int pa_nil))) (pa_cons pe_non pa_nil))) pa_nil)))) (pg_tup rfl (pgs_cons (pg_name (i := 2) sc_law_calls_right.nd rfl (.inr rfl)) (pgs_cons (pg_name (i := 3) sc_law_calls_right.nd rfl (.inr rfl)) (pgs_cons (pg_name (i := 4) sc_law_calls_right.nd rfl (.inr rfl)) (pgs_nil))))))
    (pss_cons (ps_set (i := 1) sc_law_calls_right.nd rfl (.inl rfl) (pe_makeK0 M_K G_K (hr.mono (by omega)) (by rfl) m_K KB pass0 (pk_cons (CLO.pe_lamV (T := TT K) TB rfl (List.mem_of_getElem? (i := 2) rfl) (tt_q ds (i := 2) rfl) rfl (NdefX.ndef_free (sc := defScope s_law_calls_right) (fr := []) (by decide +kernel))) (pk_cons (CLO.pe_lamV (T := TT K) TB rfl (List.mem_of_getElem? (i := 2) rfl) (tt_q ds (i := 2) rfl) rfl (NdefX.ndef_free (sc := defScope s_law_calls_right) (fr := []) (by decide +kernel))) (pk_cons (CLO.pe_lamV (T := TT K) TB rfl (List.mem_of_getElem? (i := 2) rfl) (tt_q ds (i := 2) rfl) rfl (NdefX.ndef_free (sc := defScope s_law_calls_right) (fr := []) (by decide +kernel))) (pk_cons (CLO.pe_lamV (T := TT K) TB rfl (List.mem_of_getElem? (i := 2) rfl) (tt_q ds (i := 2) rfl) rfl (NdefX.ndef_free (sc := defScope s_law_calls_right) (fr := []) (by decide +kernel))) (pk_cons (CLO.pe_lamV (T := TT K) TB rfl (List.mem_of_getElem? (i := 2) rfl) (tt_q ds (i := 2) rfl) rfl (NdefX.ndef_free (sc := defScope s_law_calls_right) (fr := []) (by decide +kernel))) (pk_cons (CLO.pe_lamV (T := TT K) TB rfl (List.mem_of_getElem? (i := 2) rfl) (tt_q ds (i := 2) rfl) rfl (NdefX.ndef_free (sc := defScope s_law_calls_right) (fr := []) (by decide +kernel))) (pk_cons (CLO.pe_lamV (T := TT K) TB rfl (List.mem_of_getElem? (i := 2) rfl) (tt_q ds (i := 2) rfl) rfl (NdefX.ndef_free (sc := defScope s_law_calls_right) (fr := []) (by decide +kernel))) (pk_cons (CLO.pe_lamV (T := TT K) TB rfl (List.mem_of_getElem? (i := 2) rfl) (tt_q ds (i := 2) rfl) rfl (NdefX.ndef_free (sc := defScope s_law_calls_right) (fr := []) (by decide +kernel))) pk_nil))))))))))
    (pss_cons (ps_if (pt_cmpR (DN.op_neD hr.units) (pe_lst (pa_cons (pe_meth (pv 1) cl_K me_Kown G_Kown (hr.mono (by omega)) b_Kown .nil pass0 (pa_cons (pv 2) pa_nil)) (pa_cons (pe_meth (pv 1) cl_K me_Kown G_Kown (hr.mono (by omega)) b_Kown .nil pass0 (pa_cons (pv 4) pa_nil)) (pa_cons (pe_meth (pv 1) cl_K me_Kjoin G_Kjoin (hr.mono (by omega)) b_Kjoin .nil pass0 (pa_cons (pv 2) (pa_cons (pv 3) pa_nil))) (pa_cons (pe_meth (pv 1) cl_K me_Kjoin G_Kjoin (hr.mono (by omega)) b_Kjoin .nil pass0 (pa_cons (pv 4) (pa_cons (pv 2) pa_nil))) pa_nil))))) (pe_lst (pa_cons (pe_tup (pa_cons (pv 2) (pa_cons pe_str pa_nil))) (pa_cons (pe_tup (pa_cons (pv 4) (pa_cons pe_str pa_nil))) (pa_cons (pe_tup (pa_cons (pv 3) (pa_cons (pv 2) pa_nil))) (pa_cons (pe_tup (pa_cons (pv 2) (pa_cons (pv 4) pa_nil))) pa_nil))))) (nomark _)) (pss_one (ps_ret pe_bl)) (pss_nil))
    (pss_cons (ps_if (pt_cmpR (DN.op_neD hr.units) (pe_lst (pa_cons (CLO.pe_methZ (n := 15) (E := E0) hyo (pv 1) (hr.mono (by omega)) (pa_cons (pv 2) (pa_cons (pv 3) pa_nil))) (pa_cons (CLO.pe_methZ (n := 15) (E := E0) hyo (pv 1) (hr.mono (by omega)) (pa_cons (pv 3) (pa_cons (pv 2) pa_nil))) (pa_cons (CLO.pe_methZ (n := 15) (E := E0) hyo (pv 1) (hr.mono (by omega)) (pa_cons (pv 4) (pa_cons (pv 2) pa_nil))) (pa_cons (CLO.pe_methZ (n := 15) (E := E0) hyo (pv 1) (hr.mono (by omega)) (pa_cons (pv 2) (pa_cons (pv 4) pa_nil))) pa_nil))))) (pe_op op_rep (pe_lst (pa_cons pe_bl (pa_cons pe_bl pa_nil))) pe_int) (nomark _)) (pss_one (ps_ret pe_bl)) (pss_nil))
    (pss_cons (ps_if (PW.pt (pw_or (pt_cmpR (DN.op_neD hr.units) (pe_meth (pv 1) cl_K me_Kpenalty G_Kpenalty (hr.mono (by omega)) b_Kpenalty .nil pass0 (pa_cons (pv 4) (pa_cons (pv 2) pa_nil))) (pe_op op_sub (pe_ix ix_tup (pv 4) pe_int (fun _ _ => rfl)) (pv 2)) (nomark _)) (pw_or1 (pt_cmpR (DN.op_neD hr.units) (pe_callTy call_list_of (by rfl) m_list (by decide +kernel) (pa_cons (CLO.pe_methZ (n := 15) (E := E0) hyo (pv 1) (hr.mono (by omega)) (pa_cons (pe_lst (pa_cons (pv 2) (pa_cons (pv 3) (pa_cons (pv 4) (pa_cons (pv 2) pa_nil))))) pa_nil)) pa_nil)) (pe_lst (pa_cons pe_int (pa_cons pe_int (pa_cons pe_int (pa_cons pe_int pa_nil))))) (nomark _))))) (pss_one (ps_ret pe_bl)) (pss_nil))
    (pss_one (ps_ret (pe_and (pe_cmpR (DN.op_eqD hr.units) (pe_meth (pv 1) cl_K me_Kdistance G_Kdistance (hr.mono (by omega)) b_Kdistance .nil passF (pa_cons (pv 2) (pa_cons pe_int pa_nil))) (pe_op op_add (pe_op op_mul (pv 2) pe_int) pe_int) (nomark _)) (pe_one (pe_cmpR (DN.op_eqD hr.units) (pe_meth (pv 1) cl_K me_Kbound G_Kbound (hr.mono (by omega)) b_Kbound .nil passF (pa_cons (pv 2) (pa_cons pe_int pa_nil))) (pe_op op_sub (pv 2) pe_int) (nomark _))))))))))), ?_⟩
    refine ⟨_, rfl, p, x, c, 50, rfl, hp, by decide, .of (k := 10) (by decide) (by decide), fun a x1 c1 a0 a1 => ?_⟩
    refine ⟨_, rfl, p, x1, c1, 9, rfl, upd_same, by decide, .of (k := 10) (by decide) (by decide), fun b x2 c2 b0 b1 => ?_⟩
    rw [upd_upd]
    obtain ⟨b, rfl⟩ := Int.eq_ofNat_of_zero_le b0
    have hb9 : b < 9 := by omega
    refine ⟨(b : Int), rfl, (by
      have all : ∀ i : Fin 9, (i.val : Int).natAbs.log2 < 1920 := by decide +kernel
      exact all ⟨b, hb9⟩), ?_⟩
    refine ⟨"s", _, rfl, rfl, Nat.le_of_lt (small1000 (by
      have all : ∀ i : Fin 9, ("s" : Str).length + (Str.ofString (toString (i.val : Int))).length ≤ 1000 := by decide +kernel
      exact all ⟨b, hb9⟩)), ?_⟩
    generalize hbs : (("s" : Str) ++ Str.ofString (toString (b : Int))) = bs
    refine ⟨_, rfl, p, x2, c2, 9, rfl, upd_same, by decide, .of (k := 10) (by decide) (by decide), fun cc x3 c3 d0 d1 => ?_⟩
    rw [upd_upd]
    have hp1 := upd_same (H := H) (a := p) (o := .lst [.int x3, .int c3])
    have kn1 : SL.KpN p H (upd H p (.lst [.int x3, .int c3])) := SL.KpN.of Kp.set
    have t1 := SL.Tabs.kp hT hp (Kp.set (o := .lst [.int x3, .int c3]))
    generalize upd H p (.lst [.int x3, .int c3]) = H1 at hp1 kn1 t1 ⊢
    refine ⟨by show 2 ≤ sizeLine; decide, fun tc ntc => ⟨by show 3 ≤ sizeLine; decide, fun t3 nt3 => ?_⟩⟩
    refine ⟨_, [.int a, .str bs, .ref tc], rfl, .inl (.inl upd_same), rfl, _, _, rfl, _, _, rfl, _, _, rfl, rfl, ?_⟩
    have s2 := (same_upd (o := .tup [.int cc, .non]) ntc).trans (same_upd (o := .tup [.int a, .str bs, .ref tc]) nt3)
    have htc := (same_upd (o := .tup [.int a, .str bs, .ref tc]) nt3) tc _ (upd_same (H := H1) (a := tc) (o := .tup [.int cc, .non]))
    have hp2 := s2 _ _ hp1
    have kn2 := kn1.trans (SL.KpN.ext (SL.ExtN.of_same s2))
    have t2 := SL.Tabs.same t1 s2
    generalize upd (upd H1 tc (.tup [.int cc, .non])) t3 (.tup [.int a, .str bs, .ref tc]) = H2 at htc hp2 kn2 t2 ⊢
    clear s2 hp1 kn1 t1 ntc nt3
    refine ⟨t2, fun f0 y0 J0 e0 _ u0 _ g0 h0 => ⟨u0, fun f1 y1 J1 e1 _ u1 _ g1 h1 => ⟨u1, fun f2 y2 J2 e2 _ u2 _ g2 h2 => ⟨u2, fun f3 y3 J3 e3 _ u3 _ g3 h3 => ⟨u3, fun f4 y4 J4 e4 _ u4 _ g4 h4 => ⟨u4, fun f5 y5 J5 e5 _ u5 _ g5 h5 => ⟨u5, fun f6 y6 J6 e6 _ u6 _ g6 h6 => ⟨u6, fun f7 y7 J7 e7 _ u7 _ g7 h7 => ?_⟩⟩⟩⟩⟩⟩⟩⟩
    have M0 : LamN J0 f0 (kE 0) := LamN.mk (q := ("_law_calls_right" ++ ".<locals>.") ++ "<lambda>") (c' := y0) g0 h0
    have M1 : LamN J1 f1 (kE 1) := LamN.mk (q := ("_law_calls_right" ++ ".<locals>.") ++ "<lambda>") (c' := y1) g1 h1
    have M2 : FnC (cxOf CX0 P w K mg base n_law_calls_right "_law_calls_right" (defScope s_law_calls_right) (He.fAd K ("_law_calls_right", none)) (.ref (He.codeOf K ("_law_calls_right", none))) A outer s H E).nox.env.cells J2 f2 2 := ⟨_, _, g2, h2⟩
    have M3 : FnC (cxOf CX0 P w K mg base n_law_calls_right "_law_calls_right" (defScope s_law_calls_right) (He.fAd K ("_law_calls_right", none)) (.ref (He.codeOf K ("_law_calls_right", none))) A outer s H E).nox.env.cells J3 f3 3 := ⟨_, _, g3, h3⟩
    have M4 : LamN J4 f4 (kE 4) := LamN.mk (q := ("_law_calls_right" ++ ".<locals>.") ++ "<lambda>") (c' := y4) g4 h4
    have M5 : FnC (cxOf CX0 P w K mg base n_law_calls_right "_law_calls_right" (defScope s_law_calls_right) (He.fAd K ("_law_calls_right", none)) (.ref (He.codeOf K ("_law_calls_right", none))) A outer s H E).nox.env.cells J5 f5 5 := ⟨_, _, g5, h5⟩
    have M6 : LamN J6 f6 (kE 6) := LamN.mk (q := ("_law_calls_right" ++ ".<locals>.") ++ "<lambda>") (c' := y6) g6 h6
    have M7 : LamN J7 f7 (kE 7) := LamN.mk (q := ("_law_calls_right" ++ ".<locals>.") ++ "<lambda>") (c' := y7) g7 h7
    clear g0 h0 g1 h1 g2 h2 g3 h3 g4 h4 g5 h5 g6 h6 g7 h7 u0 u1 u2 u3 u4 u5 u6
    generalize hcells : (cxOf CX0 P w K mg base n_law_calls_right "_law_calls_right" (defScope s_law_calls_right) (He.fAd K ("_law_calls_right", none)) (.ref (He.codeOf K ("_law_calls_right", none))) A outer s H E).nox.env.cells = cells at M2 M3 M5 ⊢
    clear hcells
    have x7 := e7
    have x6 := e6.trans x7
    have x5 := e5.trans x6
    have x4 := e4.trans x5
    have x3' := e3.trans x4
    have x2' := e2.trans x3'
    have x1' := e1.trans x2'
    have x0 := e0.trans x1'
    refine ⟨rfl, rfl, fun o dO nO ndO neO => ?_⟩
    refine ⟨o, dO, .ref f0, .ref f1, .ref f3, .ref f2, .ref f4, .ref f5, .ref f6, .ref f7, rfl, upd_same, rfl, ?_⟩
    have s12 := same_made (C := CK) (o := .ins CK dO (fs8 (.ref f0) (.ref f1) (.ref f3) (.ref f2) (.ref f4) (.ref f5) (.ref f6) (.ref f7))) nO ndO
    have oS := upd_same (H := upd (upd J7 dO (.own o)) o (.ins CK dO [])) (a := o) (o := .ins CK dO (fs8 (.ref f0) (.ref f1) (.ref f3) (.ref f2) (.ref f4) (.ref f5) (.ref f6) (.ref f7)))
    generalize upd (upd (upd J7 dO (.own o)) o (.ins CK dO [])) o (.ins CK dO (fs8 (.ref f0) (.ref f1) (.ref f3) (.ref f2) (.ref f4) (.ref f5) (.ref f6) (.ref f7))) = H12 at s12 oS ⊢
    have z12 := SL.ExtN.of_same s12
    have S : KSt K CK ⟨p, f0, f1, f2, f3, f4, f5, f6, f7, o, dO, tc, cells, cc, x3, c3⟩ H H12 :=
      ⟨kn2.trans (SL.KpN.ext (x0.trans z12)), (x0.trans z12) _ _ hp2 (fun _ z => by cases z), SL.Tabs.same u7 s12, oS, (x0.trans z12) _ _ htc (fun _ z => by cases z), M0.ext (x1'.trans z12), M1.ext (x2'.trans z12), M2.ext (x3'.trans z12), M3.ext (x4.trans z12), M4.ext (x5.trans z12), M5.ext (x6.trans z12), M6.ext (x7.trans z12), M7.ext z12⟩
    clear M0 M1 M2 M3 M4 M5 M6 M7 e0 e1 e2 e3 e4 e5 e6 e7 x0 x1' x2' x3' x4 x5 x6 x7 z12 s12 oS u7 htc hp2 kn2 t2 nO ndO neO
    -- own, join
    refine ⟨_, rfl, o, dO, _, rfl, S.kd, rfl, _, rfl, o, dO, f0, _, true, .int a, rfl, S.kd, rfl, fun _ => S.L0.fnk, (kown_calls S.L0 fun v1 n1 => ?_).mono (by omega)⟩
    have w1 := same_upd (o := .tup [.int a, .str "own"]) n1
    have r1 := upd_same (H := H12) (a := v1) (o := .tup [.int a, .str "own"])
    replace S := S.same w1
    generalize upd H12 v1 (.tup [.int a, .str "own"]) = I1 at S r1 ⊢
    refine ⟨_, rfl, o, dO, _, rfl, S.kd, rfl, _, rfl, o, dO, f0, _, true, .ref tc, rfl, S.kd, rfl, fun _ => S.L0.fnk, (kown_calls S.L0 fun v2 n2 => ?_).mono (by omega)⟩
    have w2 := same_upd (o := .tup [.ref tc, .str "own"]) n2
    have r2 := upd_same (H := I1) (a := v2) (o := .tup [.ref tc, .str "own"])
    replace S := S.same w2
    replace r1 := w2 _ _ r1
    generalize upd I1 v2 (.tup [.ref tc, .str "own"]) = I2 at S r1 r2 ⊢
    refine ⟨_, rfl, o, dO, _, rfl, S.kd, rfl, _, rfl, _, rfl, o, dO, f1, _, true, .int a, .str bs, rfl, S.kd, rfl, fun _ => S.L1.fnk, (kjoin_calls S.L1 fun v3 n3 => ?_).mono (by omega)⟩
    have w3 := same_upd (o := .tup [.str bs, .int a]) n3
    have r3 := upd_same (H := I2) (a := v3) (o := .tup [.str bs, .int a])
    replace S := S.same w3
    replace r1 := w3 _ _ r1
    replace r2 := w3 _ _ r2
    generalize upd I2 v3 (.tup [.str bs, .int a]) = I3 at S r1 r2 r3 ⊢
    refine ⟨_, rfl, o, dO, _, rfl, S.kd, rfl, _, rfl, _, rfl, o, dO, f1, _, true, .ref tc, .int a, rfl, S.kd, rfl, fun _ => S.L1.fnk, (kjoin_calls S.L1 fun v4 n4 => ?_).mono (by omega)⟩
    have w4 := same_upd (o := .tup [.int a, .ref tc]) n4
    have r4 := upd_same (H := I3) (a := v4) (o := .tup [.int a, .ref tc])
    replace S := S.same w4
    replace r1 := w4 _ _ r1
    replace r2 := w4 _ _ r2
    replace r3 := w4 _ _ r3
    generalize upd I3 v4 (.tup [.int a, .ref tc]) = I4 at S r1 r2 r3 r4 ⊢
    refine ⟨by show 4 ≤ sizeLine; decide, fun v5 n5 => ?_⟩
    have wzv5 := same_upd (o := .lst [.ref v1, .ref v2, .ref v3, .ref v4]) n5
    have r5 := upd_same (H := I4) (a := v5) (o := .lst [.ref v1, .ref v2, .ref v3, .ref v4])
    replace S := S.same wzv5
    replace r1 := wzv5 _ _ r1
    replace r2 := wzv5 _ _ r2
    replace r3 := wzv5 _ _ r3
    replace r4 := wzv5 _ _ r4
    generalize upd I4 v5 (.lst [.ref v1, .ref v2, .ref v3, .ref v4]) = I5 at S r1 r2 r3 r4 r5 ⊢
    refine ⟨_, rfl, by show 2 ≤ sizeLine; decide, fun q1 z1 => ?_⟩
    have wzq1 := same_upd (o := .tup [.int a, .str "own"]) z1
    have s1 := upd_same (H := I5) (a := q1) (o := .tup [.int a, .str "own"])
    replace S := S.same wzq1
    replace r1 := wzq1 _ _ r1
    replace r2 := wzq1 _ _ r2
    replace r3 := wzq1 _ _ r3
    replace r4 := wzq1 _ _ r4
    replace r5 := wzq1 _ _ r5
    generalize upd I5 q1 (.tup [.int a, .str "own"]) = I6 at S r1 r2 r3 r4 r5 s1 ⊢
    refine ⟨_, rfl, by show 2 ≤ sizeLine; decide, fun q2 z2 => ?_⟩
    have wzq2 := same_upd (o := .tup [.ref tc, .str "own"]) z2
    have s2 := upd_same (H := I6) (a := q2) (o := .tup [.ref tc, .str "own"])
    replace S := S.same wzq2
    replace r1 := wzq2 _ _ r1
    replace r2 := wzq2 _ _ r2
    replace r3 := wzq2 _ _ r3
    replace r4 := wzq2 _ _ r4
    replace r5 := wzq2 _ _ r5
    replace s1 := wzq2 _ _ s1
    generalize upd I6 q2 (.tup [.ref tc, .str "own"]) = I7 at S r1 r2 r3 r4 r5 s1 s2 ⊢
    refine ⟨_, rfl, _, rfl, by show 2 ≤ sizeLine; decide, fun q3 z3 => ?_⟩
    have wzq3 := same_upd (o := .tup [.str bs, .int a]) z3
    have s3 := upd_same (H := I7) (a := q3) (o := .tup [.str bs, .int a])
    replace S := S.same wzq3
    replace r1 := wzq3 _ _ r1
    replace r2 := wzq3 _ _ r2
    replace r3 := wzq3 _ _ r3
    replace r4 := wzq3 _ _ r4
    replace r5 := wzq3 _ _ r5
    replace s1 := wzq3 _ _ s1
    replace s2 := wzq3 _ _ s2
    generalize upd I7 q3 (.tup [.str bs, .int a]) = I8 at S r1 r2 r3 r4 r5 s1 s2 s3 ⊢
    refine ⟨_, rfl, _, rfl, by show 2 ≤ sizeLine; decide, fun q4 z4 => ?_⟩
    have wzq4 := same_upd (o := .tup [.int a, .ref tc]) z4
    have s4 := upd_same (H := I8) (a := q4) (o := .tup [.int a, .ref tc])
    replace S := S.same wzq4
    replace r1 := wzq4 _ _ r1
    replace r2 := wzq4 _ _ r2
    replace r3 := wzq4 _ _ r3
    replace r4 := wzq4 _ _ r4
    replace r5 := wzq4 _ _ r5
    replace s1 := wzq4 _ _ s1
    replace s2 := wzq4 _ _ s2
    replace s3 := wzq4 _ _ s3
    generalize upd I8 q4 (.tup [.int a, .ref tc]) = I9 at S r1 r2 r3 r4 r5 s1 s2 s3 s4 ⊢
    refine ⟨by show 4 ≤ sizeLine; decide, fun q5 z5 => ?_⟩
    have wzq5 := same_upd (o := .lst [.ref q1, .ref q2, .ref q3, .ref q4]) z5
    have s5 := upd_same (H := I9) (a := q5) (o := .lst [.ref q1, .ref q2, .ref q3, .ref q4])
    replace S := S.same wzq5
    replace r1 := wzq5 _ _ r1
    replace r2 := wzq5 _ _ r2
    replace r3 := wzq5 _ _ r3
    replace r4 := wzq5 _ _ r4
    replace r5 := wzq5 _ _ r5
    replace s1 := wzq5 _ _ s1
    replace s2 := wzq5 _ _ s2
    replace s3 := wzq5 _ _ s3
    replace s4 := wzq5 _ _ s4
    generalize upd I9 q5 (.lst [.ref q1, .ref q2, .ref q3, .ref q4]) = I10 at S r1 r2 r3 r4 r5 s1 s2 s3 s4 s5 ⊢
    have hbo : PyData.strOk bs = true := by
      rw [← hbs]
      have all : ∀ i : Fin 9, PyData.strOk (("s" : Str) ++ Str.ofString (toString (i.val : Int))) = true := by decide +kernel
      exact all ⟨b, hb9⟩
    have htc := S.tc
    have shc : RZ.Shw I10 (.ref tc) (.tuple [.int cc, .none]) := .tup htc (.cons (.int _) (.cons .non .nil))
    refine rNe_same (D := .list [.tuple [.int a, .str "own"], .tuple [.tuple [.int cc, .none], .str "own"], .tuple [.str bs, .int a], .tuple [.int a, .tuple [.int cc, .none]]])
      (.lst r5 (.cons (.tup r1 (.cons (.int _) (.cons (.str _) .nil))) (.cons (.tup r2 (.cons shc (.cons (.str _) .nil))) (.cons (.tup r3 (.cons (.str _) (.cons (.int _) .nil))) (.cons (.tup r4 (.cons (.int _) (.cons shc .nil))) .nil)))))
      (.lst s5 (.cons (.tup s1 (.cons (.int _) (.cons (.str _) .nil))) (.cons (.tup s2 (.cons shc (.cons (.str _) .nil))) (.cons (.tup s3 (.cons (.str _) (.cons (.int _) .nil))) (.cons (.tup s4 (.cons (.int _) (.cons shc .nil))) .nil)))))
      (by simp [PyData.canLay0, PyData.canLayAll0, hbo]; decide +kernel) (by simp [PyData.depth, PyData.depthAll]) ?_
    refine ⟨false, rfl, iteF ?_⟩
    clear r1 r2 r3 r4 r5 s1 s2 s3 s4 s5 shc htc
    -- matches
    obtain ⟨f_con, fd_con, G_con, b_con, me_con⟩ := D3
    obtain ⟨f_mat, fd_mat, G_mat, b_mat, me_mat⟩ := D4
    obtain ⟨f_sid, fd_sid, G_sid, b_sid, me_sid⟩ := D6
    have one : ∀ {Hi Hz : Hp} {σ : L2.St} {x y : V} {dx dy : PyData} {bb : Bool} {Q' : VK}, KSt K CK ⟨p, f0, f1, f2, f3, f4, f5, f6, f7, o, dO, tc, cells, cc, x3, c3⟩ H Hi → ShwT Hi x dx → ShwT Hi y dy → dx.depth ≤ 40 → dy.depth ≤ 40 →
        [2, 3].map (NdefX.slotAt σ) = [V.int a, V.str bs].map some → CLO.Frz (defScope s_law_calls_right) cells n_law_calls_right σ Hi Hz → (dx.eqv (.int a) && dy.eqv (.str bs)) = bb → Q' (.bl bb) Hz → CLO.RunsTo P w K mg base CX0 15 f_mat [.ref o, x, y] Hz Q' E0 := by
      intro Hi Hz σ x y dx dy bb Q' S hx hy d1 d2 hs fz he q
      rw [← he] at q
      have L := FnC.lam (js := [2, 3]) (ws := [V.int a, V.str bs]) S.L2 fz kc2 kd2 rfl hs
      have tz : ∀ {v d}, ShwT Hi v d → ShwT Hz v d := fun h H' k => h H' fun t xs e => k t xs (fz.same _ _ e)
      exact CLO.RunsTo.mk (raw0 G_mat b_mat) ⟨o, dO, f2, _, true, x, y, rfl, fz.same _ _ S.kd, rfl, fun _ => L.fnk, (kmat_calls L (tz hx) (tz hy) shwT_int shwT_str d1 d2 q).mono (by decide)⟩
    have two : ∀ {Hi Hz : Hp} {σ : L2.St} {x y : V} {dx dy : PyData} {bb : Bool} {Q' : VK}, KSt K CK ⟨p, f0, f1, f2, f3, f4, f5, f6, f7, o, dO, tc, cells, cc, x3, c3⟩ H Hi → ShwT Hi x dx → ShwT Hi y dy → dx.depth ≤ 40 → dy.depth ≤ 40 →
        [4, 2].map (NdefX.slotAt σ) = [V.ref tc, V.int a].map some → CLO.Frz (defScope s_law_calls_right) cells n_law_calls_right σ Hi Hz → (dx.eqv (.tuple [.int cc, .none]) && dy.eqv (.int a)) = bb → Q' (.bl bb) Hz → CLO.RunsTo P w K mg base CX0 15 f_con [.ref o, x, y] Hz Q' E0 := by
      intro Hi Hz σ x y dx dy bb Q' S hx hy d1 d2 hs fz he q
      rw [← he] at q
      have L := FnC.lam (js := [4, 2]) (ws := [V.ref tc, V.int a]) S.L3 fz kc3 kd3 rfl hs
      have tz : ∀ {v d}, ShwT Hi v d → ShwT Hz v d := fun h H' k => h H' fun t xs e => k t xs (fz.same _ _ e)
      exact CLO.RunsTo.mk (raw0 G_con b_con) ⟨o, dO, f3, _, true, x, y, rfl, fz.same _ _ S.kd, rfl, fun _ => L.fnk, (kcon_calls L (tz hx) (tz hy) (tz (shwT_tc S.tc)) shwT_int d1 d2 q).mono (by decide)⟩
    refine ⟨_, rfl, o, CK, dO, _, f_mat, rfl, S.kd, rfl, cl_K, me_mat, _, rfl, _, rfl, fun Hz hc fz => one (bb := true) (x := .int a) (y := .str bs) (dx := .int a) (dy := .str bs) S shwT_int shwT_str (by simp [PyData.depth]) (by simp [PyData.depth]) rfl fz (by simp [PyData.eqv]) ?_⟩
    replace S := S.same (same_unfz fz hc (fun _ _ z => z))
    generalize CLO.unfz cells Hz = U1 at S
    clear fz hc
    refine ⟨_, rfl, o, CK, dO, _, f_mat, rfl, S.kd, rfl, cl_K, me_mat, _, rfl, _, rfl, fun Hz hc fz => one (bb := false) (x := .str bs) (y := .int a) (dx := .str bs) (dy := .int a) S shwT_str shwT_int (by simp [PyData.depth]) (by simp [PyData.depth]) rfl fz (by simp [PyData.eqv]) ?_⟩
    replace S := S.same (same_unfz fz hc (fun _ _ z => z))
    generalize CLO.unfz cells Hz = U2 at S
    clear fz hc
    refine ⟨_, rfl, o, CK, dO, _, f_con, rfl, S.kd, rfl, cl_K, me_con, _, rfl, _, rfl, fun Hz hc fz => two (bb := true) (x := .ref tc) (y := .int a) (dx := .tuple [.int cc, .none]) (dy := .int a) S (shwT_tc S.tc) shwT_int (by simp [PyData.depth, PyData.depthAll]) (by simp [PyData.depth]) rfl fz (by simp [PyData.eqv, PyData.eqvAll]) ?_⟩
    replace S := S.same (same_unfz fz hc (fun _ _ z => z))
    generalize CLO.unfz cells Hz = U3 at S
    clear fz hc
    refine ⟨_, rfl, o, CK, dO, _, f_con, rfl, S.kd, rfl, cl_K, me_con, _, rfl, _, rfl, fun Hz hc fz => two (bb := false) (x := .int a) (y := .ref tc) (dx := .int a) (dy := .tuple [.int cc, .none]) S shwT_int (shwT_tc S.tc) (by simp [PyData.depth]) (by simp [PyData.depth, PyData.depthAll]) rfl fz (by simp [PyData.eqv, PyData.eqvAll]) ?_⟩
    replace S := S.same (same_unfz fz hc (fun _ _ z => z))
    generalize CLO.unfz cells Hz = U4 at S
    clear fz hc
    refine ⟨by show 4 ≤ sizeLine; decide, fun g1 n1 => ?_⟩
    have r1 := upd_same (H := U4) (a := g1) (o := .lst [.bl true, .bl false, .bl true, .bl false])
    replace S := S.same (same_upd (o := .lst [.bl true, .bl false, .bl true, .bl false]) n1)
    generalize upd U4 g1 (.lst [.bl true, .bl false, .bl true, .bl false]) = K1 at S r1 ⊢
    refine ⟨by show 2 ≤ sizeLine; decide, fun g2 n2 => ?_⟩
    have r2 := upd_same (H := K1) (a := g2) (o := .lst [.bl true, .bl false])
    have w2 := same_upd (o := .lst [.bl true, .bl false]) n2
    replace S := S.same w2
    replace r1 := w2 _ _ r1
    generalize upd K1 g2 (.lst [.bl true, .bl false]) = K2 at S r1 r2 ⊢
    refine ⟨g2, 2, _, rfl, rfl, r2, by decide, by decide, by show 4 ≤ sizeLine; decide, fun g3 n3 => ?_⟩
    have r3 : (upd K2 g3 (.lst (List.replicate (2 : Int).toNat [V.bl true, .bl false]).flatten)) g3 = some (.lst [.bl true, .bl false, .bl true, .bl false]) := upd_same
    have w3 := same_upd (o := .lst (List.replicate (2 : Int).toNat [V.bl true, .bl false]).flatten) n3
    replace S := S.same w3
    replace r1 := w3 _ _ r1
    generalize upd K2 g3 (.lst (List.replicate (2 : Int).toNat [V.bl true, .bl false]).flatten) = K3 at S r1 r3 ⊢
    refine rNe_same (D := .list [.bool true, .bool false, .bool true, .bool false]) (.lst r1 (.cons (.bl _) (.cons (.bl _) (.cons (.bl _) (.cons (.bl _) .nil))))) (.lst r3 (.cons (.bl _) (.cons (.bl _) (.cons (.bl _) (.cons (.bl _) .nil))))) (by decide +kernel) (by decide +kernel) ?_
    refine ⟨false, rfl, iteF ?_⟩
    clear r1 r2 r3 w2 w3
    -- penalty, sides
    refine ⟨_, rfl, o, dO, _, rfl, S.kd, rfl, _, rfl, _, rfl, o, dO, _, [_, _], rfl, rfl, S.kd, .inr ⟨f4, true, rfl, fun _ => S.L4.fnk, (kpen_calls S.L4 S.tc ?_).mono (by omega)⟩⟩
    refine ⟨_, rfl, tc, _, 0, _, rfl, rfl, .inl (.inl S.tc), rfl, _, rfl, cc, a, rfl, rfl, ?_⟩
    set_option simprocs false in dsimp only
    refine rNe_same (D := .int (cc - a)) (.int _) (.int _) rfl (by simp [PyData.depth]) ?_
    refine ⟨false, rfl, iteF ?_⟩
    refine ⟨_, rfl, o, CK, dO, _, f_sid, rfl, S.kd, rfl, cl_K, me_sid, _, rfl, _, rfl, _, rfl, _, rfl, by show 4 ≤ sizeLine; decide, fun ls nls => fun Hz hc fz => ?_⟩
    have wl := same_upd (o := .lst [.int a, .str bs, .ref tc, .int a]) nls
    have hl := upd_same (H := K3) (a := ls) (o := .lst [.int a, .str bs, .ref tc, .int a])
    replace S := S.same wl
    have fz : CLO.Frz (defScope s_law_calls_right) cells n_law_calls_right _ (upd K3 ls (.lst [.int a, .str bs, .ref tc, .int a])) Hz := fz
    generalize upd K3 ls (.lst [.int a, .str bs, .ref tc, .int a]) = K4 at S hl hc fz
    have L := FnC.lam (js := [2]) (ws := [V.int a]) S.L5 fz kc5 kd5 rfl rfl
    refine CLO.RunsTo.mk (raw0 G_sid b_sid) ⟨o, dO, _, [.ref ls], rfl, rfl, fz.same _ _ S.kd, .inr ⟨f5, true, rfl, fun _ => L.fnk, ?_⟩⟩
    refine (ksid_calls (dv := [.int a, .str bs, .tuple [.int cc, .none], .int a]) m_int L (fz.same _ _ hl) rfl (fun i v hi => ?_) shwT_int (by show 4 ≤ 900; decide) (fun r H' s e => ?_)).mono (by decide)
    · match i, hi with
      | 0, hi => exact Option.some.inj hi ▸ ⟨_, rfl, shwT_int, by simp [PyData.depth]⟩
      | 1, hi => exact Option.some.inj hi ▸ ⟨_, rfl, shwT_str, by simp [PyData.depth]⟩
      | 2, hi => exact Option.some.inj hi ▸ ⟨_, rfl, shwT_tc (fz.same _ _ S.tc), by simp [PyData.depth, PyData.depthAll]⟩
      | 3, hi => exact Option.some.inj hi ▸ ⟨_, rfl, shwT_int, by simp [PyData.depth]⟩
      | n + 4, hi => cases hi
    have r1 := unfz_new fz s e
    replace S := S.same (same_unfz fz hc s)
    generalize CLO.unfz cells H' = K5 at S r1
    clear fz hc s e L hl wl nls
    rw [show sidV (.int a) [.int a, .str bs, .tuple [.int cc, .none], .int a] = [.int 1, .int 0, .int 0, .int 1] by simp [sidV, PyData.eqv]] at r1
    refine ⟨r, _, rfl, .inl (.inl (.inl r1)), fun l1 n1 => ?_⟩
    have t1 := upd_same (H := K5) (a := l1) (o := .lst [.int 1, .int 0, .int 0, .int 1])
    replace S := S.same (same_upd (o := .lst [.int 1, .int 0, .int 0, .int 1]) n1)
    generalize upd K5 l1 (.lst [.int 1, .int 0, .int 0, .int 1]) = K6 at S t1 ⊢
    refine ⟨by show 4 ≤ sizeLine; decide, fun l2 n2 => ?_⟩
    have t2 := upd_same (H := K6) (a := l2) (o := .lst [.int 1, .int 0, .int 0, .int 1])
    have w2 := same_upd (o := .lst [.int 1, .int 0, .int 0, .int 1]) n2
    replace S := S.same w2
    replace t1 := w2 _ _ t1
    generalize upd K6 l2 (.lst [.int 1, .int 0, .int 0, .int 1]) = K7 at S t1 t2 ⊢
    refine rNe_same (D := .list [.int 1, .int 0, .int 0, .int 1]) (.lst t1 (.cons (.int _) (.cons (.int _) (.cons (.int _) (.cons (.int _) .nil))))) (.lst t2 (.cons (.int _) (.cons (.int _) (.cons (.int _) (.cons (.int _) .nil))))) (by decide +kernel) (by decide +kernel) ?_
    refine ⟨false, rfl, iteF ?_⟩
    -- distance, bound
    refine ⟨_, rfl, o, dO, _, rfl, S.kd, rfl, _, rfl, o, dO, _, [_, _], rfl, rfl, S.kd, .inr ⟨f6, true, rfl, fun _ => S.L6.fnk, (kdis_calls S.L6 (by omega) ?_).mono (by omega)⟩⟩
    refine ⟨_, rfl, a, 100, rfl, rfl, .inr (by decide), _, 7, rfl, rfl, ?_⟩
    set_option simprocs false in dsimp only
    refine rEq_same (D := .int (a * 100 + 7)) (.int _) (.int _) rfl (by simp [PyData.depth]) ?_
    refine ⟨true, rfl, iteT ?_⟩
    refine ⟨_, rfl, o, dO, _, rfl, S.kd, rfl, _, rfl, o, dO, _, [_, _], rfl, rfl, S.kd, .inr ⟨f7, true, rfl, fun _ => S.L7.fnk, (kbou_calls S.L7 ?_).mono (by omega)⟩⟩
    refine ⟨_, rfl, a, 700, rfl, rfl, ?_⟩
    set_option simprocs false in dsimp only
    refine rEq_same (D := .int (a - 700)) (.int _) (.int _) rfl (by simp [PyData.depth]) ?_
    exact q _ _ _ S.kn S.tb S.hp
end
end K10
set_option Elab.async false
set_option linter.all false
set_option maxRecDepth 100000
set_option maxHeartbeats 2000000
namespace K10
open PySem PySem.Spec PyProof.Rows L2 CM DN GR SRT RZ
section
variable {P : Program} {w : World} {K : PySem.W.Frag} {mg : Str → Option Value} {base : Heap}
/-! ### the law -/
def spLaw (K : PySem.W.Frag) : Sp := fun vs H Q _ => ∃ (a : Addr) (ns : List Int), vs = [.ref a] ∧ SqL K H a (ns.map V.int) ∧ ns.length ≤ 63 ∧ LamX.Tabs (TT K) H ∧ ∀ H', Q (.bl true) H'
theorem ok_law {f : Addr} {fd : FuncData} {k : Nat} (F : FnP K "law" "law" s_law f fd) (C_well : Cal P w K mg base CX0 "_law_well" k ["_law_cell"] spWell) (C_bare : Cal P w K mg base CX0 "_law_bare_right" k ["_law_well_here"] (spRight K))
    (C_calls : Cal P w K mg base CX0 "_law_calls_right" k ["_law_well_here"] (spRight K)) (C_grids : GD.CalG P w K mg base CX0 "_law_grids_right" k ["_law_well_here"] (spRight K)) (C_counted : GD.CalG P w K mg base CX0 "_law_counted_right" k ["_law_well_here"] (spRight K))
    (C_classes : Cal P w K mg base CX0 "_law_classes_right" k [] (spCl K)) : GD.FnG P w K mg base CX0 (k + 1) f fd ["_law_script"] (spLaw K) := by
  obtain ⟨f_law_well, fd_law_well, G_law_well, b_law_well, m_law_well, k_law_well⟩ := C_well
  obtain ⟨f1, g1, G_law_bare_right, b_law_bare_right, m_law_bare_right, k_law_bare_right⟩ := C_bare
  obtain ⟨f2, g2, G_law_calls_right, b_law_calls_right, m_law_calls_right, k_law_calls_right⟩ := C_calls
  obtain ⟨f3, g3, G_law_grids_right, b_law_grids_right, m_law_grids_right, k_law_grids_right⟩ := C_grids
  obtain ⟨f4, g4, G_law_counted_right, b_law_counted_right, m_law_counted_right, k_law_counted_right⟩ := C_counted
  obtain ⟨f5, g5, G_law_classes_right, b_law_classes_right, m_law_classes_right, k_law_classes_right⟩ := C_classes
  refine GD.okG F sc_law (fun vs H Q E h => ?_) (fun cdv A outer s H vs Q E hr gd h => ?_)
  · obtain ⟨a, ns, rfl, _⟩ := h
    rfl
  · obtain ⟨a, ns, rfl, ha, hz, hT, q⟩ := h
    refine ⟨_, PSs.nox (pss_cons (ps_for PassesOwn.never rfl (pi_list (pe_op op_cat (pe_slice sl_list (pv 0) po_none (po_some pe_int)) (pe_lst (pa_cons pe_int pa_nil)))) (pg_name (i := 1) sc_law.nd rfl (.inl rfl))
      (pss_cons (ps_set (i := 2) sc_law.nd rfl (.inl rfl) (pe_call G_law_well (hr.mono (by omega)) (by rfl) m_law_well k_law_well b_law_well .nil pass0 (pa_cons (pv 1) pa_nil)))
      (pss_cons (ps_if (PW.pt (pw_or (pt_not (pt_val (pe_call G_law_bare_right (hr.mono (by omega)) (by rfl) m_law_bare_right k_law_bare_right b_law_bare_right .nil pass0 (pa_cons (pv 2) pa_nil)))) (pw_or1 (pt_not (pt_val (pe_call G_law_calls_right (hr.mono (by omega)) (by rfl) m_law_calls_right k_law_calls_right b_law_calls_right .nil pass0 (pa_cons (pv 2) pa_nil))))))) (pss_one (ps_ret pe_bl)) (pss_nil))
      (pss_one (ps_if (PW.pt (pw_or (pt_not (pt_val (GD.pe_callG G_law_grids_right (hr.mono (by omega)) gd (by rfl) m_law_grids_right k_law_grids_right b_law_grids_right .nil pass0 (pa_cons (pv 2) pa_nil)))) (pw_or1 (pt_not (pt_val (GD.pe_callG G_law_counted_right (hr.mono (by omega)) gd (by rfl) m_law_counted_right k_law_counted_right b_law_counted_right .nil pass0 (pa_cons (pv 2) pa_nil))))))) (pss_one (ps_ret pe_bl)) (pss_nil))))))
    (pss_one (ps_ret (pe_call0 G_law_classes_right (hr.mono (by omega)) (by rfl) m_law_classes_right k_law_classes_right b_law_classes_right .nil pass0)))), ?_⟩
    refine ⟨_, rfl, 4, rfl, a, _, rfl, ha, fun c nc => ⟨by show 1 ≤ sizeLine; decide, fun d nd => ?_⟩⟩
    have hc : (upd (upd H c (.lst (cutV (ns.map V.int) none (some 4)))) d (.lst [V.int 0])) c = some (.lst (cutV (ns.map V.int) none (some 4))) := by
      rw [upd_ne (ne_of_none upd_same nd), upd_same]
    have hl : (cutV (ns.map V.int) none (some 4)).length ≤ 63 := Nat.le_trans (cutV_length ..) (by rw [List.length_map]; exact hz)
    refine ⟨c, d, _, _, rfl, rfl, hc, upd_same, Nat.le_of_lt (small1000 (by rw [List.length_singleton]; omega)), fun e ne => ?_⟩
    generalize hX : cutV (ns.map V.int) none (some 4) ++ [V.int 0] = X
    have hXi : ∀ v ∈ X, ∃ z : Int, v = .int z := fun v hv => by
      rw [← hX] at hv
      rcases List.mem_append.mp hv with h1 | h1
      · obtain ⟨z, _, rfl⟩ := List.mem_map.mp (cut_mem h1)
        exact ⟨z, rfl⟩
      · exact ⟨0, List.mem_singleton.mp h1⟩
    have hT1 := SL.Tabs.same hT ((same_upd (o := .lst (cutV (ns.map V.int) none (some 4))) nc).trans (same_upd (o := .lst [V.int 0]) nd))
    generalize upd (upd H c (.lst (cutV (ns.map V.int) none (some 4)))) d (.lst [V.int 0]) = H1 at ne hT1
    refine ⟨e, rfl, ⟨X, .inl (.inl upd_same)⟩, ?_⟩
    refine for_list (K := K) (a := e) (xs := X) (fun i σ H' => ∃ v1 v2 : Option V, σ = [some (.ref a), v1, v2] ∧ H' e = some (.lst X) ∧ LamX.Tabs (TT K) H') ?_ (fun i σ H' _ ⟨_, _, _, he, _⟩ => .inl (.inl he)) ?_ ?_
    · exact ⟨none, none, rfl, upd_same, SL.Tabs.same hT1 (same_upd ne)⟩
    · rintro i y σ H2 hi ⟨v1, v2, rfl, he, hTi⟩
      obtain ⟨z, rfl⟩ := hXi y (List.mem_of_getElem? hi)
      refine ⟨_, rfl, z, rfl, fun p np => ?_⟩
      have hpe : e ≠ p := ne_of_none he np
      have s3 := same_upd (o := .lst [.int z, .int 0]) np
      have hp3 := upd_same (H := H2) (a := p) (o := .lst [.int z, .int 0])
      have he3 := s3 _ _ he
      have hT3 := SL.Tabs.same hTi s3
      generalize upd H2 p (.lst [.int z, .int 0]) = H3 at hp3 he3 hT3
      refine ⟨_, rfl, p, z, 0, rfl, hp3, hT3, fun H5 x5 c5 k5 t5 hp5 => ⟨true, rfl, iteF ?_⟩⟩
      have he5 := k5 _ _ hpe (fun _ z => by cases z) he3
      refine ⟨_, rfl, p, x5, c5, rfl, hp5, t5, fun H6 x6 c6 k6 t6 hp6 => ⟨true, rfl, iteF ?_⟩⟩
      have he6 := k6 _ _ hpe (fun _ z => by cases z) he5
      refine ⟨_, rfl, p, x6, c6, rfl, hp6, t6, fun H7 x7 c7 k7 t7 hp7 => ⟨true, rfl, iteF ?_⟩⟩
      have he7 := k7 _ _ hpe (fun _ z => by cases z) he6
      refine ⟨_, rfl, p, x7, c7, rfl, hp7, t7, fun H8 x8 c8 k8 t8 hp8 => ⟨true, rfl, iteF ?_⟩⟩
      have he8 := k8 _ _ hpe (fun _ z => by cases z) he7
      exact ⟨_, _, rfl, he8, t8⟩
    · rintro σ H2 ⟨v1, v2, rfl, he, tE⟩
      exact ⟨rfl, tE, q⟩
end
end K10
set_option Elab.async false
set_option linter.all false
set_option maxRecDepth 100000
set_option maxHeartbeats 2000000
namespace K10
open PySem PySem.Spec PyProof.Rows L2 CM DN GR SRT RZ
section
variable {P : Program} {w : World} {K : PySem.W.Frag} {mg : Str → Option Value} {base : Heap}
/-! ### the head -/
def insKB (K : PySem.W.Frag) (C : Addr) : Bool := He.eqO (PySem.W.findIn K (.ref C) "__class__") (some (some (.builtin "object.__class__"))) && (He.eqO (PySem.W.specialIn K (.builtin "object.__class__") "__get__") (some (some (.builtin "getset_descriptor.__get__"))) && (decide (PySem.W.takesIn K (.builtin "object.__class__") = some true) && (decide (PySem.W.mroIn K C (.type "object") = some true) && (decide (PySem.W.kitOne K (.ref C) (.type "int") = some false) && (decide (PySem.W.kitOne K (.ref C) (.type "str") = some false) && decide (PySem.W.kitOne K (.ref C) (.type "tuple") = some false))))))
theorem insKB_ok {K : PySem.W.Frag} {C : Addr} (cl : Cls K C) (h : insKB K C = true) : InsK K C := by
  obtain ⟨h1, h⟩ := He.ba h
  obtain ⟨h2, h⟩ := He.ba h
  obtain ⟨h3, h⟩ := He.ba h
  obtain ⟨h4, h⟩ := He.ba h
  obtain ⟨h5, h⟩ := He.ba h
  obtain ⟨h6, h7⟩ := He.ba h
  exact ⟨cl, He.eqO_ok h1, He.eqO_ok h2, of_decide_eq_true h3, of_decide_eq_true h4, of_decide_eq_true h5, of_decide_eq_true h6, of_decide_eq_true h7⟩
def geqB (K : PySem.W.Frag) (C : Addr) : Bool := insKB K C && (decide (PySem.W.kitOne K (.ref C) (.ref C) = some true) && (["bool", "NoneType", "int", "str", "tuple", "list", "dict"].all fun T => decide (PySem.W.kitOne K (.type T) (.ref C) = some false) && PySem.W.notFirst K C (.type T)))
theorem geqB_ok {K : PySem.W.Frag} {C : Addr} (cl : Cls K C) (h : geqB K C = true) : GEq K C := by
  obtain ⟨h1, h⟩ := He.ba h
  obtain ⟨h2, h3⟩ := He.ba h
  refine ⟨insKB_ok cl h1, of_decide_eq_true h2, fun T hT => ?_⟩
  obtain ⟨q1, q2⟩ := He.ba (List.all_eq_true.mp h3 T hT)
  exact ⟨of_decide_eq_true q1, q2⟩
def kitB (K : PySem.W.Frag) (x y : Str) (b : Bool) : Bool := decide (PySem.W.kitOne K (.ref (He.ga K x)) (.ref (He.ga K y)) = some b)
def exL (K : PySem.W.Frag) : List Bool := [decide (((TT K).map (·.1)).Nodup),
  OX.errB K (He.ga K "NotGiven") "name",
  OX.errB K (He.ga K "BadValue") "value",
  insKB K (He.ga K "Ranges"),
  insKB K (He.ga K "Boxes"),
  insKB K (He.ga K "Both"),
  insKB K (He.ga K "Coarse"),
  insKB K (He.ga K "Rests"),
  insKB K (He.ga K "Stems"),
  insKB K (He.ga K "Signs"),
  insKB K (He.ga K "Calls"),
  insKB K (He.ga K "Kind"),
  kitB K "Ranges" "Kind" true,
  kitB K "Boxes" "Kind" true,
  kitB K "Both" "Kind" true,
  kitB K "Coarse" "Kind" true,
  kitB K "Rests" "Kind" true,
  kitB K "Stems" "Kind" true,
  kitB K "Signs" "Kind" true,
  kitB K "Calls" "Kind" true,
  kitB K "Kind" "Kind" true,
  kitB K "Ranges" "Measured" true,
  kitB K "Boxes" "Measured" true,
  kitB K "Both" "Measured" true,
  kitB K "Coarse" "Measured" true,
  kitB K "Rests" "Measured" false,
  kitB K "Stems" "Measured" false,
  kitB K "Signs" "Measured" false,
  kitB K "Calls" "Measured" true,
  kitB K "Kind" "Measured" false,
  geqB K (He.ga K "Filling"),
  notB K (He.ga K "Filling"),
  ownB K (He.ga K "Grid") "__getitem__",
  ownB K (He.ga K "Grid") "__setitem__",
  ownB K (He.ga K "Grid") "__call__",
  ownB K (He.ga K "Grid") "__invert__",
  PySem.W.noSeq K (He.ga K "Grid"),
  ownB K (He.ga K "Counted") "__call__",
  PR.propB K (He.ga K "Counted") "calls" "made",
  mkoB K (He.ga K "Ranges"),
  mkoB K (He.ga K "Rests"),
  mkoB K (He.ga K "Stems"),
  mkoB K (He.ga K "Kind"),
  mkoB K (He.ga K "Measured"),
  SU.supI "/claim/cut.py" K (He.ga K "Calls") (He.ga K "Calls") (He.ma K (He.ga K "Calls") "penalty") (He.ma K (He.ga K "Kind") "penalty") "penalty",
  SU.supI "/claim/cut.py" K (He.ga K "Calls") (He.ga K "Calls") (He.ma K (He.ga K "Calls") "sides") (He.ma K (He.ga K "Kind") "sides") "sides",
  SU.supI "/claim/cut.py" K (He.ga K "Calls") (He.ga K "Calls") (He.ma K (He.ga K "Calls") "distance") (He.ma K (He.ga K "Measured") "distance") "distance",
  SU.supI "/claim/cut.py" K (He.ga K "Calls") (He.ga K "Calls") (He.ma K (He.ga K "Calls") "bound") (He.ma K (He.ga K "Measured") "bound") "bound"]
theorem exi {l : List Bool} (h : l.all id = true) (i : Nat) {b : Bool} (e : l[i]? = some b) : b = true := List.all_eq_true.mp h b (List.mem_of_getElem? e)
def d_BadValue___init : He.DefD := ⟨("BadValue", some "__init__"), "__init__", "BadValue.__init__", defArgs s_BadValue___init, defBody s_BadValue___init, defScope s_BadValue___init, [], []⟩
def d_NotGiven___init : He.DefD := ⟨("NotGiven", some "__init__"), "__init__", "NotGiven.__init__", defArgs s_NotGiven___init, defBody s_NotGiven___init, defScope s_NotGiven___init, [], []⟩
def d_Kind_own : He.DefD := ⟨("Kind", some "own"), "own", "Kind.own", defArgs s_Kind_own, defBody s_Kind_own, defScope s_Kind_own, [], []⟩
def d_Kind_join : He.DefD := ⟨("Kind", some "join"), "join", "Kind.join", defArgs s_Kind_join, defBody s_Kind_join, defScope s_Kind_join, [], []⟩
def d_Kind_consistent : He.DefD := ⟨("Kind", some "consistent"), "consistent", "Kind.consistent", defArgs s_Kind_consistent, defBody s_Kind_consistent, defScope s_Kind_consistent, [], []⟩
def d_Kind_matches : He.DefD := ⟨("Kind", some "matches"), "matches", "Kind.matches", defArgs s_Kind_matches, defBody s_Kind_matches, defScope s_Kind_matches, [], []⟩
def d_Kind_penalty : He.DefD := ⟨("Kind", some "penalty"), "penalty", "Kind.penalty", defArgs s_Kind_penalty, defBody s_Kind_penalty, defScope s_Kind_penalty, [], []⟩
def d_Kind_sides : He.DefD := ⟨("Kind", some "sides"), "sides", "Kind.sides", defArgs s_Kind_sides, defBody s_Kind_sides, defScope s_Kind_sides, [], []⟩
def d_Measured_distance : He.DefD := ⟨("Measured", some "distance"), "distance", "Measured.distance", defArgs s_Measured_distance, defBody s_Measured_distance, defScope s_Measured_distance, [], []⟩
def d_Measured_bound : He.DefD := ⟨("Measured", some "bound"), "bound", "Measured.bound", defArgs s_Measured_bound, defBody s_Measured_bound, defScope s_Measured_bound, [], []⟩
def d_Calls___init : He.DefD := ⟨("Calls", some "__init__"), "__init__", "Calls.__init__", defArgs s_Calls___init, defBody s_Calls___init, defScope s_Calls___init, [], [(("penalty" : Str), He.Dv.non), (("sides" : Str), He.Dv.non), (("distance" : Str), He.Dv.non), (("bound" : Str), He.Dv.non)]⟩
def d_Calls_own : He.DefD := ⟨("Calls", some "own"), "own", "Calls.own", defArgs s_Calls_own, defBody s_Calls_own, defScope s_Calls_own, [], []⟩
def d_Calls_join : He.DefD := ⟨("Calls", some "join"), "join", "Calls.join", defArgs s_Calls_join, defBody s_Calls_join, defScope s_Calls_join, [], []⟩
def d_Calls_consistent : He.DefD := ⟨("Calls", some "consistent"), "consistent", "Calls.consistent", defArgs s_Calls_consistent, defBody s_Calls_consistent, defScope s_Calls_consistent, [], []⟩
def d_Calls_matches : He.DefD := ⟨("Calls", some "matches"), "matches", "Calls.matches", defArgs s_Calls_matches, defBody s_Calls_matches, defScope s_Calls_matches, [], []⟩
def d_is_int : He.DefD := ⟨("is_int", none), "is_int", "is_int", defArgs s_is_int, defBody s_is_int, defScope s_is_int, [], []⟩
def d_is_flag : He.DefD := ⟨("is_flag", none), "is_flag", "is_flag", defArgs s_is_flag, defBody s_is_flag, defScope s_is_flag, [], []⟩
def d_by_repr : He.DefD := ⟨("by_repr", none), "by_repr", "by_repr", defArgs s_by_repr, defBody s_by_repr, defScope s_by_repr, [], []⟩
def d_is_plain : He.DefD := ⟨("is_plain", none), "is_plain", "is_plain", defArgs s_is_plain, defBody s_is_plain, defScope s_is_plain, [], []⟩
def d_is_plain_within : He.DefD := ⟨("is_plain_within", none), "is_plain_within", "is_plain_within", defArgs s_is_plain_within, defBody s_is_plain_within, defScope s_is_plain_within, [], []⟩
def d_Both___init : He.DefD := ⟨("Both", some "__init__"), "__init__", "Both.__init__", defArgs s_Both___init, defBody s_Both___init, defScope s_Both___init, [], []⟩
def d_Coarse___init : He.DefD := ⟨("Coarse", some "__init__"), "__init__", "Coarse.__init__", defArgs s_Coarse___init, defBody s_Coarse___init, defScope s_Coarse___init, [], []⟩
def d_Counted___init : He.DefD := ⟨("Counted", some "__init__"), "__init__", "Counted.__init__", defArgs s_Counted___init, defBody s_Counted___init, defScope s_Counted___init, [.int 2], []⟩
def d_Counted___call : He.DefD := ⟨("Counted", some "__call__"), "__call__", "Counted.__call__", defArgs s_Counted___call, defBody s_Counted___call, defScope s_Counted___call, [.non], []⟩
def d_Counted_clear : He.DefD := ⟨("Counted", some "clear"), "clear", "Counted.clear", defArgs s_Counted_clear, defBody s_Counted_clear, defScope s_Counted_clear, [], []⟩
def d_Filling___init : He.DefD := ⟨("Filling", some "__init__"), "__init__", "Filling.__init__", defArgs s_Filling___init, defBody s_Filling___init, defScope s_Filling___init, [], []⟩
def d_Grid___init : He.DefD := ⟨("Grid", some "__init__"), "__init__", "Grid.__init__", defArgs s_Grid___init, defBody s_Grid___init, defScope s_Grid___init, [.bl false], []⟩
def d_Grid___getitem : He.DefD := ⟨("Grid", some "__getitem__"), "__getitem__", "Grid.__getitem__", defArgs s_Grid___getitem, defBody s_Grid___getitem, defScope s_Grid___getitem, [], []⟩
def d_Grid___setitem : He.DefD := ⟨("Grid", some "__setitem__"), "__setitem__", "Grid.__setitem__", defArgs s_Grid___setitem, defBody s_Grid___setitem, defScope s_Grid___setitem, [], []⟩
def d_Grid___call : He.DefD := ⟨("Grid", some "__call__"), "__call__", "Grid.__call__", defArgs s_Grid___call, defBody s_Grid___call, defScope s_Grid___call, [], []⟩
def d_Grid___invert : He.DefD := ⟨("Grid", some "__invert__"), "__invert__", "Grid.__invert__", defArgs s_Grid___invert, defBody s_Grid___invert, defScope s_Grid___invert, [], []⟩
def d_Grid_has_value : He.DefD := ⟨("Grid", some "has_value"), "has_value", "Grid.has_value", defArgs s_Grid_has_value, defBody s_Grid_has_value, defScope s_Grid_has_value, [], []⟩
def d_checked_place : He.DefD := ⟨("checked_place", none), "checked_place", "checked_place", defArgs s_checked_place, defBody s_checked_place, defScope s_checked_place, [], []⟩
def d_Boxes___init : He.DefD := ⟨("Boxes", some "__init__"), "__init__", "Boxes.__init__", defArgs s_Boxes___init, defBody s_Boxes___init, defScope s_Boxes___init, [.int 2], []⟩
def d_Signs___init : He.DefD := ⟨("Signs", some "__init__"), "__init__", "Signs.__init__", defArgs s_Signs___init, defBody s_Signs___init, defScope s_Signs___init, [.int 8], []⟩
def d_law_well : He.DefD := ⟨("_law_well", none), "_law_well", "_law_well", defArgs s_law_well, defBody s_law_well, defScope s_law_well, [], []⟩
def d_law_draw : He.DefD := ⟨("_law_draw", none), "_law_draw", "_law_draw", defArgs s_law_draw, defBody s_law_draw, defScope s_law_draw, [], []⟩
def d_law_name_of : He.DefD := ⟨("_law_name_of", none), "_law_name_of", "_law_name_of", defArgs s_law_name_of, defBody s_law_name_of, defScope s_law_name_of, [], []⟩
def d_law_halves : He.DefD := ⟨("_law_halves", none), "_law_halves", "_law_halves", defArgs s_law_halves, defBody s_law_halves, defScope s_law_halves, [], []⟩
def d_law_bare_right : He.DefD := ⟨("_law_bare_right", none), "_law_bare_right", "_law_bare_right", defArgs s_law_bare_right, defBody s_law_bare_right, defScope s_law_bare_right, [], []⟩
def d_law_calls_right : He.DefD := ⟨("_law_calls_right", none), "_law_calls_right", "_law_calls_right", defArgs s_law_calls_right, defBody s_law_calls_right, defScope s_law_calls_right, [], []⟩
def d_law_grids_right : He.DefD := ⟨("_law_grids_right", none), "_law_grids_right", "_law_grids_right", defArgs s_law_grids_right, defBody s_law_grids_right, defScope s_law_grids_right, [], []⟩
def d_law_counted_right : He.DefD := ⟨("_law_counted_right", none), "_law_counted_right", "_law_counted_right", defArgs s_law_counted_right, defBody s_law_counted_right, defScope s_law_counted_right, [], []⟩
def d_law_classes_right : He.DefD := ⟨("_law_classes_right", none), "_law_classes_right", "_law_classes_right", defArgs s_law_classes_right, defBody s_law_classes_right, defScope s_law_classes_right, [], []⟩
def d_law : He.DefD := ⟨("law", none), "law", "law", defArgs s_law, defBody s_law, defScope s_law, [], []⟩
def fn : List He.DefD := [d_BadValue___init, d_NotGiven___init, d_Kind_own, d_Kind_join, d_Kind_consistent, d_Kind_matches, d_Kind_penalty, d_Kind_sides, d_Measured_distance, d_Measured_bound, d_Calls___init, d_Calls_own, d_Calls_join, d_Calls_consistent, d_Calls_matches, d_is_int, d_is_flag, d_by_repr, d_is_plain, d_is_plain_within, d_Both___init, d_Coarse___init, d_Counted___init, d_Counted___call, d_Counted_clear, d_Filling___init, d_Grid___init, d_Grid___getitem, d_Grid___setitem, d_Grid___call, d_Grid___invert, d_Grid_has_value, d_checked_place, d_Boxes___init, d_Signs___init, d_law_well, d_law_draw, d_law_name_of, d_law_halves, d_law_bare_right, d_law_calls_right, d_law_grids_right, d_law_counted_right, d_law_classes_right, d_law]
def fa : List He.Fa := [.glo "is_int", .glo "is_flag", .glo "by_repr", .glo "is_plain", .glo "is_plain_within", .glo "checked_place", .glo "_law_well", .glo "_law_draw", .glo "_law_name_of", .glo "_law_halves", .glo "_law_bare_right", .glo "_law_calls_right", .glo "_law_grids_right", .glo "_law_counted_right", .glo "_law_classes_right", .glo "law", .glo "Kind", .cls "Kind", .meth "Kind" "own", .meth "Kind" "join", .meth "Kind" "consistent", .meth "Kind" "matches", .meth "Kind" "penalty", .meth "Kind" "sides", .glo "Measured", .cls "Measured", .meth "Measured" "distance", .meth "Measured" "bound", .glo "Calls", .cls "Calls", .meth "Calls" "__init__", .meth "Calls" "own", .meth "Calls" "join", .meth "Calls" "consistent", .meth "Calls" "matches", .meth "Calls" "penalty", .meth "Calls" "sides", .meth "Calls" "distance", .meth "Calls" "bound", .glo "Counted", .cls "Counted", .meth "Counted" "__init__", .meth "Counted" "__call__", .meth "Counted" "clear", .glo "Grid", .cls "Grid", .meth "Grid" "__init__", .meth "Grid" "__getitem__", .meth "Grid" "__setitem__", .meth "Grid" "__call__", .meth "Grid" "__invert__", .meth "Grid" "has_value", .glo "Filling", .cls "Filling", .meth "Filling" "__init__", .glo "Both", .cls "Both", .meth "Both" "__init__", .glo "Coarse", .cls "Coarse", .meth "Coarse" "__init__", .glo "Boxes", .cls "Boxes", .meth "Boxes" "__init__", .glo "Signs", .cls "Signs", .meth "Signs" "__init__", .glo "Ranges", .cls "Ranges", .glo "Rests", .cls "Rests", .glo "Stems", .cls "Stems", .glo "NotGiven", .glo "BadValue", .free "int", .free "len", .free "range", .free "list", .free "tuple", .free "str", .free "bool", .free "isinstance", .free "sorted", .free "repr", .free "super", .int "DEEPEST" 4, .int "MOST_BITS" 60, .int "MOST_DIMENSIONS" 6, .mkr "Grid", .mkr "Filling", .mkr "Calls", .mkr "Counted", .mkr "Both", .mkr "Coarse", .mkr "Boxes", .mkr "Signs", .noat "Calls" "own_function", .noat "Calls" "join_function", .noat "Calls" "consistent_function", .noat "Calls" "matches_function", .noat "Calls" "penalty_function", .noat "Calls" "sides_function", .noat "Calls" "distance_function", .noat "Calls" "bound_function", .noat "Counted" "function", .noat "Counted" "arguments", .noat "Counted" "made", .noat "Grid" "default", .noat "Grid" "entries", .noat "Filling" "default", .noat "Filling" "entries", .noat "Both" "first", .noat "Both" "second", .noat "Coarse" "kind", .noat "Coarse" "squeeze", .noat "Boxes" "axes", .noat "Signs" "bits"]
def loose : List PySem.Str := (["_wall", "GroveError", "BadValue", "NotGiven", "Kind", "Measured", "Calls", "DEEPEST", "is_int", "is_flag", "by_repr", "is_plain"] : List PySem.Str) ++ (["is_plain_within", "own_label", "joined", "checked", "Both", "Coarse", "distance_by", "bound_by", "Counted", "Filling", "Grid", "is_place"] : List PySem.Str) ++ (["checked_place", "standing_in", "halves_by", "MOST_DIMENSIONS", "Ranges", "Boxes", "hull", "share_integer", "width_of", "gap", "hull_of_boxes", "share_point"] : List PySem.Str) ++ (["widths_of", "gaps", "MOST_BITS", "Rests", "Stems", "Signs", "common_rest", "common_divisor", "common_stem", "signs_of", "bits_in", "_law_well"] : List PySem.Str) ++ (["_law_draw", "_law_one", "_law_name_of", "_law_halves", "_law_bare_right", "_law_calls_right", "_law_grids_right", "_law_counted_right", "_law_classes_right"] : List PySem.Str)
def ex (K : PySem.W.Frag) : Bool := (exL K).all id
abbrev R : PySem.W.OpenRow := PySem.W.OpenLaw.row PySem.Challenge.rw_kindgrove_k10_kinds_by_themselves
def tf : List He.Defn := [("by_repr", none), ("_law_bare_right", none), ("_law_calls_right", none), ("_law_grids_right", none), ("_law_counted_right", none), ("_law_classes_right", none)]
def da : List He5.DefA := []
def dc : List CF.DefC := [⟨"Calls", "penalty", "Calls.penalty", s_Calls_penalty⟩, ⟨"Calls", "sides", "Calls.sides", s_Calls_sides⟩, ⟨"Calls", "distance", "Calls.distance", s_Calls_distance⟩, ⟨"Calls", "bound", "Calls.bound", s_Calls_bound⟩]
abbrev hk : PySem.W.Hook := RC.hookW 6 fa fn tf da dc ex
def ob (s : PySem.W.SharedT) : CF.AlW := RC.obsW 6 fa fn tf da dc ex (HandSHeadRun.getT s)
theorem ob_eq (s : PySem.W.SharedT) : ob s = hk.obs s.abs := RC.obsW_eq (HandSHeadRun.getT_eq s)
theorem run (w : World) : HandSHeadRun.RunEq R (PySem.W.view R.prog [68]) hk ob 12000 loose w := by
  intro os
  kernel_rfl
theorem glo {h : Heap} (X : K.In h) (G : h.Ns mainGlobals mg) (c : He.SaysD fa fn K) {x : Str} (hx : He.Fa.glo x ∈ fa) : mg x = some (.ref (He.ga K x)) := He.glo_ok X G (c.facts hx)
theorem fre {h : Heap} (X : K.In h) (G : h.Ns mainGlobals mg) (c : He.SaysD fa fn K) {x : Str} (hx : He.Fa.free x ∈ fa) : mg x = none := He.free_ok X G (c.facts hx)
theorem cal {h : Heap} (X : K.In h) (G : h.Ns mainGlobals mg) (c : He.SaysD fa fn K) {x qn : Str} {st : Stmt} {fd : FuncData} {k : Nat} {ps : List Str} {sp : Sp} (F : FnP K x qn st (He.ga K x) fd)
    (hx : He.Fa.glo x ∈ fa) (ok : FnOk P w K mg base CX0 k (He.ga K x) fd ps sp)
    (hb : ∀ (kV doc pm : Value) (an : Option Addr) (cdv ct : Value) (us : List Value), us.length = ps.length → bindArgs (PySem.W.fnOf x qn (defArgs st) (defBody st) (defScope st) .none kV doc pm an cdv ct) ⟨us, []⟩ = pure (ps.zip us)) : Cal P w K mg base CX0 x k ps sp :=
  ⟨He.ga K x, fd, ok, F.bindsN hb, glo X G c hx, F.kp⟩
theorem calm (c : He.SaysD fa fn K) {C m qn : Str} {st : Stmt} {fd : FuncData} {k : Nat} {ps : List Str} {sp : Sp} (F : FnP K m qn st (He.ma K (He.ga K C) m) fd)
    (hx : He.Fa.meth C m ∈ fa) (ok : FnOk P w K mg base CX0 k (He.ma K (He.ga K C) m) fd ps sp)
    (hb : ∀ (kV doc pm : Value) (an : Option Addr) (cdv ct : Value) (us : List Value), us.length = ps.length → bindArgs (PySem.W.fnOf m qn (defArgs st) (defBody st) (defScope st) .none kV doc pm an cdv ct) ⟨us, []⟩ = pure (ps.zip us)) : CalM P w K mg base CX0 (He.ga K C) m k ps sp :=
  ⟨He.ma K (He.ga K C) m, fd, ok, F.bindsN hb, He.meth_ok (c.facts hx)⟩
end
end K10
set_option Elab.async false
set_option linter.all false
set_option maxRecDepth 100000
set_option maxHeartbeats 2000000
namespace K10
open PySem PySem.Spec PyProof.Rows L2 CM DN GR SRT RZ
section
variable {P : Program} {w : World} {K : PySem.W.Frag} {mg : Str → Option Value} {base : Heap}
theorem tabs_of {H : Hp} (h : ∀ p ∈ tf.map (He.cT K), H p.2 = some (.tbl #[])) : LamX.Tabs (TT K) H := fun p hp => by
  simp only [TT, List.mem_cons, List.not_mem_nil, or_false] at hp
  rcases hp with rfl | rfl | rfl | rfl | rfl | rfl
  · exact LamX.TabS.nil (h _ (List.mem_map.mpr ⟨("by_repr", none), by decide, rfl⟩))
  · exact LamX.TabS.nil (h _ (List.mem_map.mpr ⟨("_law_bare_right", none), by decide, rfl⟩))
  · exact LamX.TabS.nil (h _ (List.mem_map.mpr ⟨("_law_calls_right", none), by decide, rfl⟩))
  · exact LamX.TabS.nil (h _ (List.mem_map.mpr ⟨("_law_grids_right", none), by decide, rfl⟩))
  · exact LamX.TabS.nil (h _ (List.mem_map.mpr ⟨("_law_counted_right", none), by decide, rfl⟩))
  · exact LamX.TabS.nil (h _ (List.mem_map.mpr ⟨("_law_classes_right", none), by decide, rfl⟩))
theorem facts {h : Heap} {f : Addr} (X : K.In h) (G : h.Ns mainGlobals mg) (hfa : mg ("law" : Str) = some (.ref f)) (c : He.SaysD fa fn K) (m : ex K = true) (c0 : ∃ (F : NdefX.NF) (fd : FuncData), CF.ClsF K (He.ma K (He.ga K "Calls") "penalty") F fd ∧ F.params = defArgs s_Calls_penalty ∧ F.body = defBody s_Calls_penalty ∧ F.scope = defScope s_Calls_penalty ∧ F.name = "penalty" ∧ F.qual = "Calls.penalty")
    (c1 : ∃ (F : NdefX.NF) (fd : FuncData), CF.ClsF K (He.ma K (He.ga K "Calls") "sides") F fd ∧ F.params = defArgs s_Calls_sides ∧ F.body = defBody s_Calls_sides ∧ F.scope = defScope s_Calls_sides ∧ F.name = "sides" ∧ F.qual = "Calls.sides")
    (c2 : ∃ (F : NdefX.NF) (fd : FuncData), CF.ClsF K (He.ma K (He.ga K "Calls") "distance") F fd ∧ F.params = defArgs s_Calls_distance ∧ F.body = defBody s_Calls_distance ∧ F.scope = defScope s_Calls_distance ∧ F.name = "distance" ∧ F.qual = "Calls.distance")
    (c3 : ∃ (F : NdefX.NF) (fd : FuncData), CF.ClsF K (He.ma K (He.ga K "Calls") "bound") F fd ∧ F.params = defArgs s_Calls_bound ∧ F.body = defBody s_Calls_bound ∧ F.scope = defScope s_Calls_bound ∧ F.name = "bound" ∧ F.qual = "Calls.bound")
    (O : SU.SupOk "/claim/cut.py" P) :
    ∃ fd : FuncData, (∀ (s : Shared) (v : Value), BindsTo s fd ⟨[v], []⟩ [("_law_script", v)]) ∧ ∀ base : Heap, K.In base → base.Ns mainGlobals mg → (∀ p ∈ tf.map (He.cT K), LamX.TabB base mg p.1 p.2) → GD.FnG P w K mg base CX0 23 f fd ["_law_script"] (spLaw K) := by
  have ds : Dst K := by
    unfold Dst
    exact of_decide_eq_true (exi m 0 rfl)
  have EN := OX.errB_ok (exi m 1 rfl)
  have EB := OX.errB_ok (exi m 2 rfl)
  obtain ⟨fd_BadValue___init, F_BadValue___init⟩ : ∃ fd, FnP K "__init__" "BadValue.__init__" s_BadValue___init (He.ma K (He.ga K "BadValue") "__init__") fd := c.def_ 0 (d := d_BadValue___init) rfl
  obtain ⟨fd_NotGiven___init, F_NotGiven___init⟩ : ∃ fd, FnP K "__init__" "NotGiven.__init__" s_NotGiven___init (He.ma K (He.ga K "NotGiven") "__init__") fd := c.def_ 1 (d := d_NotGiven___init) rfl
  obtain ⟨fd_Kind_own, F_Kind_own⟩ : ∃ fd, FnP K "own" "Kind.own" s_Kind_own (He.ma K (He.ga K "Kind") "own") fd := c.def_ 2 (d := d_Kind_own) rfl
  obtain ⟨fd_Kind_join, F_Kind_join⟩ : ∃ fd, FnP K "join" "Kind.join" s_Kind_join (He.ma K (He.ga K "Kind") "join") fd := c.def_ 3 (d := d_Kind_join) rfl
  obtain ⟨fd_Kind_consistent, F_Kind_consistent⟩ : ∃ fd, FnP K "consistent" "Kind.consistent" s_Kind_consistent (He.ma K (He.ga K "Kind") "consistent") fd := c.def_ 4 (d := d_Kind_consistent) rfl
  obtain ⟨fd_Kind_matches, F_Kind_matches⟩ : ∃ fd, FnP K "matches" "Kind.matches" s_Kind_matches (He.ma K (He.ga K "Kind") "matches") fd := c.def_ 5 (d := d_Kind_matches) rfl
  obtain ⟨fd_Kind_penalty, F_Kind_penalty⟩ : ∃ fd, FnP K "penalty" "Kind.penalty" s_Kind_penalty (He.ma K (He.ga K "Kind") "penalty") fd := c.def_ 6 (d := d_Kind_penalty) rfl
  obtain ⟨fd_Kind_sides, F_Kind_sides⟩ : ∃ fd, FnP K "sides" "Kind.sides" s_Kind_sides (He.ma K (He.ga K "Kind") "sides") fd := c.def_ 7 (d := d_Kind_sides) rfl
  obtain ⟨fd_Measured_distance, F_Measured_distance⟩ : ∃ fd, FnP K "distance" "Measured.distance" s_Measured_distance (He.ma K (He.ga K "Measured") "distance") fd := c.def_ 8 (d := d_Measured_distance) rfl
  obtain ⟨fd_Measured_bound, F_Measured_bound⟩ : ∃ fd, FnP K "bound" "Measured.bound" s_Measured_bound (He.ma K (He.ga K "Measured") "bound") fd := c.def_ 9 (d := d_Measured_bound) rfl
  obtain ⟨fd_Calls___init, F_Calls___init⟩ : ∃ fd, FunD K "__init__" "Calls.__init__" (defArgs s_Calls___init) (defBody s_Calls___init) (defScope s_Calls___init) [] [((("penalty" : Str), He.Dv.non).1, He.Dv.v K ((("penalty" : Str), He.Dv.non)).2), ((("sides" : Str), He.Dv.non).1, He.Dv.v K ((("sides" : Str), He.Dv.non)).2), ((("distance" : Str), He.Dv.non).1, He.Dv.v K ((("distance" : Str), He.Dv.non)).2), ((("bound" : Str), He.Dv.non).1, He.Dv.v K ((("bound" : Str), He.Dv.non)).2)] (He.ma K (He.ga K "Calls") "__init__") fd := c.def_ 10 (d := d_Calls___init) rfl
  obtain ⟨fd_Calls_own, F_Calls_own⟩ : ∃ fd, FnP K "own" "Calls.own" s_Calls_own (He.ma K (He.ga K "Calls") "own") fd := c.def_ 11 (d := d_Calls_own) rfl
  obtain ⟨fd_Calls_join, F_Calls_join⟩ : ∃ fd, FnP K "join" "Calls.join" s_Calls_join (He.ma K (He.ga K "Calls") "join") fd := c.def_ 12 (d := d_Calls_join) rfl
  obtain ⟨fd_Calls_consistent, F_Calls_consistent⟩ : ∃ fd, FnP K "consistent" "Calls.consistent" s_Calls_consistent (He.ma K (He.ga K "Calls") "consistent") fd := c.def_ 13 (d := d_Calls_consistent) rfl
  obtain ⟨fd_Calls_matches, F_Calls_matches⟩ : ∃ fd, FnP K "matches" "Calls.matches" s_Calls_matches (He.ma K (He.ga K "Calls") "matches") fd := c.def_ 14 (d := d_Calls_matches) rfl
  obtain ⟨fd_is_int, F_is_int⟩ : ∃ fd, FnP K "is_int" "is_int" s_is_int (He.ga K "is_int") fd := c.def_ 15 (d := d_is_int) rfl
  obtain ⟨fd_is_flag, F_is_flag⟩ : ∃ fd, FnP K "is_flag" "is_flag" s_is_flag (He.ga K "is_flag") fd := c.def_ 16 (d := d_is_flag) rfl
  obtain ⟨fd_by_repr, F_by_repr⟩ : ∃ fd, FnP K "by_repr" "by_repr" s_by_repr (He.ga K "by_repr") fd := c.def_ 17 (d := d_by_repr) rfl
  obtain ⟨fd_is_plain, F_is_plain⟩ : ∃ fd, FnP K "is_plain" "is_plain" s_is_plain (He.ga K "is_plain") fd := c.def_ 18 (d := d_is_plain) rfl
  obtain ⟨fd_is_plain_within, F_is_plain_within⟩ : ∃ fd, FnP K "is_plain_within" "is_plain_within" s_is_plain_within (He.ga K "is_plain_within") fd := c.def_ 19 (d := d_is_plain_within) rfl
  obtain ⟨fd_Both___init, F_Both___init⟩ : ∃ fd, FnP K "__init__" "Both.__init__" s_Both___init (He.ma K (He.ga K "Both") "__init__") fd := c.def_ 20 (d := d_Both___init) rfl
  obtain ⟨fd_Coarse___init, F_Coarse___init⟩ : ∃ fd, FnP K "__init__" "Coarse.__init__" s_Coarse___init (He.ma K (He.ga K "Coarse") "__init__") fd := c.def_ 21 (d := d_Coarse___init) rfl
  obtain ⟨fd_Counted___init, F_Counted___init⟩ : ∃ fd, FunD K "__init__" "Counted.__init__" (defArgs s_Counted___init) (defBody s_Counted___init) (defScope s_Counted___init) [(He.Dv.v K (.int 2 : He.Dv))] [] (He.ma K (He.ga K "Counted") "__init__") fd := c.def_ 22 (d := d_Counted___init) rfl
  obtain ⟨fd_Counted___call, F_Counted___call⟩ : ∃ fd, FunD K "__call__" "Counted.__call__" (defArgs s_Counted___call) (defBody s_Counted___call) (defScope s_Counted___call) [(He.Dv.v K (.non : He.Dv))] [] (He.ma K (He.ga K "Counted") "__call__") fd := c.def_ 23 (d := d_Counted___call) rfl
  obtain ⟨fd_Counted_clear, F_Counted_clear⟩ : ∃ fd, FnP K "clear" "Counted.clear" s_Counted_clear (He.ma K (He.ga K "Counted") "clear") fd := c.def_ 24 (d := d_Counted_clear) rfl
  obtain ⟨fd_Filling___init, F_Filling___init⟩ : ∃ fd, FnP K "__init__" "Filling.__init__" s_Filling___init (He.ma K (He.ga K "Filling") "__init__") fd := c.def_ 25 (d := d_Filling___init) rfl
  obtain ⟨fd_Grid___init, F_Grid___init⟩ : ∃ fd, FunD K "__init__" "Grid.__init__" (defArgs s_Grid___init) (defBody s_Grid___init) (defScope s_Grid___init) [(He.Dv.v K (.bl false : He.Dv))] [] (He.ma K (He.ga K "Grid") "__init__") fd := c.def_ 26 (d := d_Grid___init) rfl
  obtain ⟨fd_Grid___getitem, F_Grid___getitem⟩ : ∃ fd, FnP K "__getitem__" "Grid.__getitem__" s_Grid___getitem (He.ma K (He.ga K "Grid") "__getitem__") fd := c.def_ 27 (d := d_Grid___getitem) rfl
  obtain ⟨fd_Grid___setitem, F_Grid___setitem⟩ : ∃ fd, FnP K "__setitem__" "Grid.__setitem__" s_Grid___setitem (He.ma K (He.ga K "Grid") "__setitem__") fd := c.def_ 28 (d := d_Grid___setitem) rfl
  obtain ⟨fd_Grid___call, F_Grid___call⟩ : ∃ fd, FnP K "__call__" "Grid.__call__" s_Grid___call (He.ma K (He.ga K "Grid") "__call__") fd := c.def_ 29 (d := d_Grid___call) rfl
  obtain ⟨fd_Grid___invert, F_Grid___invert⟩ : ∃ fd, FnP K "__invert__" "Grid.__invert__" s_Grid___invert (He.ma K (He.ga K "Grid") "__invert__") fd := c.def_ 30 (d := d_Grid___invert) rfl
  obtain ⟨fd_Grid_has_value, F_Grid_has_value⟩ : ∃ fd, FnP K "has_value" "Grid.has_value" s_Grid_has_value (He.ma K (He.ga K "Grid") "has_value") fd := c.def_ 31 (d := d_Grid_has_value) rfl
  obtain ⟨fd_checked_place, F_checked_place⟩ : ∃ fd, FnP K "checked_place" "checked_place" s_checked_place (He.ga K "checked_place") fd := c.def_ 32 (d := d_checked_place) rfl
  obtain ⟨fd_Boxes___init, F_Boxes___init⟩ : ∃ fd, FunD K "__init__" "Boxes.__init__" (defArgs s_Boxes___init) (defBody s_Boxes___init) (defScope s_Boxes___init) [(He.Dv.v K (.int 2 : He.Dv))] [] (He.ma K (He.ga K "Boxes") "__init__") fd := c.def_ 33 (d := d_Boxes___init) rfl
  obtain ⟨fd_Signs___init, F_Signs___init⟩ : ∃ fd, FunD K "__init__" "Signs.__init__" (defArgs s_Signs___init) (defBody s_Signs___init) (defScope s_Signs___init) [(He.Dv.v K (.int 8 : He.Dv))] [] (He.ma K (He.ga K "Signs") "__init__") fd := c.def_ 34 (d := d_Signs___init) rfl
  obtain ⟨fd_law_well, F_law_well⟩ : ∃ fd, FnP K "_law_well" "_law_well" s_law_well (He.ga K "_law_well") fd := c.def_ 35 (d := d_law_well) rfl
  obtain ⟨fd_law_draw, F_law_draw⟩ : ∃ fd, FnP K "_law_draw" "_law_draw" s_law_draw (He.ga K "_law_draw") fd := c.def_ 36 (d := d_law_draw) rfl
  obtain ⟨fd_law_name_of, F_law_name_of⟩ : ∃ fd, FnP K "_law_name_of" "_law_name_of" s_law_name_of (He.ga K "_law_name_of") fd := c.def_ 37 (d := d_law_name_of) rfl
  obtain ⟨fd_law_halves, F_law_halves⟩ : ∃ fd, FnP K "_law_halves" "_law_halves" s_law_halves (He.ga K "_law_halves") fd := c.def_ 38 (d := d_law_halves) rfl
  obtain ⟨fd_law_bare_right, F_law_bare_right⟩ : ∃ fd, FnP K "_law_bare_right" "_law_bare_right" s_law_bare_right (He.ga K "_law_bare_right") fd := c.def_ 39 (d := d_law_bare_right) rfl
  obtain ⟨fd_law_calls_right, F_law_calls_right⟩ : ∃ fd, FnP K "_law_calls_right" "_law_calls_right" s_law_calls_right (He.ga K "_law_calls_right") fd := c.def_ 40 (d := d_law_calls_right) rfl
  obtain ⟨fd_law_grids_right, F_law_grids_right⟩ : ∃ fd, FnP K "_law_grids_right" "_law_grids_right" s_law_grids_right (He.ga K "_law_grids_right") fd := c.def_ 41 (d := d_law_grids_right) rfl
  obtain ⟨fd_law_counted_right, F_law_counted_right⟩ : ∃ fd, FnP K "_law_counted_right" "_law_counted_right" s_law_counted_right (He.ga K "_law_counted_right") fd := c.def_ 42 (d := d_law_counted_right) rfl
  obtain ⟨fd_law_classes_right, F_law_classes_right⟩ : ∃ fd, FnP K "_law_classes_right" "_law_classes_right" s_law_classes_right (He.ga K "_law_classes_right") fd := c.def_ 43 (d := d_law_classes_right) rfl
  obtain ⟨fd_law, F_law⟩ : ∃ fd, FnP K "law" "law" s_law (He.ga K "law") fd := c.def_ 44 (d := d_law) rfl
  have e := hfa.symm.trans (glo X G c (x := "law") (List.mem_of_getElem? (i := 15) rfl))
  cases e
  have b := FunD.bindsA (ps := ["_law_script"]) F_law fun _ _ _ _ _ _ us hl => match us, hl with | [_], _ => rfl
  refine ⟨fd_law, fun s v => b s [v] rfl, fun base _ _ tb => ?_⟩
  have m_int := fre X G c (List.mem_of_getElem? (i := 75) rfl)
  have m_len := fre X G c (List.mem_of_getElem? (i := 76) rfl)
  have m_range := fre X G c (List.mem_of_getElem? (i := 77) rfl)
  have m_list := fre X G c (List.mem_of_getElem? (i := 78) rfl)
  have m_tuple := fre X G c (List.mem_of_getElem? (i := 79) rfl)
  have m_str := fre X G c (List.mem_of_getElem? (i := 80) rfl)
  have m_bool := fre X G c (List.mem_of_getElem? (i := 81) rfl)
  have m_isinstance := fre X G c (List.mem_of_getElem? (i := 82) rfl)
  have m_sorted := fre X G c (List.mem_of_getElem? (i := 83) rfl)
  have m_repr := fre X G c (List.mem_of_getElem? (i := 84) rfl)
  have m_super := fre X G c (List.mem_of_getElem? (i := 85) rfl)
  have m_N := glo X G c (x := "NotGiven") (List.mem_of_getElem? (i := 73) rfl)
  have m_BV := glo X G c (x := "BadValue") (List.mem_of_getElem? (i := 74) rfl)
  obtain ⟨td, hD⟩ := He.int_ok X G (c.facts (List.mem_of_getElem? (i := 86) rfl))
  have hM : ∃ t, mg "MOST_BITS" = some (.int 60 t) := He.int_ok X G (c.facts (List.mem_of_getElem? (i := 87) rfl))
  have hX : ∃ t, mg "MOST_DIMENSIONS" = some (.int 6 t) := He.int_ok X G (c.facts (List.mem_of_getElem? (i := 88) rfl))
  have clKind := He.cls_ok (c.facts (List.mem_of_getElem? (i := 17) rfl))
  have clMeasured := He.cls_ok (c.facts (List.mem_of_getElem? (i := 25) rfl))
  have clCalls := He.cls_ok (c.facts (List.mem_of_getElem? (i := 29) rfl))
  have clCounted := He.cls_ok (c.facts (List.mem_of_getElem? (i := 40) rfl))
  have clGrid := He.cls_ok (c.facts (List.mem_of_getElem? (i := 45) rfl))
  have clFilling := He.cls_ok (c.facts (List.mem_of_getElem? (i := 53) rfl))
  have clBoth := He.cls_ok (c.facts (List.mem_of_getElem? (i := 56) rfl))
  have clCoarse := He.cls_ok (c.facts (List.mem_of_getElem? (i := 59) rfl))
  have clBoxes := He.cls_ok (c.facts (List.mem_of_getElem? (i := 62) rfl))
  have clSigns := He.cls_ok (c.facts (List.mem_of_getElem? (i := 65) rfl))
  have clRanges := He.cls_ok (c.facts (List.mem_of_getElem? (i := 68) rfl))
  have clRests := He.cls_ok (c.facts (List.mem_of_getElem? (i := 70) rfl))
  have clStems := He.cls_ok (c.facts (List.mem_of_getElem? (i := 72) rfl))
  have bc : BC K (He.ga K "Both") := ⟨clBoth, He.noat_ok (c.facts (List.mem_of_getElem? (i := 112) rfl)), He.noat_ok (c.facts (List.mem_of_getElem? (i := 113) rfl))⟩
  have cc : CC K (He.ga K "Coarse") := ⟨clCoarse, He.noat_ok (c.facts (List.mem_of_getElem? (i := 114) rfl)), He.noat_ok (c.facts (List.mem_of_getElem? (i := 115) rfl))⟩
  have nc : NC K (He.ga K "Counted") := ⟨clCounted, He.noat_ok (c.facts (List.mem_of_getElem? (i := 105) rfl)), He.noat_ok (c.facts (List.mem_of_getElem? (i := 106) rfl)), He.noat_ok (c.facts (List.mem_of_getElem? (i := 107) rfl))⟩
  have gc : GCls K (He.ga K "Grid") := ⟨clGrid, He.noat_ok (c.facts (List.mem_of_getElem? (i := 108) rfl)), He.noat_ok (c.facts (List.mem_of_getElem? (i := 109) rfl))⟩
  have gF : GCls K (He.ga K "Filling") := ⟨clFilling, He.noat_ok (c.facts (List.mem_of_getElem? (i := 110) rfl)), He.noat_ok (c.facts (List.mem_of_getElem? (i := 111) rfl))⟩
  have kc : KC K (He.ga K "Calls") := ⟨clCalls, fun x hx => by
    simp only [kNames, List.mem_cons, List.not_mem_nil, or_false] at hx
    rcases hx with rfl | rfl | rfl | rfl | rfl | rfl | rfl | rfl
    · exact He.noat_ok (c.facts (List.mem_of_getElem? (i := 97) rfl))
    · exact He.noat_ok (c.facts (List.mem_of_getElem? (i := 98) rfl))
    · exact He.noat_ok (c.facts (List.mem_of_getElem? (i := 99) rfl))
    · exact He.noat_ok (c.facts (List.mem_of_getElem? (i := 100) rfl))
    · exact He.noat_ok (c.facts (List.mem_of_getElem? (i := 101) rfl))
    · exact He.noat_ok (c.facts (List.mem_of_getElem? (i := 102) rfl))
    · exact He.noat_ok (c.facts (List.mem_of_getElem? (i := 103) rfl))
    · exact He.noat_ok (c.facts (List.mem_of_getElem? (i := 104) rfl))⟩
  have nbS := He.noat_ok (c.facts (List.mem_of_getElem? (i := 117) rfl))
  have nbX := He.noat_ok (c.facts (List.mem_of_getElem? (i := 116) rfl))
  have fk := geqB_ok clFilling (exi m 30 rfl)
  have kF := notB_ok (exi m 31 rfl)
  have O_get := ownB_ok (exi m 32 rfl)
  have O_set := ownB_ok (exi m 33 rfl)
  have O_cal := ownB_call (exi m 34 rfl)
  have O_inv := ownB_ok (exi m 35 rfl)
  have nq : PySem.W.noSeq K (He.ga K "Grid") = true := (exi m 36 rfl)
  have m_G := glo X G c (x := "Grid") (List.mem_of_getElem? (i := 44) rfl)
  have m_F := glo X G c (x := "Filling") (List.mem_of_getElem? (i := 52) rfl)
  have tb0 := tb _ (List.mem_map.mpr ⟨("by_repr", none), by decide, rfl⟩)
  have tb1 := tb _ (List.mem_map.mpr ⟨("_law_bare_right", none), by decide, rfl⟩)
  have tb2 := tb _ (List.mem_map.mpr ⟨("_law_calls_right", none), by decide, rfl⟩)
  have tb3 := tb _ (List.mem_map.mpr ⟨("_law_grids_right", none), by decide, rfl⟩)
  have tb4 := tb _ (List.mem_map.mpr ⟨("_law_counted_right", none), by decide, rfl⟩)
  have tb5 := tb _ (List.mem_map.mpr ⟨("_law_classes_right", none), by decide, rfl⟩)
  have CWl : Cal P w K mg base CX0 "_law_well" 22 ["_law_cell"] spWell := (cal X G c F_law_well (List.mem_of_getElem? (i := 6) rfl) ((ok_well (k := 0) F_law_well m_int).mono (by omega)) fun _ _ _ _ _ _ us hl => match us, hl with | [_], _ => rfl)
  have CDr : Cal P w K mg base CX0 "_law_draw" 1 ["_law_well_here", "_law_many"] spDraw := (cal X G c F_law_draw (List.mem_of_getElem? (i := 7) rfl) (ok_draw F_law_draw m_int) fun _ _ _ _ _ _ us hl => match us, hl with | [_, _], _ => rfl)
  have CHa : Cal P w K mg base CX0 "_law_halves" 1 ["_law_count"] spHv := (cal X G c F_law_halves (List.mem_of_getElem? (i := 9) rfl) (ok_halves F_law_halves m_range m_int) fun _ _ _ _ _ _ us hl => match us, hl with | [_], _ => rfl)
  have CIn : Cal P w K mg base CX0 "is_int" 1 ["thing"] (spInt K) := (cal X G c F_is_int (List.mem_of_getElem? (i := 0) rfl) (ok_int F_is_int m_isinstance m_int m_bool) fun _ _ _ _ _ _ us hl => match us, hl with | [_], _ => rfl)
  have CFl : Cal P w K mg base CX0 "is_flag" 7 ["thing"] (spFlag K) := (cal X G c F_is_flag (List.mem_of_getElem? (i := 1) rfl) ((ok_flag (k := 0) F_is_flag m_isinstance m_bool).mono (by omega)) fun _ _ _ _ _ _ us hl => match us, hl with | [_], _ => rfl)
  have CPw : Cal P w K mg base CX0 "is_plain_within" 6 ["thing", "deepest"] (spW K 5) := (cal X G c F_is_plain_within (List.mem_of_getElem? (i := 4) rfl) (ok_within F_is_plain_within m_isinstance m_str m_tuple m_len CIn (F_is_plain_within.bindsN (ps := ["thing", "deepest"]) fun _ _ _ _ _ _ us hl => match us, hl with | [_, _], _ => rfl) (glo X G c (List.mem_of_getElem? (i := 4) rfl)) F_is_plain_within.kp 5) fun _ _ _ _ _ _ us hl => match us, hl with | [_, _], _ => rfl)
  have CPl : Cal P w K mg base CX0 "is_plain" 7 ["thing"] (spPlain K) := (cal X G c F_is_plain (List.mem_of_getElem? (i := 3) rfl) (ok_plain F_is_plain hD CPw) fun _ _ _ _ _ _ us hl => match us, hl with | [_], _ => rfl)
  have CCh : Cal P w K mg base CX0 "checked_place" 8 ["thing"] spChk := (cal X G c F_checked_place (List.mem_of_getElem? (i := 5) rfl) (ok_chk F_checked_place m_isinstance m_tuple m_len CPl) fun _ _ _ _ _ _ us hl => match us, hl with | [_], _ => rfl)
  -- errors
  have GNG := ok_NG (P := P) (w := w) (mg := mg) (base := base) (k := 0) F_NotGiven___init EN.ox EN.no
  have bNG := F_NotGiven___init.bindsN (ps := ["self", "name"]) fun _ _ _ _ _ _ us hl => match us, hl with | [_, _], _ => rfl
  have ER : Er P w K mg base (He.ga K "NotGiven") (He.ma K (He.ga K "NotGiven") "__init__") fd_NotGiven___init := ⟨m_N, EN.ox, EN.iC, EN.tI, GNG, bNG⟩
  have NF : NgF K mg (He.ga K "NotGiven") := ⟨m_N, EN.xf, EN.no, EN.te⟩
  have GBV := ok_err (P := P) (w := w) (mg := mg) (base := base) (k := 0) F_BadValue___init EB.ox EB.no
  have bBV := F_BadValue___init.bindsN (ps := ["self", "value"]) fun _ _ _ _ _ _ us hl => match us, hl with | [_, _], _ => rfl
  have ERB : ErB P w K mg base (He.ga K "BadValue") (He.ma K (He.ga K "BadValue") "__init__") fd_BadValue___init := ⟨m_BV, EB.ox, EB.iC, EB.tI, GBV, bBV⟩
  have RN : Tells K mg "_law_name_of" "_law_ask" s_law_name_of := tells_of F_law_name_of (glo X G c (List.mem_of_getElem? (i := 8) rfl)) (F_law_name_of.bindsN fun _ _ _ _ _ _ us hl => match us, hl with | [_], _ => rfl)
  -- Kind, Measured
  have BK : BareK P w K mg base (He.ga K "Kind") (He.ga K "Measured") (He.ga K "NotGiven") := ⟨glo X G c (x := "Kind") (List.mem_of_getElem? (i := 16) rfl), glo X G c (x := "Measured") (List.mem_of_getElem? (i := 24) rfl), mkoB_ok (exi m 42 rfl), mkoB_ok (exi m 43 rfl), clKind, clMeasured,
    ⟨_, _, ok_Kindown (k := 7) (by omega) F_Kind_own ER, F_Kind_own.bindsN (fun _ _ _ _ _ _ us hl => match us, hl with | [_, _], _ => rfl), He.meth_ok (c.facts (List.mem_of_getElem? (i := 18) rfl))⟩,
    ⟨_, _, ok_Kindjoin (k := 7) (by omega) F_Kind_join ER, F_Kind_join.bindsN (fun _ _ _ _ _ _ us hl => match us, hl with | [_, _, _], _ => rfl), He.meth_ok (c.facts (List.mem_of_getElem? (i := 19) rfl))⟩,
    ⟨_, _, ok_Kindconsistent (k := 7) (by omega) F_Kind_consistent ER, F_Kind_consistent.bindsN (fun _ _ _ _ _ _ us hl => match us, hl with | [_, _, _], _ => rfl), He.meth_ok (c.facts (List.mem_of_getElem? (i := 20) rfl))⟩,
    ⟨_, _, ok_Kindmatches (k := 7) (by omega) F_Kind_matches ER, F_Kind_matches.bindsN (fun _ _ _ _ _ _ us hl => match us, hl with | [_, _, _], _ => rfl), He.meth_ok (c.facts (List.mem_of_getElem? (i := 21) rfl))⟩,
    (calm c F_Kind_penalty (List.mem_of_getElem? (i := 22) rfl) (ok_Kindpenalty (k := 7) F_Kind_penalty) fun _ _ _ _ _ _ us hl => match us, hl with | [_, _, _], _ => rfl),
    (calm c F_Kind_sides (List.mem_of_getElem? (i := 23) rfl) (ok_kind (k := 7) F_Kind_sides m_len) fun _ _ _ _ _ _ us hl => match us, hl with | [_, _], _ => rfl),
    ⟨_, _, ok_Measureddistance (k := 7) (by omega) F_Measured_distance ER, F_Measured_distance.bindsN (fun _ _ _ _ _ _ us hl => match us, hl with | [_, _, _], _ => rfl), He.meth_ok (c.facts (List.mem_of_getElem? (i := 26) rfl))⟩,
    ⟨_, _, ok_Measuredbound (k := 7) (by omega) F_Measured_bound ER, F_Measured_bound.bindsN (fun _ _ _ _ _ _ us hl => match us, hl with | [_, _, _], _ => rfl), He.meth_ok (c.facts (List.mem_of_getElem? (i := 27) rfl))⟩⟩
  -- Calls
  obtain ⟨F0, fd0, Z0, p0, bo0, sc0, _, _⟩ := c0
  obtain ⟨F1, fd1, Z1, p1, bo1, sc1, _, _⟩ := c1
  obtain ⟨F2, fd2, Z2, p2, bo2, sc2, _, _⟩ := c2
  obtain ⟨F3, fd3, Z3, p3, bo3, sc3, _, _⟩ := c3
  have CK : ∀ g : List Value → List Value → List Value, CallsK P w K mg base (He.ga K "Calls") (He.ga K "NotGiven") (He.ma K (He.ga K "Calls") "__init__") fd_Calls___init g := fun _ => ⟨He.mkr_ok (c.facts (List.mem_of_getElem? (i := 91) rfl)), ok_Kinit (k := 1) F_Calls___init kc, glo X G c (x := "Calls") (List.mem_of_getElem? (i := 28) rfl), kc,
    (calm c F_Calls_own (List.mem_of_getElem? (i := 31) rfl) (ok_Kown (k := 14) (by omega) F_Calls_own kc) fun _ _ _ _ _ _ us hl => match us, hl with | [_, _], _ => rfl),
    (calm c F_Calls_join (List.mem_of_getElem? (i := 32) rfl) (ok_Kjoin (k := 14) (by omega) F_Calls_join kc) fun _ _ _ _ _ _ us hl => match us, hl with | [_, _, _], _ => rfl),
    (calm c F_Calls_consistent (List.mem_of_getElem? (i := 33) rfl) (ok_Kconsistent (k := 14) (by omega) F_Calls_consistent kc) fun _ _ _ _ _ _ us hl => match us, hl with | [_, _, _], _ => rfl),
    (calm c F_Calls_matches (List.mem_of_getElem? (i := 34) rfl) (ok_Kmatches (k := 14) (by omega) F_Calls_matches kc) fun _ _ _ _ _ _ us hl => match us, hl with | [_, _, _], _ => rfl),
    ⟨_, _, ok_Kpenalty (k := 14) (by omega) Z0 p0 bo0 sc0 kc (exi m 44 rfl) O m_super (ok_Kindpenalty (k := 13) F_Kind_penalty) (F_Kind_penalty.bindsN (fun _ _ _ _ _ _ us hl => match us, hl with | [_, _, _], _ => rfl)), Z0.bindsN p0 (fun _ _ _ _ _ _ _ _ _ us hl => match us, hl with | [_, _, _], _ => rfl), He.meth_ok (c.facts (List.mem_of_getElem? (i := 35) rfl))⟩,
    ⟨_, _, ok_Ksides (k := 14) (by omega) Z1 p1 bo1 sc1 kc (exi m 45 rfl) O m_super (ok_kind (k := 13) F_Kind_sides m_len) (F_Kind_sides.bindsN (fun _ _ _ _ _ _ us hl => match us, hl with | [_, _], _ => rfl)), Z1.bindsN p1 (fun _ _ _ _ _ _ _ _ _ us hl => match us, hl with | [_, _], _ => rfl), He.meth_ok (c.facts (List.mem_of_getElem? (i := 36) rfl))⟩,
    ⟨_, _, ok_Kdistance (k := 14) (by omega) Z2 p2 bo2 sc2 kc (exi m 46 rfl) O m_super (ok_Measureddistance (k := 13) (by omega) F_Measured_distance ER) (F_Measured_distance.bindsN (fun _ _ _ _ _ _ us hl => match us, hl with | [_, _, _], _ => rfl)), Z2.bindsN p2 (fun _ _ _ _ _ _ _ _ _ us hl => match us, hl with | [_, _, _], _ => rfl), He.meth_ok (c.facts (List.mem_of_getElem? (i := 37) rfl))⟩,
    ⟨_, _, ok_Kbound (k := 14) (by omega) Z3 p3 bo3 sc3 kc (exi m 47 rfl) O m_super (ok_Measuredbound (k := 13) (by omega) F_Measured_bound ER) (F_Measured_bound.bindsN (fun _ _ _ _ _ _ us hl => match us, hl with | [_, _, _], _ => rfl)), Z3.bindsN p3 (fun _ _ _ _ _ _ _ _ _ us hl => match us, hl with | [_, _, _], _ => rfl), He.meth_ok (c.facts (List.mem_of_getElem? (i := 38) rfl))⟩⟩
  obtain ⟨mv4, kb4⟩ := FunD.kbinds0 (ps := ["self", "own", "join", "consistent", "matches", "penalty", "sides", "distance", "bound"]) F_Calls___init 1 ["own", "join", "consistent", "matches"] [(("penalty" : Str), V.non), (("sides" : Str), V.non), (("distance" : Str), V.non), (("bound" : Str), V.non)]
    (fun us mv ws => us ++ ws ++ mv) (by simp) (fun q hq => hq) (fun r1 r2 r3 => (r1.append r3).append r2) (by
    intro D doc pm an cdv ct us mv ws h1 h2 h3
    match us, mv, ws, h1, h2, h3 with
    | [_], [_, _, _, _], [_, _, _, _], _, _, _ => exact ⟨_, _, _, _, _, _, rfl, rfl, _, _, _, _, _, _, rfl, rfl, _, _, _, _, _, _, rfl, rfl, _, _, _, _, _, _, rfl, rfl, rfl⟩)
  obtain ⟨mv8, kb8⟩ := FunD.kbinds0 (ps := ["self", "own", "join", "consistent", "matches", "penalty", "sides", "distance", "bound"]) F_Calls___init 1 ["own", "join", "matches", "consistent", "penalty", "sides", "distance", "bound"] []
    (fun us _ zs => g8 us zs) (by simp) (fun q hq => by cases hq) (fun {vs mz zs us mv ws} r1 r2 r3 => by
      match zs, ws, r3 with
      | [], [], _ => exact r1
      | [_], [_], _ => exact r1
      | [_, _], [_, _], _ => exact r1
      | [_, _, _], [_, _, _], _ => exact r1
      | [_, _, _, _], [_, _, _, _], _ => exact r1
      | [_, _, _, _, _], [_, _, _, _, _], _ => exact r1
      | [_, _, _, _, _, _], [_, _, _, _, _, _], _ => exact r1
      | [_, _, _, _, _, _, _], [_, _, _, _, _, _, _], _ => exact r1
      | [_, _, _, _, _, _, _, _], [_, _, _, _, _, _, _, _], .cons q0 (.cons q1 (.cons q2 (.cons q3 (.cons q4 (.cons q5 (.cons q6 (.cons q7 .nil))))))) => exact r1.append (.cons q0 (.cons q1 (.cons q3 (.cons q2 (.cons q4 (.cons q5 (.cons q6 (.cons q7 .nil))))))))
      | _ :: _ :: _ :: _ :: _ :: _ :: _ :: _ :: _ :: _, _ :: _ :: _ :: _ :: _ :: _ :: _ :: _ :: _ :: _, _ => exact r1) (by
    intro D doc pm an cdv ct us mv ws h1 h2 h3
    match us, mv, ws, h1, h2, h3 with
    | [_], [], [_, _, _, _, _, _, _, _], _, _, _ => exact rfl)
  -- Counted
  obtain ⟨dNs, rN, bN1⟩ := FunD.binds1 (ps := ["self", "function", "arguments"]) F_Counted___init 2 0 (by simp) (by simp) (by
    intro T kV doc pm an cdv ct us its h1 h2
    match us, its, h1, h2 with
    | [_, _], [_], _, _ => exact ⟨_, rfl, rfl⟩)
  obtain ⟨dN, rfl⟩ : ∃ dv, dNs = [dv] := by
    match dNs, rN with
    | [dv], _ => exact ⟨dv, rfl⟩
  obtain ⟨dN0, rN0, bN⟩ := FunD.binds1 (ps := ["self", "function", "arguments"]) F_Counted___init 3 1 (by simp) (by simp) (by
    intro T kV doc pm an cdv ct us its h1 h2
    match us, its, h1, h2 with
    | [_, _, _], [_], _, _ => exact ⟨_, rfl, rfl⟩)
  cases rN0
  obtain ⟨dCs, rC, bC1⟩ := FunD.binds1 (ps := ["self", "one", "other"]) F_Counted___call 2 0 (by simp) (by simp) (by
    intro T kV doc pm an cdv ct us its h1 h2
    match us, its, h1, h2 with
    | [_, _], [_], _, _ => exact ⟨_, rfl, rfl⟩)
  obtain ⟨dC, rfl⟩ : ∃ dv, dCs = [dv] := by
    match dCs, rC with
    | [dv], _ => exact ⟨dv, rfl⟩
  obtain ⟨dC0, rC0, bC⟩ := FunD.binds1 (ps := ["self", "one", "other"]) F_Counted___call 3 1 (by simp) (by simp) (by
    intro T kV doc pm an cdv ct us its h1 h2
    match us, its, h1, h2 with
    | [_, _, _], [_], _, _ => exact ⟨_, rfl, rfl⟩)
  cases rC0
  obtain ⟨itN, kbN⟩ := FunD.kbindsD (ps := ["self", "function", "arguments"]) F_Counted___init 1 ["function", "arguments"] (fun us _ ws => us ++ ws) (by simp) (fun r1 _ r3 => r1.append r3) (by
    intro T kV doc pm an cdv ct us its ws h1 h2 h3
    match us, its, ws, h1, h2, h3 with
    | [_], [_], [_, _], _, _, _ => exact ⟨_, rfl, rfl⟩)
  have GCa := ok_Ncall (P := P) (w := w) (mg := mg) (base := base) (k := 12) (by omega) F_Counted___call nc
  have NK : CountK P w K mg base (He.ga K "Counted") (He.ga K "BadValue") (He.ma K (He.ga K "Counted") "__init__") (He.ma K (He.ga K "Counted") "__call__") fd_Counted___init dN := ⟨He.mkr_ok (c.facts (List.mem_of_getElem? (i := 92) rfl)), ok_Ninit (k := 3) (by omega) F_Counted___init nc ERB CIn, glo X G c (x := "Counted") (List.mem_of_getElem? (i := 39) rfl), bN, bN1, rN, nc, ownB_call (exi m 37 rfl), SU.fnR_of GCa bC,
    (FnOk.raw GCa bC1 rC).imp fun vs H Q E h => h.2⟩
  obtain ⟨p_c, q_c, fd_c, pr_c, G_c, b_c⟩ := PR.propB_ok (P := P) (w := w) (mg := mg) (base := base) (CX := CX0) (exi m 38 rfl) clCounted nc.n3
  have G_c' : FnOk P w K mg base CX0 1 q_c fd_c ["self"] (spNCalls (He.ga K "Counted")) := G_c.imp fun vs H Q E h => by
    obtain ⟨b, dx, f, ar, n, rfl, h1, h2⟩ := h
    exact ⟨b, dx, _, .int n, rfl, h1, rfl, h2⟩
  have G_cl := ok_Nclear (P := P) (w := w) (mg := mg) (base := base) (k := 0) F_Counted_clear nc
  have b_cl := F_Counted_clear.bindsN (ps := ["self"]) (fun _ _ _ _ _ _ us hl => match us, hl with | [_], _ => rfl)
  -- Grid
  obtain ⟨dGs, rG, bG1⟩ := FunD.binds1 (ps := ["self", "default"]) F_Grid___init 1 0 (by simp) (by simp) (by
    intro T kV doc pm an cdv ct us its h1 h2
    match us, its, h1, h2 with
    | [_], [_], _, _ => exact ⟨_, rfl, rfl⟩)
  obtain ⟨dG, rfl⟩ : ∃ dv, dGs = [dv] := by
    match dGs, rG with
    | [dv], _ => exact ⟨dv, rfl⟩
  obtain ⟨dG0, rG0, bG⟩ := FunD.binds1 (ps := ["self", "default"]) F_Grid___init 2 1 (by simp) (by simp) (by
    intro T kV doc pm an cdv ct us its h1 h2
    match us, its, h1, h2 with
    | [_, _], [_], _, _ => exact ⟨_, rfl, rfl⟩)
  cases rG0
  have GI := ok_ginit (P := P) (w := w) (base := base) (k := 6) F_Grid___init m_isinstance m_F kF gc CFl CPl
  have GIF := ok_ginitF (P := P) (w := w) (base := base) (k := 6) F_Grid___init m_isinstance m_F fk gF gc CFl CPl
  have GFi := ok_fill (P := P) (w := w) (mg := mg) (base := base) (k := 8) F_Filling___init gF
  have bFi := F_Filling___init.bindsN (ps := ["self", "default", "places"]) fun _ _ _ _ _ _ us hl => match us, hl with | [_, _, _], _ => rfl
  have RG := raw0 (ok_get (P := P) (w := w) (base := base) F_Grid___getitem gc CCh) (F_Grid___getitem.bindsN (ps := ["self", "at"]) fun _ _ _ _ _ _ us hl => match us, hl with | [_, _], _ => rfl)
  have DH : CalM P w K mg base CX0 (He.ga K "Grid") "has_value" 8 ["self", "thing"] (spHas (He.ga K "Grid")) := (calm c F_Grid_has_value (List.mem_of_getElem? (i := 51) rfl) (ok_has F_Grid_has_value gc CFl CPl) fun _ _ _ _ _ _ us hl => match us, hl with | [_, _], _ => rfl)
  have RS := raw0 (ok_set (P := P) (w := w) (base := base) F_Grid___setitem gc CCh DH) (F_Grid___setitem.bindsN (ps := ["self", "at", "worth"]) fun _ _ _ _ _ _ us hl => match us, hl with | [_, _, _], _ => rfl)
  have RC := raw0 (ok_callG (P := P) (w := w) (base := base) F_Grid___call O_get RG) (F_Grid___call.bindsN (ps := ["self", "one", "other"]) fun _ _ _ _ _ _ us hl => match us, hl with | [_, _, _], _ => rfl)
  have M_G := He.mkr_ok (c.facts (List.mem_of_getElem? (i := 89) rfl))
  have M_F := He.mkr_ok (c.facts (List.mem_of_getElem? (i := 90) rfl))
  have CBy : GD.CalG P w K mg base CX0 "by_repr" 9 ["things"] (spByR K) := ⟨_, _, (ok_byr (k := 0) F_by_repr tb0 ds m_sorted m_repr).mono (by omega), F_by_repr.bindsN fun _ _ _ _ _ _ us hl => match us, hl with | [_], _ => rfl, glo X G c (List.mem_of_getElem? (i := 2) rfl), F_by_repr.kp⟩
  have GV := ok_inv (k := 9) F_Grid___invert gc m_list m_G M_G (GIF.mono (by omega)) bG m_F M_F GFi bFi CBy
  have bV := F_Grid___invert.bindsN (ps := ["self"]) fun _ _ _ _ _ _ us hl => match us, hl with | [_], _ => rfl
  have GK : GridK P w K mg base (He.ga K "Grid") (He.ma K (He.ga K "Grid") "__init__") (He.ma K (He.ga K "Grid") "__setitem__") (He.ma K (He.ga K "Grid") "__call__") (He.ma K (He.ga K "Grid") "__invert__") fd_Grid___init fd_Grid___invert dG := ⟨M_G, GI, m_G, bG, bG1, rG, nq, O_set, RS.mono (by omega), O_cal, RC.mono (by omega), O_inv, GV.mono (by omega), bV⟩
  -- makers
  obtain ⟨dXs, rX, bX⟩ := FunD.binds1 (ps := ["self", "dimensions"]) F_Boxes___init 1 0 (by simp) (by simp) (by
    intro T kV doc pm an cdv ct us its h1 h2
    match us, its, h1, h2 with
    | [_], [_], _, _ => exact ⟨_, rfl, rfl⟩)
  obtain ⟨dX, rfl⟩ : ∃ dv, dXs = [dv] := by
    match dXs, rX with
    | [dv], _ => exact ⟨dv, rfl⟩
  obtain ⟨dSs, rS, bS⟩ := FunD.binds1 (ps := ["self", "width"]) F_Signs___init 1 0 (by simp) (by simp) (by
    intro T kV doc pm an cdv ct us its h1 h2
    match us, its, h1, h2 with
    | [_], [_], _, _ => exact ⟨_, rfl, rfl⟩)
  obtain ⟨dS, rfl⟩ : ∃ dv, dSs = [dv] := by
    match dSs, rS with
    | [dv], _ => exact ⟨dv, rfl⟩
  have MX : MakeD P w K mg base "Boxes" (He.ga K "Boxes") (He.ma K (He.ga K "Boxes") "__init__") fd_Boxes___init ["self", "dimensions"] (spXInit (He.ga K "Boxes")) 2 dX := ⟨He.mkr_ok (c.facts (List.mem_of_getElem? (i := 95) rfl)), ok_Xinit (k := 1) F_Boxes___init clBoxes nbX hX CIn, glo X G c (x := "Boxes") (List.mem_of_getElem? (i := 61) rfl), bX, rX⟩
  have MS : MakeD P w K mg base "Signs" (He.ga K "Signs") (He.ma K (He.ga K "Signs") "__init__") fd_Signs___init ["self", "width"] (spSInit (He.ga K "Signs")) 8 dS := ⟨He.mkr_ok (c.facts (List.mem_of_getElem? (i := 96) rfl)), ok_Sinit (k := 1) F_Signs___init clSigns nbS hM CIn, glo X G c (x := "Signs") (List.mem_of_getElem? (i := 64) rfl), bS, rS⟩
  have MKB : MakeM P w K mg base "Both" (He.ga K "Both") (He.ma K (He.ga K "Both") "__init__") fd_Both___init ["self", "one", "other"] (spBInit (He.ga K "Both")) := ⟨He.mkr_ok (c.facts (List.mem_of_getElem? (i := 93) rfl)), ok_Binit (k := 1) F_Both___init bc, glo X G c (x := "Both") (List.mem_of_getElem? (i := 55) rfl), F_Both___init.bindsN fun _ _ _ _ _ _ us hl => match us, hl with | [_, _, _], _ => rfl⟩
  have MKO : MakeM P w K mg base "Coarse" (He.ga K "Coarse") (He.ma K (He.ga K "Coarse") "__init__") fd_Coarse___init ["self", "kind", "squeeze"] (spCInit (He.ga K "Coarse")) := ⟨He.mkr_ok (c.facts (List.mem_of_getElem? (i := 94) rfl)), ok_Cinit (k := 1) F_Coarse___init cc, glo X G c (x := "Coarse") (List.mem_of_getElem? (i := 58) rfl), F_Coarse___init.bindsN fun _ _ _ _ _ _ us hl => match us, hl with | [_, _, _], _ => rfl⟩
  have hk_ : ∀ {x y : Str} {b : Bool}, kitB K x y b = true → PySem.W.kitOne K (.ref (He.ga K x)) (.ref (He.ga K y)) = some b := fun h => of_decide_eq_true h
  have kdRanges : KdF K (He.ga K "Kind") (He.ga K "Measured") (He.ga K "Ranges") true := ⟨insKB_ok clRanges (exi m 3 rfl), hk_ (exi m 12 rfl), hk_ (exi m 21 rfl)⟩
  have kdBoxes : KdF K (He.ga K "Kind") (He.ga K "Measured") (He.ga K "Boxes") true := ⟨insKB_ok clBoxes (exi m 4 rfl), hk_ (exi m 13 rfl), hk_ (exi m 22 rfl)⟩
  have kdBoth : KdF K (He.ga K "Kind") (He.ga K "Measured") (He.ga K "Both") true := ⟨insKB_ok clBoth (exi m 5 rfl), hk_ (exi m 14 rfl), hk_ (exi m 23 rfl)⟩
  have kdCoarse : KdF K (He.ga K "Kind") (He.ga K "Measured") (He.ga K "Coarse") true := ⟨insKB_ok clCoarse (exi m 6 rfl), hk_ (exi m 15 rfl), hk_ (exi m 24 rfl)⟩
  have kdRests : KdF K (He.ga K "Kind") (He.ga K "Measured") (He.ga K "Rests") false := ⟨insKB_ok clRests (exi m 7 rfl), hk_ (exi m 16 rfl), hk_ (exi m 25 rfl)⟩
  have kdStems : KdF K (He.ga K "Kind") (He.ga K "Measured") (He.ga K "Stems") false := ⟨insKB_ok clStems (exi m 8 rfl), hk_ (exi m 17 rfl), hk_ (exi m 26 rfl)⟩
  have kdSigns : KdF K (He.ga K "Kind") (He.ga K "Measured") (He.ga K "Signs") false := ⟨insKB_ok clSigns (exi m 9 rfl), hk_ (exi m 18 rfl), hk_ (exi m 27 rfl)⟩
  have kdCalls : KdF K (He.ga K "Kind") (He.ga K "Measured") (He.ga K "Calls") true := ⟨insKB_ok clCalls (exi m 10 rfl), hk_ (exi m 19 rfl), hk_ (exi m 28 rfl)⟩
  have kdKind : KdF K (He.ga K "Kind") (He.ga K "Measured") (He.ga K "Kind") false := ⟨insKB_ok clKind (exi m 11 rfl), hk_ (exi m 20 rfl), hk_ (exi m 29 rfl)⟩
  have CBa : Cal P w K mg base CX0 "_law_bare_right" 22 ["_law_well_here"] (spRight K) := ⟨_, _, (ok_bare (k := 0) F_law_bare_right tb1 ds m_list m_range RN NF BK (CK _) kb4 CDr CHa).mono (by omega), F_law_bare_right.bindsN (fun _ _ _ _ _ _ us hl => match us, hl with | [_], _ => rfl), glo X G c (List.mem_of_getElem? (i := 10) rfl), F_law_bare_right.kp⟩
  have CCa : Cal P w K mg base CX0 "_law_calls_right" 22 ["_law_well_here"] (spRight K) := ⟨_, _, (ok_calls (k := 0) F_law_calls_right tb2 ds m_list m_str m_int (CK _) kb8 CDr).mono (by omega), F_law_calls_right.bindsN (fun _ _ _ _ _ _ us hl => match us, hl with | [_], _ => rfl), glo X G c (List.mem_of_getElem? (i := 11) rfl), F_law_calls_right.kp⟩
  have CGr : GD.CalG P w K mg base CX0 "_law_grids_right" 22 ["_law_well_here"] (spRight K) := ⟨_, _, (ok_grids (k := 0) F_law_grids_right tb3 ds GK NK (CK _) ⟨p_c, q_c, fd_c, pr_c, G_c', b_c⟩ kb4 CDr).mono (by omega), F_law_grids_right.bindsN (fun _ _ _ _ _ _ us hl => match us, hl with | [_], _ => rfl), glo X G c (List.mem_of_getElem? (i := 12) rfl), F_law_grids_right.kp⟩
  have CCo : GD.CalG P w K mg base CX0 "_law_counted_right" 22 ["_law_well_here"] (spRight K) := ⟨_, _, (ok_counted (k := 0) F_law_counted_right tb4 ds m_range m_repr RN NF BK NK kbN pr_c G_c' b_c G_cl b_cl (He.meth_ok (c.facts (List.mem_of_getElem? (i := 43) rfl))) m_BV EB.xf EB.no EB.te CDr).mono (by omega), F_law_counted_right.bindsN (fun _ _ _ _ _ _ us hl => match us, hl with | [_], _ => rfl), glo X G c (List.mem_of_getElem? (i := 13) rfl), F_law_counted_right.kp⟩
  have CCl : Cal P w K mg base CX0 "_law_classes_right" 22 [] (spCl K) := ⟨_, _, (ok_classes (k := 0) F_law_classes_right tb5 ds m_isinstance BK (CK _) kb4 (mkoB_ok (exi m 39 rfl)) (glo X G c (x := "Ranges") (List.mem_of_getElem? (i := 67) rfl)) (mkoB_ok (exi m 40 rfl)) (glo X G c (x := "Rests") (List.mem_of_getElem? (i := 69) rfl)) (mkoB_ok (exi m 41 rfl)) (glo X G c (x := "Stems") (List.mem_of_getElem? (i := 71) rfl)) MX MS MKB MKO kdRanges kdBoxes kdBoth kdCoarse kdRests kdStems kdSigns kdCalls kdKind).mono (by omega), F_law_classes_right.bindsN (fun _ _ _ _ _ _ us hl => match us, hl with | [], _ => rfl), glo X G c (List.mem_of_getElem? (i := 14) rfl), F_law_classes_right.kp⟩
  exact ok_law (k := 22) F_law CWl CBa CCa CGr CCo CCl
end
end K10
open PySem PySem.W PySem.Calls PyProof.Rows
set_option maxRecDepth 100000 in
set_option maxHeartbeats 0 in
theorem PySem.Challenge.cw_kindgrove_k10_kinds_by_themselves_holds : PySem.Challenge.rw_kindgrove_k10_kinds_by_themselves.Holds := by
  w_on; o_law
  refine HandSHeadRun.head_any (r := OpenLaw.row PySem.Challenge.rw_kindgrove_k10_kinds_by_themselves) (q := view (OpenLaw.row PySem.Challenge.rw_kindgrove_k10_kinds_by_themselves).prog [68]) (H := K10.hk) (ob := K10.ob) (M := 12000) (loose := K10.loose) (d := HandSHeadRun.topDef (OpenLaw.row PySem.Challenge.rw_kindgrove_k10_kinds_by_themselves).prog 68) (kwd := []) K10.ob_eq
    (by kernel_rfl) (fun s => by kernel_rfl) K10.run (by kernel_rfl) (by kernel_rfl) (by kernel_rfl) (by rfl) (by first | assumption | decide +kernel) (by decide +kernel) ⟨rfl, rfl, rfl, rfl, rfl, by decide +kernel⟩ ?hw ?hc
  case hw => w_witness2
  case hc =>
    refine GD.walk_G (l := PySem.Challenge.rw_kindgrove_k10_kinds_by_themselves) (n := 63) (k := 23) (x := "_law_script") (CX := fun _ => L2.CX0) rfl (by decide) (by kernel_rfl) ⟨rfl, by decide, by decide⟩ ?F (fun _ _ _ _ _ z => z)
    intro w mg fa h Y G hmg0
    obtain ⟨K, KX, c⟩ := Y
    have hmg : mg ("law" : PySem.Str) = some (.ref fa) := by
      have e : (HandSHeadRun.topDef (OpenLaw.row PySem.Challenge.rw_kindgrove_k10_kinds_by_themselves).prog 68).name = ("law" : PySem.Str) := by kernel_rfl
      rw [← e]
      exact hmg0
    obtain ⟨fd, hb, hF⟩ := K10.facts (P := (PySem.Challenge.rw_kindgrove_k10_kinds_by_themselves).prog) (w := w) KX G hmg c.z.x.t.d c.z.x.more (c.cls_ 0 (d := ⟨"Calls", "penalty", "Calls.penalty", K10.s_Calls_penalty⟩)) (c.cls_ 1 (d := ⟨"Calls", "sides", "Calls.sides", K10.s_Calls_sides⟩)) (c.cls_ 2 (d := ⟨"Calls", "distance", "Calls.distance", K10.s_Calls_distance⟩)) (c.cls_ 3 (d := ⟨"Calls", "bound", "Calls.bound", K10.s_Calls_bound⟩)) ⟨by kernel_rfl, by kernel_rfl⟩
    refine ⟨K, KX, fd, K10.tf.map (He.cT K), K10.spLaw K, fun p hp => ?_, hb, fun H a ns hl hTb hS => ⟨a, ns, rfl, hS, hl, K10.tabs_of hTb, fun _ => rfl⟩, hF⟩
    obtain ⟨p0, hp0, rfl⟩ := List.mem_map.mp hp
    exact ⟨c.z.x.empty p0 hp0, c.z.x.out p0 hp0, PySem.W.codeHd_of_K KX (c.z.x.hd p0 hp0)⟩
