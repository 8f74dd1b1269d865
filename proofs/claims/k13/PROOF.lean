import PyProof.Rows.All
import Wide.All
import OpenK.AllK
import Wide.FinOn
import HandS.ForMost
import HandS.HeadHook4
import HandS.Zip
import HandS.Defaults
import HandS.Wide
import HandS.IsInst
import HandS.NoneIn
import HandS.Style
import HandS.DeepEq
import HandS.Evl
import PyProof.NeKinds
import HandS.TupMul
import PyProof.StrBlock2
import KE.SortKeyHeap
import KE.SortData
import HandS.Lambda
import HandS.EndTab
import HandS.HeadWalk
import HandS.SortKw
import HandS.DictComp
import HandS.Conv
import PyProof.MaxThree
import HandS.Text
import KE.LtData
import PyProof.ReprRoads
import PyProof.ReprReads
import KE.DatumIndex
import HandS.ExcField
import HandS.ExcInit
import HandS.Property
import HandS.MakeKw
import HandS.ExcOwn
import HandS.MakeKwOnly
import HandS.Nested
import HandS.ClsMeth
import HandS.Star
import KE.KSuper
import HandS.WideBits
import KE.KRevSl
import HandS.Walk
import HandS.Head0
import HandS.Head1
import HandS.Head2
import HandS.HeadEnd
import PySem.Challenge.RW_kindgrove_k13_remainders
set_option Elab.async false
set_option linter.all false
set_option maxRecDepth 100000
set_option maxHeartbeats 4000000
namespace CM
open PySem PySem.Spec PyProof.Rows L2
/-- a def of the text, by the module's name of it -/
structure Cal (P : Program) (w : World) (K : PySem.W.Frag) (mg : Str → Option Value) (base : Heap) (CX : CXT) (x : Str) (k : Nat) (ps : List Str) (sp : Sp) : Prop where
  ex : ∃ (f : Addr) (fd : FuncData), FnOk P w K mg base CX k f fd ps sp ∧ Binds K fd ps [] ∧ mg x = some (.ref f) ∧ PySem.W.keepIn K (.ref f) = true
/-- a method of the class at C -/
structure CalM (P : Program) (w : World) (K : PySem.W.Frag) (mg : Str → Option Value) (base : Heap) (CX : CXT) (C : Addr) (x : Str) (k : Nat) (ps : List Str) (sp : Sp) : Prop where
  ex : ∃ (f : Addr) (fd : FuncData), FnOk P w K mg base CX k f fd ps sp ∧ Binds K fd ps [] ∧ Meth K C x f
/-- a value that is equal to itself at once -/
def okV (v : V) : Prop := flatB v = true ∨ ∃ a, v = .ref a
theorem okV_ref (a : Addr) : okV (.ref a) := .inr ⟨a, rfl⟩
theorem okV_int (i : Int) : okV (.int i) := .inl rfl
theorem eqAt_ok {A : Around} {s : Shared} {v : V} {u u' : Value} (h : okV v) (r : RelV v u) (r' : RelV v u') : SeqAt.EqAt A s u u' true := by
  rcases h with f | ⟨a, rfl⟩
  · exact eqAt_same r r' f
  · cases (show u = Value.ref a from r)
    cases (show u' = Value.ref a from r')
    exact SeqAt.EqAt.same _
theorem vals_eqAt {A : Around} {s : Shared} : ∀ {xs : List V} {us ws : List Value}, (∀ v ∈ xs, okV v) → Vals xs us → Vals xs ws → ∀ j (h1 : j < us.length) (h2 : j < ws.length), SeqAt.EqAt A s us[j] ws[j] true
  | [], _, _, _, r1, _, j, h1, _ => by
    cases r1
    exact absurd h1 (Nat.not_lt_zero j)
  | v :: xs, _, _, ok, .cons a1 b1, .cons a2 b2, 0, _, _ => eqAt_ok (ok v (List.mem_cons_self ..)) a1 a2
  | v :: xs, _, _, ok, .cons a1 b1, .cons a2 b2, j + 1, h1, h2 => vals_eqAt (fun z hz => ok z (List.mem_cons_of_mem _ hz)) b1 b2 j (Nat.lt_of_succ_lt_succ h1) (Nat.lt_of_succ_lt_succ h2)
/-! ### what stays -/
theorem same_upd {H : Hp} {p : Addr} {o : HO} (h : H p = none) : Same H (upd H p o) := fun b x e => by
  rw [upd_ne (ne_of_none e h)]
  exact e
theorem same_put {A H : Hp} {p : Addr} {o : HO} (s : Same A H) (h : A p = none) : Same A (upd H p o) := fun b u e => by
  rw [upd_ne (ne_of_none e h)]
  exact s b u e
/-- all but the thing at a stays -/
def Kp (a : Addr) (H H' : Hp) : Prop := ∀ b o, b ≠ a → H b = some o → H' b = some o
theorem Kp.trans {a : Addr} {H H1 H2 : Hp} (x : Kp a H H1) (y : Kp a H1 H2) : Kp a H H2 := fun b o n e => y b o n (x b o n e)
theorem Kp.same {a : Addr} {H H1 : Hp} (s : Same H H1) : Kp a H H1 := fun b o _ e => s b o e
theorem Kp.set {a : Addr} {H : Hp} {o : HO} : Kp a H (upd H a o) := fun b u n e => by
  rw [upd_ne n]
  exact e
theorem Kp.ne {a p : Addr} {H : Hp} {o : HO} (h : H a = some o) (hp : H p = none) : p ≠ a := fun z => by
  rw [z, h] at hp
  cases hp
theorem max_if (i j : Int) : (if j > i then j else i) = max i j := by
  rw [Int.max_def]
  split <;> split <;> omega
theorem min_if (i j : Int) : (if j < i then j else i) = min i j := by
  rw [Int.min_def]
  split <;> split <;> omega
def Tup2 (H : Hp) (p : Addr) (lo hi : Int) : Prop := H p = some (.tup [.int lo, .int hi])
section
variable {X : Cx}
theorem pe_gref {x : Str} {C : Addr} {pos : Pos} (hg : Gl X x) (hm : X.mg x = some (.ref C)) (hdb : (x == ("__debug__" : Str)) = false := by decide) : PE X (.Name x pos) (tC (.ref C)) := pe_glob (v := .ref C) hg hm rfl hdb
/-- a != b of two lists of the very same items -/
def rNeS (K : PySem.W.Frag) : R2 := fun x y H Q => ∃ (a b : Addr) (xs : List V), x = .ref a ∧ y = .ref b ∧ SqL K H a xs ∧ SqL K H b xs ∧ (∀ v ∈ xs, okV v) ∧ Q (.bl false) H
theorem op_neS (hu : X.A.units + 64 < cLine) : OpR X (compareOp .NotEq) (rNeS X.K) := by
  intro pns s σ H x y v u Q I rx ry h
  obtain ⟨a, b, xs, rfl, rfl, ha, hb, ok, q⟩ := h
  cases (show v = Value.ref a from rx)
  cases (show u = Value.ref b from ry)
  obtain ⟨us, r1, p1, _⟩ := I.list ha
  obtain ⟨ws, r2, p2, _⟩ := I.list hb
  have hz : us.toArray.size = ws.toArray.size := by
    rw [List.size_toArray, List.size_toArray, ← r1.length, ← r2.length]
  refine SeqAt.RcNeAt.lists (e := fun _ => true) p1.isList p2.isList hz (by omega) (fun j h1 h2 => ?_) X.prog X.w X.xe _ ?_
  · have z := vals_eqAt (A := X.A.in1) (s := s) ok r1 r2 j (by simpa using h1) (by simpa using h2)
    simpa using z
  · rw [show ((List.range us.toArray.size).all fun _ => true) = true from List.all_eq_true.mpr fun _ _ => rfl]
    exact ⟨.bl false, H, I, rfl, q⟩
/-- a == (), a a tuple -/
def rEqNil (K : PySem.W.Frag) : R2 := fun x y H Q => ∃ (a b : Addr) (xs : List V), x = .ref a ∧ y = .ref b ∧ SqT K H a xs ∧ SqT K H b [] ∧ Q (.bl xs.isEmpty) H
theorem op_eqNil (hu : X.A.units + 64 < cLine) : OpR X (compareOp .Eq) (rEqNil X.K) := by
  intro pns s σ H x y v u Q I rx ry h
  obtain ⟨a, b, xs, rfl, rfl, ha, hb, q⟩ := h
  cases (show v = Value.ref a from rx)
  cases (show u = Value.ref b from ry)
  obtain ⟨us, r1, p1, _⟩ := I.tuple ha
  obtain ⟨ws, r2, p2, _⟩ := I.tuple hb
  cases r2
  refine SeqAt.eq_tupleAt (e := fun _ => true) p1 p2 (by omega) (fun j h1 h2 => absurd h2 (by simp)) ?_
  have e : ((List.range (min us.toArray.size (#[] : Array Value).size)).all (fun _ => true) && us.toArray.size == (#[] : Array Value).size) = xs.isEmpty := by
    rw [List.size_toArray, ← r1.length]
    cases xs <;> simp
  exact ⟨.bl _, H, I, rfl, by rw [e]; exact q⟩
def rStrMul : R2 := fun x y H Q => ∃ (z : Str) (n : Int), x = .str z ∧ y = .int n ∧ MulOk z n ∧ Q (.str (Txt.mul z n)) H
theorem op_strmul : OpR X (binaryOp .Mult) rStrMul := by
  intro pns s σ H x y v u Q I rx ry h
  obtain ⟨z, n, rfl, rfl, ok, q⟩ := h
  obtain ⟨t1, rfl⟩ := rx
  obtain ⟨t2, rfl⟩ := ry
  exact SB.mul ok fun t' k => ⟨.str _, H, I.tok k, ⟨t', rfl⟩, q⟩
/-- a tuple taken many times -/
def rRepM (K : PySem.W.Frag) : R2 := fun x y H Q => ∃ l k xs, x = .ref l ∧ y = .int k ∧ SqT K H l xs ∧ xs ≠ [] ∧ 2 ≤ k ∧ (xs.length : Int) * k ≤ 1000000 ∧ ∀ p, H p = none → Q (.ref p) (upd H p (.tup (List.replicate k.toNat xs).flatten))
theorem op_repM : OpR X (binaryOp .Mult) (rRepM X.K) := by
  intro pns s σ H x y v u Q I rx ry h
  obtain ⟨l, k, xs, rfl, rfl, hT, hne, hlo, hz, q⟩ := h
  cases (show v = Value.ref l from rx)
  obtain ⟨t, rfl⟩ := ry
  obtain ⟨us, r, ⟨⟨cl, di, da, slo⟩, ho, hc, n, hd⟩, hs⟩ := I.tuple hT
  dsimp only at hc hd
  subst hc
  subst hd
  have hle : us.length = xs.length := r.length.symm
  have h0 : us.toArray.isEmpty = false := by
    cases us with
    | nil =>
      cases xs with
      | nil => exact absurd rfl hne
      | cons => cases hle
    | cons _ _ => rfl
  have hsz : us.toArray.size = xs.length := by rw [List.size_toArray, hle]
  have pos : 1 ≤ xs.length := by
    cases xs with
    | nil => exact absurd rfl hne
    | cons => rw [List.length_cons]; omega
  have hk : k ≤ 1000000 := by
    have a1 : (1 : Int) * k ≤ (xs.length : Int) * k := Int.mul_le_mul_of_nonneg_right (by omega) (by omega)
    omega
  have hm : ((us.toArray.size : Nat) : Int) * k ≤ 1000000 := by rw [hsz]; exact hz
  have hflat : (List.replicate k.toNat us).flatten.length ≤ sizeLine := by
    rw [lm_len_rep_flat, hle, sizeLine_eq]
    have a2 : ((k.toNat * xs.length : Nat) : Int) = (xs.length : Int) * k := by
      rw [Int.natCast_mul, Int.toNat_of_nonneg (by omega), Int.mul_comm]
    omega
  have c0 : (decide (k < -(2 ^ 63)) || decide (k ≥ 2 ^ 63)) = false := by
    simp only [Bool.or_eq_false_iff, decide_eq_false_iff_not]
    omega
  have c1 : (us.toArray.isEmpty || k == 1) = false := by
    rw [h0, Bool.false_or, beq_eq_false_iff_ne]
    omega
  have c2 : (decide (k ≤ 0) || us.toArray.isEmpty) = false := by
    rw [h0, Bool.or_false, decide_eq_false_iff_not]
    omega
  have c4 : Builtin.Tuple.tupleTooMany (((us.toArray.size : Nat) : Int) * k) = false := by
    unfold Builtin.Tuple.tupleTooMany
    rw [sizeLine_eq, decide_eq_false_iff_not]
    omega
  have big : (List.foldl (fun x1 x2 => x1 ++ x2) #[] (List.replicate k.toNat us.toArray)).size ≤ sizeLine := by
    rw [size_rep, List.size_toArray]
    exact hflat
  have inner := tuple_mulW l us.toArray n di slo k t c0 c1 c2 (by omega) c4 big
  have outer := int_rmul_tuple k t l us.toArray n di slo
  refine wpAny_binaryOp_repeat_ref (T := "tuple") (U := "int") (by decide) ⟨_, ho, rfl⟩ (fun s1 => typeIs_int s1 k t) noFill_tuple_mul F.fills_int_mul F.slot_int_rmul repeat_tuple F.slot_int_index.lookup ?_
  refine call_meets F.slot_int_rmul (typeIs_int s k t) F.entry_int_rmul (F.args_int_rmul_2 _ _) outer ⟨ho, rfl, ⟨_, ho, rfl⟩, ?_⟩
  refine call_meets F.slot_tuple_mul ⟨_, ho, rfl⟩ F.entry_tuple_mul (F.args_tuple_mul_2 _ _) inner ⟨ho, ?_⟩
  rw [size_rep]
  have hnew : H s.heap.objs.size = none := I.hok.fresh (Nat.le_refl _)
  have hfl2 : (List.replicate k.toNat xs).flatten.length ≤ sizeLine := by
    have z := (r.rep k.toNat).length
    rw [z]
    exact hflat
  exact ⟨.ref s.heap.objs.size, _, I.laid (t' := s.toks) (o := .tup (List.replicate k.toNat xs).flatten) (fun b ob z => Heap.get?_push_of_some _ z) (Nat.le_refl _) ⟨hfl2, _, r.rep k.toNat, IsTup.new _ _⟩, rfl, q _ hnew⟩
/-- a != b of two tuples of the very same items -/
def rNeST (K : PySem.W.Frag) : R2 := fun x y H Q => ∃ (a b : Addr) (xs : List V), x = .ref a ∧ y = .ref b ∧ SqT K H a xs ∧ SqT K H b xs ∧ (∀ v ∈ xs, okV v) ∧ Q (.bl false) H
theorem op_neST (hu : X.A.units + 64 < cLine) : OpR X (compareOp .NotEq) (rNeST X.K) := by
  intro pns s σ H x y v u Q I rx ry h
  obtain ⟨a, b, xs, rfl, rfl, ha, hb, ok, q⟩ := h
  cases (show v = Value.ref a from rx)
  cases (show u = Value.ref b from ry)
  obtain ⟨us, r1, p1, _⟩ := I.tuple ha
  obtain ⟨ws, r2, p2, _⟩ := I.tuple hb
  have hz : us.toArray.size = ws.toArray.size := by
    rw [List.size_toArray, List.size_toArray, ← r1.length, ← r2.length]
  refine SeqAt.RcNeAt.tuples (e := fun _ => true) p1 p2 (by omega) (fun j h1 h2 => ?_) X.prog X.w X.xe _ ?_
  · have z := vals_eqAt (A := X.A.in1) (s := s) ok r1 r2 j (by simpa using h1) (by simpa using h2)
    simpa using z
  · rw [show ((List.range (min us.toArray.size ws.toArray.size)).all fun _ => true) = true from List.all_eq_true.mpr fun _ _ => rfl, hz]
    exact ⟨.bl _, H, I, rfl, by simpa using q⟩
/-- a != b, both of them pairs of ints -/
def rNeI2 (K : PySem.W.Frag) : R2 := fun x y H Q => ∃ (a b : Addr) (i j k l : Int), x = .ref a ∧ y = .ref b ∧ SqT K H a [.int i, .int j] ∧ SqT K H b [.int k, .int l] ∧ Q (.bl (!decide (i = k ∧ j = l))) H
theorem op_neI2 (hu : X.A.units + 64 < cLine) : OpR X (compareOp .NotEq) (rNeI2 X.K) := by
  intro pns s σ H x y v u Q I rx ry h
  obtain ⟨a, b, i, j, k, l, rfl, rfl, ha, hb, q⟩ := h
  cases (show v = Value.ref a from rx)
  cases (show u = Value.ref b from ry)
  obtain ⟨us, r1, p1, _⟩ := I.tuple ha
  obtain ⟨ws, r2, p2, _⟩ := I.tuple hb
  obtain ⟨u1, u2, rfl, ⟨t1, rfl⟩, ⟨t2, rfl⟩⟩ := vals2 r1
  obtain ⟨w1, w2, rfl, ⟨t3, rfl⟩, ⟨t4, rfl⟩⟩ := vals2 r2
  refine SeqAt.RcNeAt.tuples (e := fun n => if n = 0 then i == k else j == l) p1 p2 (by omega) (fun n h1 h2 => ?_) X.prog X.w X.xe _ ?_
  · match n, h1, h2 with
    | 0, _, _ => exact SeqAt.EqAt.int_int i t1 k t3
    | 1, _, _ => exact SeqAt.EqAt.int_int j t2 l t4
    | n + 2, h1, _ => exact absurd h1 (by simp)
  · have e : (!((List.range (min [Value.int i t1, Value.int j t2].toArray.size [Value.int k t3, Value.int l t4].toArray.size)).all (fun n => if n = 0 then i == k else j == l) && [Value.int i t1, Value.int j t2].toArray.size == [Value.int k t3, Value.int l t4].toArray.size)) = !decide (i = k ∧ j = l) := by
      show (!((List.range 2).all (fun n => if n = 0 then i == k else j == l) && true)) = _
      rw [show List.range 2 = [0, 1] from rfl]
      by_cases e1 : i = k <;> by_cases e2 : j = l <;> simp [e1, e2]
    rw [e]
    exact ⟨.bl _, H, I, rfl, q⟩
/-- a == b of two lists of the very same items -/
def rEqS (K : PySem.W.Frag) : R2 := fun x y H Q => ∃ (a b : Addr) (xs : List V), x = .ref a ∧ y = .ref b ∧ SqL K H a xs ∧ SqL K H b xs ∧ (∀ v ∈ xs, okV v) ∧ Q (.bl true) H
theorem op_eqS (hu : X.A.units + 64 < cLine) : OpR X (compareOp .Eq) (rEqS X.K) := by
  intro pns s σ H x y v u Q I rx ry h
  obtain ⟨a, b, xs, rfl, rfl, ha, hb, ok, q⟩ := h
  cases (show v = Value.ref a from rx)
  cases (show u = Value.ref b from ry)
  obtain ⟨us, r1, p1, _⟩ := I.list ha
  obtain ⟨ws, r2, p2, _⟩ := I.list hb
  have hz : us.toArray.size = ws.toArray.size := by
    rw [List.size_toArray, List.size_toArray, ← r1.length, ← r2.length]
  refine SeqAt.eq_listAt (e := fun _ => true) p1.isList p2.isList hz (by omega) (fun j h1 h2 => ?_) ?_
  · have z := vals_eqAt (A := X.A.in1) (s := s) ok r1 r2 j (by simpa using h1) (by simpa using h2)
    simpa using z
  · rw [show ((List.range us.toArray.size).all fun _ => true) = true from List.all_eq_true.mpr fun _ _ => rfl]
    exact ⟨.bl true, H, I, rfl, q⟩
/-- a != [], a a list -/
def rNeNil (K : PySem.W.Frag) : R2 := fun x y H Q => ∃ (a b : Addr) (xs : List V), x = .ref a ∧ y = .ref b ∧ SqL K H a xs ∧ SqL K H b [] ∧ Q (.bl (!xs.isEmpty)) H
theorem op_neNil (hu : X.A.units + 64 < cLine) : OpR X (compareOp .NotEq) (rNeNil X.K) := by
  intro pns s σ H x y v u Q I rx ry h
  obtain ⟨a, b, xs, rfl, rfl, ha, hb, q⟩ := h
  cases (show v = Value.ref a from rx)
  cases (show u = Value.ref b from ry)
  obtain ⟨us, r1, p1, _⟩ := I.list ha
  obtain ⟨ws, r2, p2, _⟩ := I.list hb
  cases r2
  cases r1 with
  | nil => exact SeqAt.RcNeAt.lists (e := fun _ => true) p1.isList p2.isList rfl (by omega) (fun j h1 h2 => absurd h2 (by simp)) X.prog X.w X.xe _ ⟨.bl false, H, I, rfl, q⟩
  | cons a1 b1 => exact SeqAt.RcNeAt.lists_lengths p1.isList p2.isList (by simp) (by omega) X.prog X.w X.xe _ ⟨.bl true, H, I, rfl, q⟩
/-- how many unlike ints a list has -/
def unlike (ns : List Int) : Nat := (firstMet (fun i => ns.getD i 0) ns.length).length
def tUnlike (K : PySem.W.Frag) (ta : TE) : TE := fun σ H Q => ta σ H fun x G => ∃ (l : Addr) (ns : List Int), x = .ref l ∧ SqL K G l (ns.map V.int) ∧ ns.length ≤ 4000 ∧ Q (.int (unlike ns : Nat)) G
theorem pe_unlike {e : Expr} {ta : TE} {p1 p2 p3 p4 : Pos} (hg : Gl X "len") (hm : X.mg "len" = none) (hg2 : Gl X "set") (hm2 : X.mg "set" = none) (ha : PE X e ta) (hc : X.calm = true := by rfl)
    (na : starEach [e] X.env = (false, eval e X.env) :: starEach [] X.env := by rfl) : PE X (.Call (.Name "len" p1) [.Call (.Name "set" p2) [e] [] p3] [] p4) (tUnlike X.K ta) := by
  refine ⟨fun pns s σ H Q I h => Call_ (ld_blt I hg hm PySem.boot_len (callWith_builtin1 (args_cons (Call_ (ld_blt I hg2 hm2 boot_set (callWith_type1 (args_cons (thn (ha.run pns s σ H _ I h) ?_) na) na rfl))) rfl) rfl rfl))⟩
  rintro v t ⟨x, G, J, r, l, ns, rfl, hq, hl, q⟩
  cases r
  obtain ⟨us, rv, pl, _⟩ := J.list hq
  have hz : us.toArray.size = ns.length := by rw [List.size_toArray, ← rv.length, List.length_map]
  refine args_nil (call_set_list (J.ok.hd hc) pl.isList (ns := ns) (by simpa using RZ.intsAre_vals rv) (by rw [hz]; unfold scanBound; omega) fun h' tk hS hk => args_nil ?_)
  rw [hz] at hS
  obtain ⟨o, es, ep, tb, ho, hex, hd, _, _, _, hf, hn⟩ := hS
  have hle := firstMet_length_le (fun i => ns.getD i 0) ns.length
  have J2 : Inv X pns σ G { t with heap := h', toks := tk } := J.kept fun b o e => hk b o (Heap.lt_size e) e
  exact call_len_set ho hex hd hf (by rw [hn]; omega) ⟨.int (unlike ns : Nat), G, J2.tok _, ⟨_, by rw [hn]; rfl⟩, q⟩
/-- a class without an __init__ -/
structure MkO (K : PySem.W.Frag) (C : Addr) : Prop where
  makes : PySem.W.makesIn K C = true
  init : PySem.W.findIn K (.ref C) "__init__" = some (some (.builtin "object.__init__"))
  kp : PySem.W.keepIn K (.ref C) = true
  ob : PySem.W.mroIn K C (.type "object") = some true
def mkoB (K : PySem.W.Frag) (C : Addr) : Bool := PySem.W.makesIn K C && (He.eqO (PySem.W.findIn K (.ref C) "__init__") (some (some (.builtin "object.__init__"))) && (PySem.W.keepIn K (.ref C) && decide (PySem.W.mroIn K C (.type "object") = some true)))
theorem mkoB_ok {K : PySem.W.Frag} {C : Addr} (h : mkoB K C = true) : MkO K C := by
  obtain ⟨h1, h⟩ := He.ba h
  obtain ⟨h2, h⟩ := He.ba h
  obtain ⟨h3, h4⟩ := He.ba h
  exact ⟨h1, He.eqO_ok h2, h3, of_decide_eq_true h4⟩
theorem pe_make00 {C : Addr} {x : Str} {p pos : Pos} (M : MkO X.K C) (hg : Gl X x) (hm : X.mg x = some (.ref C)) (hdb : (x == ("__debug__" : Str)) = false := by decide) :
    PE X (.Call (.Name x p) [] [] pos) (fun σ H Q => ∀ x dx, H x = none → H dx = none → dx ≠ x → Q (.ref x) (upd (upd H dx (.own x)) x (.ins C dx []))) := by
  refine ⟨fun pns s σ H Q I h => wpAny_Call_Name_kw (ld_glob I hg hm ?_ hdb)⟩
  refine PySem.W.callWith_K0 I.kIn M.kp ?_
  show wpAny _ _ (call (.ref C) []) _ _ _
  have hq := h (s.heap.objs.size + 1) s.heap.objs.size (I.hok.fresh (Nat.le_succ _)) (I.hok.fresh (Nat.le_refl _)) (Nat.ne_of_lt (Nat.lt_succ_self _))
  have J := Inv.made (C := C) I
  refine wpAny_call (make_map0 I.kIn M.makes M.init (fun me => PySem.W.Looks.of_pure (PySem.W.oi_bind me)) ?_)
  have ho : ((s.heap.push PySem.W.emptyDict).push (PySem.W.instObj C s.heap.objs.size)).get? (s.heap.objs.size + 1) = some (PySem.W.instObj C s.heap.objs.size) := by
    have z := Heap.get?_push_size (s.heap.push PySem.W.emptyDict) (o := PySem.W.instObj C s.heap.objs.size) rfl
    rw [Heap.size_push] at z
    exact z
  have t1 : PySem.W.Looks (model X.prog X.w) ((s.heap.push PySem.W.emptyDict).push (PySem.W.instObj C s.heap.objs.size)) (typeOf (.ref (s.heap.objs.size + 1))) (.ref C) := (PySem.W.Looks.ld ho).andThen .now
  have t2 : PySem.W.Looks (model X.prog X.w) ((s.heap.push PySem.W.emptyDict).push (PySem.W.instObj C s.heap.objs.size)) (isInstance (.ref (s.heap.objs.size + 1)) (.type "object")) true := t1.andThen (PySem.W.looks_mroIn J.kIn M.ob)
  refine codeAny_call_builtin PySem.W.oi_plain PySem.W.entry_oi (PySem.W.check_slot PySem.W.oi_kind PySem.W.oi_split t2 (PySem.W.oi_args (.ref (s.heap.objs.size + 1))) ?_)
  rw [PySem.W.oi_run]
  exact wpAny_pure ⟨rfl, ⟨V.ref (s.heap.objs.size + 1), _, J, rfl, hq⟩⟩
/-! ### within a comprehension: the written part by its name -/
theorem ix_listK {K : PySem.W.Frag} (h : X.K = K := by rfl) : IxR X (rIxL K) := by
  subst h
  exact ix_list
theorem ix_tupK {K : PySem.W.Frag} (h : X.K = K := by rfl) : IxR X (rIxT K) := by
  subst h
  exact ix_tup
theorem pg_tupK {K : PySem.W.Frag} {n : Nat} {es : List Expr} {k : Nat} {t : TGs} (hc : X.calm = true) (h : PGs X es t) (hK : X.K = K := by rfl)
    (hn : (assignEach es X.env).length = n := by rfl) (hst : (assignEach es X.env).findIdx? (·.1) = none := by rfl) : PG X (.Tuple es k pos) (gTup K n t) := by
  subst hK
  exact pg_tup hc h hn hst
theorem op_ltTK {K : PySem.W.Frag} (hu : X.A.units < cLine) (h : X.K = K := by rfl) : OpR X (compareOp .Lt) (rLtT K) := by
  subst h
  exact op_ltT hu
end
end CM
set_option Elab.async false
set_option linter.all false
set_option maxRecDepth 100000
set_option maxHeartbeats 4000000
namespace SL
open PySem PySem.Spec PyProof.Rows L2 CM LamX
/-! ### a def whose code object is told -/
section
variable {P : Program} {w : World} {K : PySem.W.Frag} {mg : Str → Option Value} {base : Heap} {x qual : Str} {params : Arguments} {body : List Stmt} {scope : Scope} {dvs : List V} {kws : List (Str × V)} {fd : FuncData}
theorem okC {CX : CXT} {N ps : List Str} {k : Nat} {sp : Sp} {p : He.Defn} (F : FunD K x qual params body scope dvs kws (He.fAd K p) fd) (S : FnScope N ps scope) (len : ∀ vs H Q E, sp vs H Q E → vs.length = ps.length)
    (hbody : ∀ (A : Around) (outer : List Env) (s : Shared) (H : Hp) (vs : List V) (Q : VK) (E : XK), Room k (A.deeper (envOfC qual scope s.heap.objs.size (He.fAd K p) (.ref (He.codeOf K p)))) → sp vs H Q E →
      ∃ t, PSs (cxOf CX P w K mg base N qual scope (He.fAd K p) (.ref (He.codeOf K p)) A outer s H E) body t ∧ t { nx := fun _ H' => Q .non H', rt := Q } (start N vs) H) : FnOk P w K mg base CX (k + 1) (He.fAd K p) fd ps sp := by
  obtain ⟨oc, od, dV, kV, doc, pm, an, cdv, ct, osl, rfl, lk, hcd, _, _⟩ := F.ex
  obtain ⟨c, rfl⟩ := He.codeIn_ref hcd
  have e : He.codeOf K p = c := He.codeOf_eq lk rfl
  rw [e] at hbody
  exact fn_of lk hcd S len hbody
end
/-! ### a lambda of one parameter, called: its key alone is asked, the heap grows -/
/-- one parameter of its own, captured names, globals -/
structure Lam1 (sc scope : Scope) (x : Str) : Prop where
  kind : scope.kind = .function
  co : scope.isCoroutine = false
  gen : scope.isGenerator = false
  par : scope.names.lookup x = some .local
  nocell : ∀ y ∈ scope.names, y.2 ≠ .cell
  free : ∀ y ∈ scope.names, y.2 = .free → sc.names.lookup y.1 = some .cell ∨ sc.names.lookup y.1 = some .free
def lam1B (sc scope : Scope) (x : Str) : Bool :=
  decide (scope.kind = .function) && (!scope.isCoroutine && (!scope.isGenerator && (decide (scope.names.lookup x = some .local) && ((scope.names.all fun y => !decide (y.2 = .cell)) && (scope.names.all fun y => !decide (y.2 = .free) || decide (sc.names.lookup y.1 = some .cell) || decide (sc.names.lookup y.1 = some .free))))))
theorem lam1_by {sc scope : Scope} {x : Str} (h : lam1B sc scope x = true) : Lam1 sc scope x := by
  unfold lam1B at h
  simp only [Bool.and_eq_true, Bool.or_eq_true, Bool.not_eq_true', decide_eq_true_eq, decide_eq_false_iff_not, List.all_eq_true] at h
  obtain ⟨h1, h2, h3, h4, h5, h6⟩ := h
  refine ⟨h1, h2, h3, h4, h5, fun y hy e => ?_⟩
  rcases h6 y hy with (z | z) | z
  · exact absurd e z
  · exact .inl z
  · exact .inr z
theorem Lam1.has {X : Cx} {scope : Scope} {x : Str} (L : Lam1 X.env.scope scope x) (ok : X.Ok) : ∀ y ∈ scope.names, y.2 = .free → ∃ c, X.env.cells.lookup y.1 = some c := fun y hy e =>
  (L.free y hy e).elim (fun z => ok.has _ (.inl z)) fun z => ok.has _ (.inr z)
section
variable {prog : Program} {w : World} {A : Around} {s : Shared}
theorem lam_call {sc : Scope} {f c' : Addr} {x : Str} {params : Arguments} {body : Expr} {scope : Scope} {cl : List (Str × Addr)} {pm ctv v : Value} {qual : Str} {k : PyData} (L : Lam1 sc scope x)
    (hroom : A.depth < recursionLimit) (hf : s.heap.get? f = some (PySem.W.kla_obj "<lambda>" qual params body scope cl pm c' ctv)) (hcd : s.heap.CodeRec (.ref c') qual) (lim : s.heap.NoLimit)
    (hbind : bindArgs (PySem.W.kla_fn "<lambda>" qual params body scope cl pm (.ref c') ctv) ⟨[v], []⟩ = pure [(x, v)])
    (h : ∀ (D : Addr) (g : Heap) (tk : Nat), (∀ b o, s.heap.get? b = some o → g.get? b = some o) → g.Ns D (fun y => [(x, v)].reverse.lookup y) →
      wpAny (model prog w) (A.deeper (PySem.W.envX qual scope D f (.ref c') cl)) (eval body (PySem.W.envX qual scope D f (.ref c') cl)) (PySem.W.KeyPure k { s with heap := g, toks := tk }) (fun _ _ => False) { s with heap := g, toks := tk }) :
    wpAny (model prog w) A (call (.ref f) [v]) (PySem.W.KeyPure k s) (fun _ _ => False) s := by
  refine wpAny_call (PySem.W.kla_callFunE hroom hf rfl L.co L.gen rfl hcd ?_)
  rw [hbind]
  refine wpAny_pure (wpAny_newFunctionEnv L.nocell (fun y hy => ?_) (fun g hns hsb => ⟨lim.fresh _ hsb, ?_⟩) L.kind)
  · rw [List.mem_singleton.mp hy]
    exact L.par
  · have up : ∀ b o, s.heap.get? b = some o → g.get? b = some o := fun b o e => hsb.extBut b o (Nat.ne_of_lt (Heap.lt_size e)) (Heap.get?_push_of_some _ e)
    refine PySem.W.kla_codeExpr (wpAny_mono (h _ g _ up hns) (fun u t ⟨g2, tk, e, up2, rd⟩ => ?_) fun _ _ z => z.elim)
    exact ⟨g2, tk, e, fun b o q => up2 b o (up b o q), rd⟩
end
/-! ### sorted(e, key=lambda x: body) -/
/-- what stands at the captured names: cells of the running frame, their values -/
def CapAt (X : Cx) (σ : L2.St) (g : Heap) (cl : List (Str × Addr)) : Prop := ∀ (i : Nat) (y : Str) (v : V), X.N[i]? = some y → σ[i]? = some (some v) → (∃ c, cl.lookup y = some c) → ∃ c u, cl.lookup y = some c ∧ RelV v u ∧ g.IsCell c (some u)
theorem capAt_of {X : Cx} {pins : List (Addr × Obj)} {σ : L2.St} {H : Hp} {s : Shared} {scope : Scope} {x : Str} (I : Inv X pins σ H s) (L : Lam1 X.env.scope scope x) : CapAt X σ s.heap (cloFrom X.env.cells scope.names []) := by
  intro i y v hi hv ⟨c, hc⟩
  have hm : (y, NameKind.free) ∈ scope.names := by
    rcases cloFrom_mem (PySem.mem_of_lookup hc) with hm | ⟨h1, _⟩
    · cases hm
    · exact h1
  have hk := L.free _ hm rfl
  obtain ⟨m, _, hl⟩ := I.loc
  obtain ⟨u, r, q⟩ := hl i y v hi hv (hk.elim (fun z => .inr (.inl z)) fun z => .inr (.inr z))
  rcases q with ⟨z, _⟩ | ⟨_, c2, hc2, cell⟩
  · have z : X.env.scope.names.lookup y = some .local := z
    rcases hk with k | k <;> rw [show X.env.scope.names.lookup y = _ from k] at z <;> cases z
  · refine ⟨c, u, hc, r, ?_⟩
    have hc' : (y, c) ∈ cloFrom X.env.cells scope.names [] := PySem.mem_of_lookup hc
    rcases cloFrom_mem hc' with hm | ⟨_, e⟩
    · cases hm
    · rw [e, hc2]
      exact cell
/-- the key's reckoning: k, for the item v, wherever the heap has grown -/
def KeyRun (X : Cx) (σ : L2.St) (body : Expr) (scope : Scope) (x : Str) (s : Shared) (H : Hp) (v : Value) (k : PyData) : Prop :=
  ∀ (A : Around) (qual : Str) (f c' D : Addr) (cl : List (Str × Addr)) (g : Heap) (tk : Nat), X.A.units ≤ A.units → (∀ b o, s.heap.get? b = some o → g.get? b = some o) → CapAt X σ g cl → (∀ y, scope.names.lookup y = some .free → ∃ c, cl.lookup y = some c) →
    g.Ns D (fun y => [(x, v)].reverse.lookup y) → wpAny (model X.prog X.w) A (eval body (PySem.W.envX qual scope D f (.ref c') cl)) (PySem.W.KeyPure k { s with heap := g, toks := tk }) (fun _ _ => False) { s with heap := g, toks := tk }
/-- the reading -/
def tSortL {β : Type} (X : Cx) (T : List (Addr × Str)) (body : Expr) (scope : Scope) (x : Str) (ta : TE) : TE := fun σ H Q => ta σ H fun u H1 => Tabs T H1 ∧ ∃ (l : Addr) (bs : List β) (vf : β → V) (kf : β → PyData), u = .ref l ∧ SqL X.K H1 l (bs.map vf) ∧
  (∀ b ∈ bs, ∀ d ∈ bs, PySem.W.alike (kf b) (kf d) = true) ∧ PySem.W.Sortable (bs.map kf) ∧ (∀ b ∈ bs, (kf b).depth ≤ 60) ∧
  (∀ (pins : List (Addr × Obj)) (s : Shared) (H2 : Hp) (b : β) (v : Value), Inv X pins σ H2 s → ExtN H1 H2 → b ∈ bs → RelV (vf b) v → KeyRun X σ body scope x s H2 v (kf b)) ∧
  ∀ (D : Addr) (H2 : Hp), ExtN H1 H2 → (∀ o, H1 D = some o → ∃ ps, o = .tbl ps) → Tabs T H2 → H2 D = some (.lst ((bs.mergeSort (PySem.W.dataLe false kf)).map vf)) → Q (.ref D) H2
theorem each_of_vals {β : Type} {vf : β → V} : ∀ {bs : List β} {us : List Value}, Vals (bs.map vf) us → PySem.W.EachIs (fun v b => RelV (vf b) v) us bs
  | [], _, .nil => .nil
  | b :: bs, _, .cons r t => .cons r (each_of_vals t)
theorem vals_of_each {β : Type} {vf : β → V} : ∀ {bs : List β} {us : List Value}, PySem.W.EachIs (fun v b => RelV (vf b) v) us bs → Vals (bs.map vf) us
  | [], _, .nil => .nil
  | b :: bs, _, .cons r t => .cons r (vals_of_each t)
section
variable {X : Cx}
theorem pe_sortL {β : Type} {T : List (Addr × Str)} {c P : Addr} {a : Expr} {ta : TE} {params : Arguments} {body : Expr} {scope : Scope} {x : Str} {k : Nat} {lpos kpos p1 pos : Pos} (hr : Room k X.A) (TB : TabB X.base X.mg c P) (hcode : X.env.code = .ref c)
    (hmT : (P, X.env.qual ++ "<lambda>") ∈ T) (hu : ∀ p ∈ T, p.1 = P → p.2 = X.env.qual ++ "<lambda>") (L : Lam1 X.env.scope scope x) (hdef : defaultsOf params X.env = ([], []))
    (hbind : ∀ (q : Str) (cl : List (Str × Addr)) (pm cv ctv v : Value), bindArgs (PySem.W.kla_fn "<lambda>" q params body scope cl pm cv ctv) ⟨[v], []⟩ = pure [(x, v)])
    (hg : Gl X "sorted") (hm : X.mg "sorted" = none) (ha : PE X a ta)
    (he : backTo pos (starEach [a] X.env) = (false, eval a X.env) :: backTo pos (starEach [] X.env) := by rfl) (hpl : (backTo pos (starEach [a] X.env)).any (·.1) = false := by rfl) :
    PE X (.Call (.Name "sorted" p1) [a] [⟨some "key", .Lambda params body scope lpos, kpos⟩] pos) (tSortL (β := β) X T body scope x ta) := by
  refine ⟨fun pins s σ H Q I h => ?_⟩
  refine wpAny_Call_Name_kw (ld_blt I hg hm (show bootBuiltins "sorted" = some (.builtin "sorted") by decide +kernel) ?_ (by decide) (by decide))
  refine PyProof.Rows.callWith_kw ?_ he hpl (by rfl) (by rfl)
  rw [he]
  refine Calls.spliced_cons (thn (ha.run pins s σ H _ I h) fun u s1 ⟨v0, H1, I1, r1, hT, l, bs, vf, kf, e0, hS, al, so, dp, kr, q⟩ => Calls.spliced_nil ?_)
  subst e0
  obtain rfl : u = Value.ref l := r1
  show wpAny _ _ (evalAll ((do let v ← eval (.Lambda params body scope lpos) X.env; standAt pos; pure v) :: [])) _ _ s1
  refine wpAny_evalAll_cons (wpAny_bind (lam_make2 I1 TB hcode hmT hu hT hdef (L.has I1.ok) fun f c' pm ctv H2 s2 I2 eN T2 hf hfn hfr hco => wpAny_bind (wpAny_standAt (wpAny_pure (wpAny_evalAll_nil ?_)))))
  show wpAny _ _ (call (.builtin "sorted") [.ref l] [(Str.ofString "key", .ref f)]) _ _ s2
  have hS2 : SqL X.K H2 l (bs.map vf) := by
    rcases hS with hS | hS
    · rcases hS with hS | ⟨o, hS⟩
      · exact .inl (.inl (eN _ _ hS fun ps z => by cases z))
      · exact .inl (.inr ⟨o, eN _ _ hS fun ps z => by cases z⟩)
    · exact .inr hS
  obtain ⟨its, rv, hl, hz⟩ := I2.list hS2
  rw [List.length_map] at hz
  have hcr := (show ∃ (oc : Obj) (vs : Array Value) (t : Tok), s2.heap.get? c' = some oc ∧ oc.data = .fields vs ∧ vs[1]? = some (.str (X.env.qual ++ "<lambda>") t) from (I2.hok c' _ hco).1)
  have ea := each_of_vals rv
  refine PySem.W.sorted_key_data (b := false) (bs := bs) (R := fun v b => RelV (vf b) v) kf hl.isList ea ?_ so hz (fun b hb => ?_) (PyProof.Rows.ksk_s1 _ _) (fun _ => PyProof.Rows.ksk_l1 _ _) (fun _ => PyProof.Rows.ksk_t1 _ _)
    (fun v b rb hb g tk up => ?_) fun out cc g tk up hD hD2 hlen eo => ?_
  · intro d hd e he
    obtain ⟨b, hb, rfl⟩ := List.mem_map.mp hd
    obtain ⟨b2, hb2, rfl⟩ := List.mem_map.mp he
    exact al b hb b2 hb2
  · have z1 := hr.units
    have z2 := dp b hb
    omega
  · have I3 : Inv X pins σ H2 { s2 with heap := g, toks := tk } := I2.kept up
    obtain ⟨oc, vs, t, h1, h2, h3⟩ := hcr
    refine lam_call L (by show X.A.depth < _; exact hr.depth) (up _ _ hf) ⟨c', oc, vs, t, rfl, up _ _ h1, h2, h3⟩ I3.nolimit (hbind _ _ _ _ _ _) fun D g2 tk2 up2 hns => ?_
    refine kr pins _ H2 b v I3 eN hb rb _ _ _ _ _ _ g2 tk2 (by show X.A.units ≤ X.A.units + 1 + 1 + 3; omega) up2 ?_ (fun y hy => ?_) hns
    · intro i y w hi hw hc
      obtain ⟨c0, u0, a1, a2, o, a3, a4⟩ := capAt_of I3 L i y w hi hw hc
      exact ⟨c0, u0, a1, a2, o, up2 _ _ a3, a4⟩
    · exact mem_lookup (cloFrom_has (cells := X.env.cells) (acc := []) (PySem.mem_of_lookup hy))
  · have hlen2 : ((bs.mergeSort (PySem.W.dataLe false kf)).map vf).length ≤ sizeLine := by
      rw [List.length_map, List.length_mergeSort]
      exact hz
    have hnew : H2 (s2.heap.objs.size + 1) = none := I2.hok.fresh (Nat.le_succ _)
    have vo := vals_of_each eo
    refine ⟨.ref (s2.heap.objs.size + 1), upd H2 (s2.heap.objs.size + 1) (.lst ((bs.mergeSort (PySem.W.dataLe false kf)).map vf)), I2.laid (t' := tk) up (Nat.le_succ _) ⟨hlen2, out, cc, vo, hD2⟩, rfl, ?_⟩
    refine q _ _ (fun b o e n => ?_) (fun o e1 => ?_) (T2.ext fun b o e => ?_) upd_same
    · rw [upd_ne (ne_of_none (eN _ _ e n) hnew)]
      exact eN _ _ e n
    · cases o with
      | tbl ps => exact ⟨ps, rfl⟩
      | _ =>
        rw [eN _ _ e1 (fun ps z => by cases z)] at hnew
        cases hnew
    · rw [upd_ne (ne_of_none e hnew)]
      exact e
end
end SL
set_option Elab.async false
set_option linter.all false
set_option maxRecDepth 100000
set_option maxHeartbeats 4000000
namespace SL
open PySem PySem.Spec PyProof.Rows L2 CM LamX
/-! ### tables stay -/
theorem Tabs.kp {T : List (Addr × Str)} {a : Addr} {xs : List V} {H H' : Hp} (t : Tabs T H) (ha : H a = some (.lst xs)) (k : Kp a H H') : Tabs T H' := fun p hp => by
  obtain ⟨ps, h1, h2, h3⟩ := t p hp
  have ne : ∀ {b : Addr} {o : HO}, H b = some o → (∀ ys, o ≠ .lst ys) → b ≠ a := fun {b o} e n z => by
    rw [z, ha] at e
    exact n xs (Option.some.inj e).symm
  refine ⟨ps, k _ _ (ne h1 fun ys z => by cases z) h1, h2, fun pos cv hc => ?_⟩
  obtain ⟨c, e1, e2⟩ := h3 pos cv hc
  exact ⟨c, e1, k _ _ (ne e2 fun ys z => by unfold CodeO at z; cases z) e2⟩
theorem Tabs.same {T : List (Addr × Str)} {H H' : Hp} (t : Tabs T H) (s : Same H H') : Tabs T H' := t.ext s
/-- all but the thing at a and the tables stays -/
def KpN (a : Addr) (H H' : Hp) : Prop := ∀ b o, b ≠ a → (∀ ps, o ≠ .tbl ps) → H b = some o → H' b = some o
theorem KpN.of {a : Addr} {H H' : Hp} (k : Kp a H H') : KpN a H H' := fun b o n _ e => k b o n e
theorem KpN.ext {a : Addr} {H H' : Hp} (k : ExtN H H') : KpN a H H' := fun b o _ n e => k b o e n
theorem KpN.trans {a : Addr} {H H1 H2 : Hp} (x : KpN a H H1) (y : KpN a H1 H2) : KpN a H H2 := fun b o n m e => y b o n m (x b o n m e)
theorem ExtN.of_same {H H' : Hp} (s : Same H H') : ExtN H H' := fun b o e _ => s b o e
theorem ExtN.seqL {K : PySem.W.Frag} {H H' : Hp} {a : Addr} {xs : List V} (e : ExtN H H') (h : SqL K H a xs) : SqL K H' a xs := by
  rcases h with (h | ⟨o, h⟩) | h
  · exact .inl (.inl (e _ _ h fun ps z => by cases z))
  · exact .inl (.inr ⟨o, e _ _ h fun ps z => by cases z⟩)
  · exact .inr h
theorem one_tab {P P' : Addr} {q q' : Str} (e : q = q') : ∀ p ∈ [(P', q)], p.1 = P → p.2 = q' := fun p hp _ => by rw [List.mem_singleton.mp hp]; exact e
/-! ### the key (m[x], x) -/
/-- a leaf as data -/
inductive LeafD : V → PyData → Prop where
  | int (i : Int) : LeafD (.int i) (.int i)
  | str (z : Str) : LeafD (.str z) (.str z)
theorem LeafD.reads {w : V} {d : PyData} {u : Value} {h : Heap} (l : LeafD w d) (r : RelV w u) : Reads h u d [] := by
  cases l with
  | int i =>
    obtain ⟨t, rfl⟩ := r
    exact .int i t
  | str z =>
    obtain ⟨t, rfl⟩ := r
    exact .str z t
theorem ns_one {x : Str} {v : Value} : [(x, v)].reverse.lookup x = some v := by simp [List.lookup]
theorem kr_pair {X : Cx} {pins : List (Addr × Obj)} {σ : L2.St} {H : Hp} {s : Shared} {scope : Scope} {m x : Str} {i b : Nat} {l : Addr} {items : List V} {w : V} {d : PyData} {v : Value} {ctx : Nat} {p1 p2 p3 p4 p5 : Pos} (I : Inv X pins σ H s)
    (kind : scope.kind = .function) (hm : scope.names.lookup m = some .free) (hx : scope.names.lookup x = some .local) (hN : X.N[i]? = some m) (hs : σ[i]? = some (some (.ref l))) (hl : SqL X.K H l items) (hb : items[b]? = some w) (ld : LeafD w d) (rv : RelV (.int (b : Int)) v)
    (dm : (m == ("__debug__" : Str)) = false := by decide) (dx : (x == ("__debug__" : Str)) = false := by decide) (cm : (m == ("__classdict__" : Str)) = false := by decide) :
    KeyRun X σ (.Tuple [.Subscript (.Name m p1) (.Name x p2) p3, .Name x p4] ctx p5) scope x s H v (.tuple [d, .int (b : Int)]) := by
  intro A qual f c' D cl g tk hu up cap has hns
  obtain ⟨its, rvs, pl, hz⟩ := I.list hl
  obtain ⟨c0, u0, hc0, r0, cell⟩ := cap i m (.ref l) hN hs (has m hm)
  cases (show u0 = Value.ref l from r0)
  obtain ⟨t, rfl⟩ := rv
  obtain ⟨w', ew, rw'⟩ := rvs.get hb
  have hlen := (List.getElem?_eq_some_iff.mp hb).1
  have hl63 := line63
  refine wpAny_Tuple_spliced ?_
  show wpAny _ _ (spliced ((false, eval (.Subscript (.Name m p1) (.Name x p2) p3) (PySem.W.envX qual scope D f (.ref c') cl)) :: (false, eval (.Name x p4) (PySem.W.envX qual scope D f (.ref c') cl)) :: [])) _ _ _
  refine Calls.spliced_cons (Subscript_ (wpAny_Name (wpAny_loadName_free kind hm hc0 cell ?_ cm) dm))
  refine wpAny_Name (wpAny_loadName_local kind hx hns ns_one ?_) dx
  have pl2 : g.IsList l its.toArray := by
    obtain ⟨o, h1, h2, n, h3⟩ := pl.isList
    exact ⟨o, up _ _ h1, h2, n, h3⟩
  refine item_listR (x := w') pl2 (by omega) (by omega) (by rw [Int.toNat_natCast]; simpa using ew) ?_ (by rfl)
  refine Calls.spliced_cons (wpAny_Name (wpAny_loadName_local kind hx hns ns_one (Calls.spliced_nil ⟨by show 2 ≤ sizeLine; decide, ?_⟩)) dx)
  refine ⟨_, _, rfl, fun b o e => Heap.get?_push_of_some _ e, ?_⟩
  exact Reads.tuple (as := [] ++ ([] ++ [])) (Heap.get?_push_size _ rfl) rfl rfl (.cons (ld.reads rw') (.cons (.int _ t) .nil))
/-! ### {k: v for x in a list} -/
theorem dc_list {K : PySem.W.Frag} {a : Addr} {xs : List V} {g : TG} {tt : TT} {tk tv : TE} {vs : List Nat} {σ : L2.St} {H1 : Hp} {D : Addr} {Qd : Hp → Prop} (Pv : Nat → Hp → Prop) (h0 : Pv 0 (upd H1 D (.dK []))) (hl : ∀ i H, i ≤ xs.length → Pv i H → SqL K H a xs)
    (hs : ∀ i x H, xs[i]? = some x → Pv i H → g x (wipe σ vs) H fun σ2 H2 => wipe σ2 vs = wipe σ vs ∧ tt σ2 H2 fun b H3 =>
      if b = true then tk σ2 H3 fun y H4 => tv σ2 H4 fun z H5 => ∃ kvs k, y = kV k ∧ H5 D = some (.dK kvs) ∧ kvs.length < sizeLine ∧ Pv (i + 1) (upd H5 D (.dK (putK kvs k z))) else Pv (i + 1) H3) (hd : ∀ H, Pv xs.length H → Qd H) :
    ∃ W : Nat → Nat → Hp → Prop, (∃ m, W 0 m (upd H1 D (.dK []))) ∧ ∀ i m H, W i m H →
      ((Itl K a).stop i H ∧ Qd H) ∨ ((Itl K a).go i H ∧ ∃ Nx : Hp → Prop, (∀ H', Nx H' → ∃ m', m' < m ∧ W (i + 1) m' H') ∧ ∀ x H', (Itl K a).yld i H x H' → g x (wipe σ vs) H' fun σ2 H2 => wipe σ2 vs = wipe σ vs ∧ tt σ2 H2 fun b H3 =>
        if b = true then tk σ2 H3 fun y H4 => tv σ2 H4 fun z H5 => ∃ kvs k, y = kV k ∧ H5 D = some (.dK kvs) ∧ kvs.length < sizeLine ∧ Nx (upd H5 D (.dK (putK kvs k z))) else Nx H3) := by
  refine ⟨fun i m H => m + i = xs.length ∧ Pv i H, ⟨xs.length, rfl, h0⟩, fun i m H ⟨e, p⟩ => ?_⟩
  have q := hl i H (by omega) p
  cases m with
  | zero =>
    have e : i = xs.length := by omega
    subst e
    exact .inl ⟨⟨xs, q, Nat.le_refl _⟩, hd H p⟩
  | succ m =>
    have hlt : i < xs.length := by omega
    refine .inr ⟨⟨xs, xs[i], q, List.getElem?_eq_getElem hlt⟩, Pv (i + 1), fun H' p' => ⟨m, Nat.lt_succ_self m, by omega, p'⟩, fun x H' y => ?_⟩
    obtain ⟨rfl, y⟩ := y
    exact hs i x _ (y xs q) p
/-! ### the first half of a sorted row -/
theorem count_take {α : Type} [BEq α] {lt : α → α → Bool} (irr : ∀ a, lt a a = false) (asy : ∀ a b, lt a b = true → lt b a = false) : ∀ {xs : List α} {h : Nat} {x : α}, xs.Pairwise (fun a b => lt a b = true) → x ∈ xs → (x ∈ xs.take h ↔ (xs.filter fun y => lt y x).length < h)
  | [], _, _, _, hx => by cases hx
  | a :: as, 0, x, _, _ => by
    simp
  | a :: as, h + 1, x, hp, hx => by
    obtain ⟨h1, h2⟩ := List.pairwise_cons.mp hp
    rw [List.take_succ_cons, List.mem_cons, List.filter_cons]
    by_cases e : x = a
    · subst e
      have f : as.filter (fun y => lt y x) = [] := by
        rw [List.filter_eq_nil_iff]
        intro y hy z
        rw [asy _ _ (h1 y hy)] at z
        cases z
      rw [irr, f]
      simp
    · have hx2 : x ∈ as := (List.mem_cons.mp hx).resolve_left e
      have ih := count_take (h := h) irr asy h2 hx2
      rw [h1 x hx2]
      simp only [e, false_or, if_true, List.length_cons]
      rw [ih]
      omega
/-- the numbers below n that a strict order puts ahead of i -/
def aheadN (lt : Nat → Nat → Bool) (n i : Nat) : Nat := ((List.range n).filter fun k => lt k i).length
theorem in_half {lt : Nat → Nat → Bool} (irr : ∀ a, lt a a = false) (tr : ∀ a b c, lt a b = true → lt b c = true → lt a c = true) (tot : ∀ a b, a ≠ b → lt a b = true ∨ lt b a = true) {le : Nat → Nat → Bool} (hle : ∀ a b, le a b = !lt b a) {n h i : Nat} (hi : i < n) :
    i ∈ ((List.range n).mergeSort le).take h ↔ aheadN lt n i < h := by
  have asy : ∀ a b, lt a b = true → lt b a = false := fun a b e => by
    cases q : lt b a with
    | false => rfl
    | true =>
      have z := tr a b a e q
      rw [irr] at z
      cases z
  have perm := List.mergeSort_perm (List.range n) le
  have nd : ((List.range n).mergeSort le).Nodup := perm.nodup_iff.mpr List.nodup_range
  have pw := List.pairwise_mergeSort (le := le) (fun a b c h1 h2 => by
    rw [hle] at h1 h2 ⊢
    simp only [Bool.not_eq_true'] at h1 h2 ⊢
    cases q : lt c a with
    | false => rfl
    | true =>
      by_cases e1 : a = b
      · subst e1
        rw [q] at h2
        cases h2
      · rcases tot a b e1 with z | z
        · rw [tr c a b q z] at h2
          cases h2
        · rw [h1] at z
          cases z) (fun a b => by
    rw [hle, hle]
    cases q : lt b a with
    | false => rfl
    | true => rw [asy _ _ q]; rfl) (List.range n)
  have ps : ((List.range n).mergeSort le).Pairwise (fun a b => lt a b = true) := by
    have both := pw.and nd
    refine both.imp fun {a b} ⟨h1, h2⟩ => ?_
    rw [hle] at h1
    simp only [Bool.not_eq_true'] at h1
    rcases tot a b h2 with z | z
    · exact z
    · rw [h1] at z
      cases z
  have hm : i ∈ (List.range n).mergeSort le := perm.mem_iff.mpr (List.mem_range.mpr hi)
  rw [count_take irr asy ps hm]
  unfold aheadN
  rw [(perm.filter _).length_eq]
/-! ### max of three -/
theorem call_max3 {X : Cx} (hc : X.calm = true) : CallR X (.builtin "max") (fun xs H Q => ∃ i j k, xs = [.int i, .int j, .int k] ∧ Q (.int (max (max i j) k)) H) := by
  intro pins s σ H xs us Q I r h
  obtain ⟨i, j, k, rfl, q⟩ := h
  obtain ⟨u, us2, rfl, r2⟩ : ∃ u us2, us = u :: us2 ∧ Vals [.int j, .int k] us2 ∧ RelV (.int i) u := by
    cases r with
    | cons a b => exact ⟨_, _, rfl, b, a⟩
  obtain ⟨v, w, rfl, ⟨t2, rfl⟩, ⟨t3, rfl⟩⟩ := vals2 r2.1
  obtain ⟨t1, rfl⟩ := r2.2
  refine max_three_ints (I.ok.hd hc) fun h' tk kp => ⟨_, H, I.kept kp, ?_, q⟩
  by_cases h1 : j > i <;> by_cases h2 : k > j <;> by_cases h3 : k > i <;> simp only [h1, h2, h3, if_true, if_false]
  all_goals first
    | (rw [show max (max i j) k = k by omega]; exact ⟨_, rfl⟩)
    | (rw [show max (max i j) k = j by omega]; exact ⟨_, rfl⟩)
    | (rw [show max (max i j) k = i by omega]; exact ⟨_, rfl⟩)
/-! ### marks that are ints, in their order -/
def ltI (ns : List Int) (a b : Nat) : Bool := decide (ns.getD a 0 < ns.getD b 0 ∨ (ns.getD a 0 = ns.getD b 0 ∧ a < b))
theorem ltI_irr (ns : List Int) (a : Nat) : ltI ns a a = false := decide_eq_false (by omega)
theorem ltI_tr (ns : List Int) (a b c : Nat) (h1 : ltI ns a b = true) (h2 : ltI ns b c = true) : ltI ns a c = true := by
  have h1 := of_decide_eq_true h1
  have h2 := of_decide_eq_true h2
  exact decide_eq_true (by omega)
theorem ltI_tot (ns : List Int) (a b : Nat) (h : a ≠ b) : ltI ns a b = true ∨ ltI ns b a = true := by
  by_cases q : ns.getD a 0 < ns.getD b 0 ∨ (ns.getD a 0 = ns.getD b 0 ∧ a < b)
  · exact .inl (decide_eq_true q)
  · exact .inr (decide_eq_true (by omega))
def keyI (ns : List Int) (b : Nat) : PyData := .tuple [.int (ns.getD b 0), .int (b : Int)]
theorem leI (ns : List Int) : PySem.W.dataLe false (keyI ns) = fun a b => !ltI ns b a := by
  have z := PySem.W.dataLe_ii (β := Nat) (fun b => ns.getD b 0) (fun b => (b : Int))
  have z2 : PySem.W.dataLe false (keyI ns) = fun p q => decide (ns.getD p 0 < ns.getD q 0 ∨ (ns.getD p 0 = ns.getD q 0 ∧ (p : Int) ≤ (q : Int))) := z
  rw [z2]
  funext p q
  unfold ltI
  by_cases h : ns.getD q 0 < ns.getD p 0 ∨ (ns.getD q 0 = ns.getD p 0 ∧ q < p)
  · rw [decide_eq_true h, decide_eq_false (by omega)]
    rfl
  · rw [decide_eq_false h, decide_eq_true (by omega)]
    rfl
/-- what halves_by tells of marks in a strict order -/
def halvesL (lt : Nat → Nat → Bool) (n : Nat) : List V := (List.range n).map fun i => V.int (if aheadN lt n i < n / 2 then 0 else 1)
theorem cut_half {ord : List Nat} {ms : List V} {n : Nat} (lo : ord.length = n) (lm : ms.length = n) : cutV (ord.map fun b : Nat => V.int (b : Int)) none (some ((ms.length : Int) / 2)) = (ord.take (n / 2)).map fun b : Nat => V.int (b : Int) := by
  have l1 : (ord.map fun b : Nat => V.int (b : Int)).length = n := by rw [List.length_map, lo]
  have e : HT.sIx n n (some ((n : Int) / 2)) = n / 2 := by
    rw [show (n : Int) / 2 = ((n / 2 : Nat) : Int) by omega, HT.sIx_nat]
    omega
  have e0 : HT.sIx n 0 none = 0 := rfl
  unfold cutV
  rw [lm, l1, e, e0, List.drop_zero, Nat.sub_zero, List.map_take]
theorem halvesL_at {lt : Nat → Nat → Bool} {n j : Nat} (h : j < n) : (halvesL lt n)[j]? = some (V.int (if aheadN lt n j < n / 2 then 0 else 1)) := by
  unfold halvesL
  rw [List.getElem?_map, List.getElem?_range h]
  rfl
end SL
set_option Elab.async false
set_option linter.all false
set_option maxRecDepth 100000
set_option maxHeartbeats 4000000
namespace WD
open PySem PySem.Spec PyProof.Rows L2 CM LamX
/-! ### texts as lists of signs -/
abbrev cs (z : Str) : List Nat := z.cps.toList
theorem len_cs (z : Str) : z.length = (cs z).length := (Array.length_toList).symm
theorem str_ext {a b : Str} (h : cs a = cs b) : a = b := by
  cases a with
  | mk x => cases b with
    | mk y => exact congrArg Str.mk (Array.toList_inj.mp h)
theorem cs_mk (l : List Nat) : cs ⟨l.toArray⟩ = l := rfl
theorem cs_one (c : Nat) : cs ⟨#[c]⟩ = [c] := rfl
theorem cs_add (a b : Str) : cs (a ++ b) = cs a ++ cs b := by
  show (a.cps ++ b.cps).toList = _
  rw [Array.toList_append]
/-- how many signs two rows share at their beginning -/
def cpl : List Nat → List Nat → Nat
  | a :: as, b :: bs => if a = b then cpl as bs + 1 else 0
  | _, _ => 0
theorem cpl_of : ∀ {a b : List Nat} {k : Nat}, k ≤ a.length → k ≤ b.length → a.take k = b.take k → (∀ x y, a[k]? = some x → b[k]? = some y → x ≠ y) → cpl a b = k
  | [], b, k, h1, _, _, _ => by
    have : k = 0 := by simpa using h1
    subst this
    cases b <;> rfl
  | a :: as, [], k, _, h2, _, _ => by
    have : k = 0 := by simpa using h2
    subst this
    rfl
  | a :: as, b :: bs, 0, _, _, _, hd => by
    show (if a = b then cpl as bs + 1 else 0) = 0
    rw [if_neg (hd a b rfl rfl)]
  | a :: as, b :: bs, k + 1, h1, h2, ht, hd => by
    rw [List.take_succ_cons, List.take_succ_cons] at ht
    have e1 := (List.cons.inj ht).1
    have e2 := (List.cons.inj ht).2
    show (if a = b then cpl as bs + 1 else 0) = k + 1
    rw [if_pos e1, cpl_of (by simpa using h1) (by simpa using h2) e2 (fun x y hx hy => hd x y (by simpa using hx) (by simpa using hy))]
/-- the longest text with which both begin -/
def com (a b : Str) : Str := ⟨((cs a).take (cpl (cs a) (cs b))).toArray⟩
theorem com_of {a b : Str} {k : Nat} (h1 : k ≤ (cs a).length) (h2 : k ≤ (cs b).length) (ht : (cs a).take k = (cs b).take k) (hd : ∀ x y, (cs a)[k]? = some x → (cs b)[k]? = some y → x ≠ y) {z : Str} (hz : cs z = (cs a).take k) : z = com a b := by
  refine str_ext ?_
  show cs z = (cs a).take (cpl (cs a) (cs b))
  rw [hz, cpl_of h1 h2 ht hd]
/-- b at the beginning of a -/
def isPre (b a : Str) : Bool := decide ((cs a).take (cs b).length = cs b)
theorem starts (a b : Str) : Txt.startswith a b = isPre b a := by
  unfold Txt.startswith isPre
  have e : (Builtin.Str.subAt a b 0) = decide ((cs a).take (cs b).length = cs b) := by
    unfold Builtin.Str.subAt
    rw [Nat.zero_add, len_cs b]
    have e1 : (a.cps.extract 0 (cs b).length).toList = (cs a).take (cs b).length := by simp
    by_cases h : (cs a).take (cs b).length = cs b
    · have e2 : a.cps.extract 0 (cs b).length = b.cps := Array.toList_inj.mp (e1.trans h)
      rw [e2, decide_eq_true h]
      simp
    · rw [decide_eq_false h]
      refine beq_eq_false_iff_ne.mpr fun e2 => h ?_
      rw [← e1, e2]
  rw [e, Nat.zero_add]
  by_cases h : (cs a).take (cs b).length = cs b
  · have l := congrArg List.length h
    rw [List.length_take] at l
    rw [decide_eq_true h, len_cs a, len_cs b, decide_eq_true (by omega)]
    rfl
  · rw [decide_eq_false h, Bool.and_false]
theorem isPre_long {a b : Str} (h : (cs a).length < (cs b).length) : isPre b a = false := by
  refine decide_eq_false fun e => ?_
  have l := congrArg List.length e
  rw [List.length_take] at l
  omega
/-- the places below j at which the two differ -/
def diffs (a b : List Nat) (j : Nat) : List Nat := (List.range j).filter fun k => !decide (a.getD k 0 = b.getD k 0)
theorem diffs_succ (a b : List Nat) (j : Nat) : diffs a b (j + 1) = if (!decide (a.getD j 0 = b.getD j 0)) = true then diffs a b j ++ [j] else diffs a b j := by
  unfold diffs
  rw [List.range_succ, List.filter_append]
  by_cases h : (!decide (a.getD j 0 = b.getD j 0)) = true
  · rw [if_pos h, List.filter_cons_of_pos (p := fun k => !decide (a.getD k 0 = b.getD k 0)) h]
    rfl
  · rw [if_neg h, List.filter_cons_of_neg (p := fun k => !decide (a.getD k 0 = b.getD k 0)) h]
    exact List.append_nil _
theorem diffs_nil {a b : List Nat} : ∀ {j : Nat}, j ≤ a.length → j ≤ b.length → ((diffs a b j).isEmpty = true ↔ a.take j = b.take j)
  | 0, _, _ => by simp [diffs]
  | j + 1, h1, h2 => by
    have ih := diffs_nil (a := a) (b := b) (j := j) (by omega) (by omega)
    unfold diffs at ih ⊢
    rw [List.range_succ, List.filter_append, List.take_add_one, List.take_add_one, List.getElem?_eq_getElem (show j < a.length by omega), List.getElem?_eq_getElem (show j < b.length by omega)]
    have g1 : a.getD j 0 = a[j] := by rw [List.getD_eq_getElem?_getD, List.getElem?_eq_getElem (show j < a.length by omega)]; rfl
    have g2 : b.getD j 0 = b[j] := by rw [List.getD_eq_getElem?_getD, List.getElem?_eq_getElem (show j < b.length by omega)]; rfl
    by_cases e : a[j] = b[j]
    · have f : [j].filter (fun k => !decide (a.getD k 0 = b.getD k 0)) = [] := by
        rw [List.filter_cons_of_neg (by rw [g1, g2, e]; simp)]
        rfl
      rw [f, List.append_nil, ih, e]
      exact ⟨fun z => by rw [z], fun z => (List.append_inj' z rfl).1⟩
    · have f : [j].filter (fun k => !decide (a.getD k 0 = b.getD k 0)) = [j] := by
        rw [List.filter_cons_of_pos (by rw [g1, g2]; simp [e])]
        rfl
      rw [f]
      constructor
      · intro z
        simp at z
      · intro z
        have l : (a.take j).length = (b.take j).length := by rw [List.length_take, List.length_take]; omega
        have z2 := (List.append_inj z l).2
        exact absurd (by simpa using z2) e
theorem diffs_pre {a b : Str} (h : (cs b).length ≤ (cs a).length) : (diffs (cs a) (cs b) (cs b).length).isEmpty = isPre b a := by
  have z := diffs_nil (a := cs a) (b := cs b) h (Nat.le_refl _)
  rw [List.take_length] at z
  unfold isPre
  cases e : (diffs (cs a) (cs b) (cs b).length).isEmpty with
  | true => rw [decide_eq_true (z.mp e)]
  | false => rw [decide_eq_false fun q => by rw [z.mpr q] at e; cases e]
/-! ### marks that are texts, in their order -/
def ltS (zs : List Str) (a b : Nat) : Bool := decide (cs (zs.getD a Str.empty) < cs (zs.getD b Str.empty) ∨ (cs (zs.getD a Str.empty) = cs (zs.getD b Str.empty) ∧ a < b))
theorem ltS_irr (zs : List Str) (a : Nat) : ltS zs a a = false := decide_eq_false fun h => by
  rcases h with h | ⟨_, h⟩
  · exact absurd h (List.lt_irrefl _)
  · omega
theorem ltS_tr (zs : List Str) (a b c : Nat) (h1 : ltS zs a b = true) (h2 : ltS zs b c = true) : ltS zs a c = true := by
  have h1 := of_decide_eq_true h1
  have h2 := of_decide_eq_true h2
  refine decide_eq_true ?_
  rcases h1 with h1 | ⟨h1, l1⟩
  · rcases h2 with h2 | ⟨h2, l2⟩
    · exact .inl (List.lt_trans h1 h2)
    · exact .inl (by rw [← h2]; exact h1)
  · rcases h2 with h2 | ⟨h2, l2⟩
    · exact .inl (by rw [h1]; exact h2)
    · exact .inr ⟨h1.trans h2, by omega⟩
theorem ltS_tot (zs : List Str) (a b : Nat) (h : a ≠ b) : ltS zs a b = true ∨ ltS zs b a = true := by
  unfold ltS
  generalize cs (zs.getD a Str.empty) = x
  generalize cs (zs.getD b Str.empty) = y
  by_cases e : x = y
  · by_cases l : a < b
    · exact .inl (decide_eq_true (.inr ⟨e, l⟩))
    · exact .inr (decide_eq_true (.inr ⟨e.symm, by omega⟩))
  · by_cases l : x < y
    · exact .inl (decide_eq_true (.inl l))
    · exact .inr (decide_eq_true (.inl (by
        have l2 : y ≤ x := List.not_lt.mp l
        rcases List.le_iff_lt_or_eq.mp l2 with z | z
        · exact z
        · exact absurd z.symm e)))
def keyS (zs : List Str) (b : Nat) : PyData := .tuple [.str (zs.getD b Str.empty), .int (b : Int)]
theorem dataLt_si (x : Str) (i : Int) (y : Str) (j : Int) : PySem.W.dataLt (.tuple [.str x, .int i]) (.tuple [.str y, .int j]) = decide (cs x < cs y ∨ (cs x = cs y ∧ i < j)) := by
  rw [PySem.W.dataLt_pair (by simp [PySem.W.alike]) (by simp [PySem.W.alike]), PySem.W.dataLt_int, PySem.W.dataLt_str]
  by_cases e : x = y
  · subst e
    have n : ¬ cs x < cs x := List.lt_irrefl _
    rw [if_pos (show PyData.eqv (.str x) (.str x) = true by simp [PyData.eqv])]
    by_cases e2 : i = j
    · rw [if_pos (show PyData.eqv (.int i) (.int j) = true by simp [PyData.eqv, e2])]
      exact (decide_eq_false fun h => h.elim n fun z => by omega).symm
    · rw [if_neg (show ¬ PyData.eqv (.int i) (.int j) = true by simp [PyData.eqv, e2])]
      exact decide_eq_decide.mpr ⟨fun h => .inr ⟨rfl, h⟩, fun h => h.elim (fun z => absurd z n) fun z => z.2⟩
  · have e3 : ¬ cs x = cs y := fun z => e (str_ext z)
    rw [if_neg (show ¬ PyData.eqv (.str x) (.str y) = true by simp [PyData.eqv, e])]
    exact decide_eq_decide.mpr ⟨.inl, fun h => h.elim id fun z => absurd z.1 e3⟩
theorem leS (zs : List Str) : PySem.W.dataLe false (keyS zs) = fun a b => !ltS zs b a := by
  rw [PySem.W.dataLe_eq]
  funext a b
  show (!PySem.W.dataLt (keyS zs b) (keyS zs a)) = _
  unfold keyS ltS
  rw [dataLt_si]
  refine congrArg (fun q : Bool => !q) (decide_eq_decide.mpr ⟨fun h => ?_, fun h => ?_⟩)
  · exact h.imp id fun z => ⟨z.1, by omega⟩
  · exact h.imp id fun z => ⟨z.1, by omega⟩
/-! ### (text, int) < (text, int) -/
def rLtSI (K : PySem.W.Frag) : R2 := fun x y H Q => ∃ (a b : Addr) (z w : Str) (i j : Int), x = .ref a ∧ y = .ref b ∧ SqT K H a [.str z, .int i] ∧ SqT K H b [.str w, .int j] ∧ Q (.bl (decide (cs z < cs w ∨ (cs z = cs w ∧ i < j)))) H
theorem op_ltSI {X : Cx} {K : PySem.W.Frag} (hu : X.A.units + 64 < cLine) (hK : X.K = K := by rfl) : OpR X (compareOp .Lt) (rLtSI K) := by
  subst hK
  intro pins s σ H x y v u Q I rx ry h
  obtain ⟨a, b, z, w, i, j, rfl, rfl, ha, hb, q⟩ := h
  cases rx
  cases ry
  obtain ⟨us, r1, p1, _⟩ := I.tuple ha
  obtain ⟨ws, r2, p2, _⟩ := I.tuple hb
  have rd : ∀ {c : Addr} {us : List Value} {z : Str} {i : Int}, Vals [V.str z, V.int i] us → IsTup s.heap c us.toArray → Reads s.heap (.ref c) (.tuple [.str z, .int i]) [] := fun {c us z i} r p => by
    obtain ⟨u1, u2, rfl, ⟨t1, rfl⟩, ⟨t2, rfl⟩⟩ := vals2 r
    obtain ⟨o, h1, h2, n, h3⟩ := p
    exact Reads.tuple (as := [] ++ ([] ++ [])) h1 h2 h3 (.cons (.str z t1) (.cons (.int i t2) .nil))
  have e := PySem.W.rcLt_alike (.tuple [.str z, .int i]) (.tuple [.str w, .int j]) X.A s (.ref a) (.ref b) [] [] (rd r1 p1) (rd r2 p2) (by simp [PySem.W.alike, PySem.W.alikeAll]) (fun z => by cases z) (by
    have : min (PyData.tuple [.str z, .int i]).depth (PyData.tuple [.str w, .int j]).depth ≤ 64 := Nat.le_trans (Nat.min_le_left _ _) (by show 1 ≤ 64; decide)
    omega)
  rw [dataLt_si] at e
  exact e X.prog X.w X.xe _ ⟨.bl _, H, I, rfl, q⟩
/-! ### a == [] of a list -/
def rEqNilL (K : PySem.W.Frag) : R2 := fun x y H Q => ∃ (a b : Addr) (xs : List V), x = .ref a ∧ y = .ref b ∧ SqL K H a xs ∧ SqL K H b [] ∧ Q (.bl xs.isEmpty) H
theorem op_eqNilL {X : Cx} {K : PySem.W.Frag} (hu : X.A.units + 64 < cLine) (hK : X.K = K := by rfl) : OpR X (compareOp .Eq) (rEqNilL K) := by
  subst hK
  intro pns s σ H x y v u Q I rx ry h
  obtain ⟨a, b, xs, rfl, rfl, ha, hb, q⟩ := h
  cases (show v = Value.ref a from rx)
  cases (show u = Value.ref b from ry)
  obtain ⟨us, r1, p1, _⟩ := I.list ha
  obtain ⟨ws, r2, p2, _⟩ := I.list hb
  cases r2
  cases r1 with
  | nil =>
    exact SeqAt.eq_listAt (e := fun _ => true) p1.isList p2.isList rfl (by omega) (fun j h1 h2 => absurd h2 (by simp)) ⟨.bl true, H, I, rfl, q⟩
  | cons a1 b1 => exact SeqAt.eq_list_lengthsAt p1.isList p2.isList (by simp) (by omega) ⟨.bl false, H, I, rfl, q⟩
end WD
set_option Elab.async false
set_option linter.all false
set_option maxRecDepth 100000
set_option maxHeartbeats 4000000
namespace GD
open PySem PySem.Spec PyProof.Rows L2 CM LamX
/-! ### promises of defs that are called where no repr runs -/
structure FnG (P : Program) (w : World) (K : PySem.W.Frag) (mg : Str → Option Value) (base : Heap) (CX : CXT) (k : Nat) (f : Addr) (fd : FuncData) (ps : List Str) (sp : Sp) : Prop where
  len : ∀ vs H Q E, sp vs H Q E → vs.length = ps.length
  run : ∀ (A : Around) (outer : List Env) (s : Shared) (H : Hp) (args : Args) (us : List Value) (vs : List V) (Q : VK) (E : XK), Room k A → A.guards = some [] → Env0 P w K mg base A outer s H →
    BindsTo s fd args (ps.zip us) → Vals vs us → sp vs H Q E → codeAny (model P w) A (.call (.ref f) args) (CR CX outer P w H s Q E) s
section
variable {P : Program} {w : World} {K : PySem.W.Frag} {mg : Str → Option Value} {base : Heap} {CX : CXT} {k j : Nat} {f : Addr} {fd : FuncData} {ps : List Str} {sp : Sp}
theorem FnG.of (F : FnOk P w K mg base CX k f fd ps sp) : FnG P w K mg base CX k f fd ps sp := ⟨F.len, fun A outer s H args us vs Q E hr _ => F.run A outer s H args us vs Q E hr⟩
theorem FnG.mono (F : FnG P w K mg base CX j f fd ps sp) (h : j ≤ k) : FnG P w K mg base CX k f fd ps sp := ⟨F.len, fun A outer s H args us vs Q E hr => F.run A outer s H args us vs Q E (hr.mono h)⟩
variable {x qual : Str} {params : Arguments} {body : List Stmt} {scope : Scope} {dvs : List V} {kws : List (Str × V)}
theorem okG {N : List Str} (F : FunD K x qual params body scope dvs kws f fd) (S : FnScope N ps scope) (len : ∀ vs H Q E, sp vs H Q E → vs.length = ps.length)
    (hbody : ∀ (cdv : Value) (A : Around) (outer : List Env) (s : Shared) (H : Hp) (vs : List V) (Q : VK) (E : XK), Room k (A.deeper (envOfC qual scope s.heap.objs.size f cdv)) → A.guards = some [] → sp vs H Q E →
      ∃ t, PSs (cxOf CX P w K mg base N qual scope f cdv A outer s H E) body t ∧ t { nx := fun _ H' => Q .non H', rt := Q } (start N vs) H) : FnG P w K mg base CX (k + 1) f fd ps sp := by
  obtain ⟨oc, od, dV, kV, doc, pm, an, cdv, ct, osl, hfd, lk, hcd, _, _⟩ := F.ex
  subst hfd
  refine ⟨len, fun A outer s0 H args us vs Q E room gd e0 bt rv asked => ?_⟩
  have old : ∀ b o, base.get? b = some o → s0.heap.get? b = some o := fun b o e => (e0.bs b o e).1
  refine codeAny_call_function room.depth (e0.mod.kin.keeps old _ _ lk) rfl S.co S.gen rfl (PySem.W.codeRec_of (e0.mod.kin.keeps old) hcd) (bt _ _ _ _ (wpAny_newFunctionEnv_cells S.kind (fun y hy => ?_) fun env he t x => ?_))
  · exact (S.par y.1 (List.of_mem_zip (show (y.1, y.2) ∈ ps.zip us from hy)).1).elim .inl fun q => .inr ⟨q, PySem.W.cellsFrom_some _ _ _ (.inl q)⟩
  · subst he
    obtain ⟨tt, ht, rd⟩ := hbody cdv A outer s0 H vs Q E (room.deeper _) gd asked
    have J : Inv (cxOf CX P w K mg base N qual scope f cdv A outer s0 H E) [] (start N vs) H t := inv_start S room.hd e0 (len _ _ _ _ asked) rv x
    refine ⟨(e0.mod.nolimit.keeps old).keeps x.toInCall.keep, codeAny_func (wpAny_mono (ht.run [] t (start N vs) H _ J rd) (fun fl t2 got => ?_) fun _ _ got => got)⟩
    cases fl with
    | ret u => obtain ⟨v, σ2, H2, J2, r2, q2⟩ := got; exact ⟨v, H2, J2.os, J2.bare, J2.base, J2.hok, r2, q2⟩
    | next => obtain ⟨σ2, H2, J2, q2⟩ := got; exact ⟨V.non, H2, J2.os, J2.bare, J2.base, J2.hok, rfl, q2⟩
    | brk =>
      obtain ⟨_, _, _, z⟩ := got
      exact False.elim z
    | cont =>
      obtain ⟨_, _, _, z⟩ := got
      exact False.elim z
end
/-! ### calls of such defs -/
section
variable {X : Cx} {CX : CXT} {k : Nat} {f : Addr} {fd : FuncData} {ps : List Str} {sp : Sp} {dvs : List V} {ds : List Value} {E : XK} {x : Str} {e : Expr} {es : List Expr} {t : TA} {p pos : Pos}
theorem run_fnG {pins : List (Addr × Obj)} {σ : L2.St} {H : Hp} {s : Shared} {Q : VK} {us : List Value} {vs : List V} (F : FnG X.prog X.w X.K X.mg X.base CX k f fd ps sp) (hr : Room k X.A) (gd : X.A.guards = some []) (hb : Binds X.K fd ps ds) (hd : Vals dvs ds) (hx : Passes CX X E)
    (I : Inv X pins σ H s) (r : Vals vs us) (h : sp (vs ++ dvs) H Q E) : wpAny (model X.prog X.w) X.A (call (.ref f) us) (EP X pins σ Q) X.xe s := by
  have rr := r.append hd
  refine wpAny_call (codeAny_mono (F.run X.A X.stack s H ⟨us, []⟩ (us ++ ds) (vs ++ dvs) Q E hr gd I.env0 (hb s us I.kIn (rr.length.symm.trans (F.len _ _ _ _ h))) rr h) fun res s2 got => ?_)
  match res, got with
  | .error er, got => exact hx pins σ H s er s2 I got
  | .ok (.ret u), got => exact I.after got
  | .ok .next, got => exact False.elim got
  | .ok .brk, got => exact False.elim got
  | .ok .cont, got => exact False.elim got
theorem pe_callG (F : FnG X.prog X.w X.K X.mg X.base CX k f fd ps sp) (hr : Room k X.A) (gd : X.A.guards = some []) (hg : Gl X x) (hm : X.mg x = some (.ref f)) (hk : PySem.W.keepIn X.K (.ref f) = true) (hb : Binds X.K fd ps ds) (hd : Vals dvs ds) (hx : Passes CX X E)
    (ha : PA X (e :: es) t) (hdb : (x == ("__debug__" : Str)) = false := by decide) (he : starEach (e :: es) X.env = (false, eval e X.env) :: starEach es X.env := by rfl) (hpl : (backTo pos (starEach es X.env)).any (·.1) = false := by rfl) :
    PE X (.Call (.Name x p) (e :: es) [] pos) (tCall sp dvs E t) :=
  ⟨fun pins s σ H Q I h => wpAny_Call_Name_kw (ld_glob I hg hm (PySem.W.callWith_K (h₀ := X.base) I.ok.mod.kin hk (thn (ha.run pos pins s σ H _ I h) fun us s1 ⟨vs, H1, I1, r, q⟩ => ⟨I1.kIn, run_fnG F hr gd hb hd hx I1 r q⟩) he hpl) hdb)⟩
theorem pe_callG0 (F : FnG X.prog X.w X.K X.mg X.base CX k f fd ps sp) (hr : Room k X.A) (gd : X.A.guards = some []) (hg : Gl X x) (hm : X.mg x = some (.ref f)) (hk : PySem.W.keepIn X.K (.ref f) = true) (hb : Binds X.K fd ps ds) (hd : Vals dvs ds) (hx : Passes CX X E)
    (hdb : (x == ("__debug__" : Str)) = false := by decide) : PE X (.Call (.Name x p) [] [] pos) (tCall sp dvs E tNil) :=
  ⟨fun pins s σ H Q I h => wpAny_Call_Name_kw (ld_glob I hg hm (PySem.W.callWith_K0 I.kIn hk (run_fnG (us := []) F hr gd hb hd hx I .nil h)) hdb)⟩
end
/-- such a def of the text, by the module's name of it -/
structure CalG (P : Program) (w : World) (K : PySem.W.Frag) (mg : Str → Option Value) (base : Heap) (CX : CXT) (x : Str) (k : Nat) (ps : List Str) (sp : Sp) : Prop where
  ex : ∃ (f : Addr) (fd : FuncData), FnG P w K mg base CX k f fd ps sp ∧ Binds K fd ps [] ∧ mg x = some (.ref f) ∧ PySem.W.keepIn K (.ref f) = true
/-! ### the end -/
section
variable {P : Program} {w : World} {K : PySem.W.Frag} {mg mb : Str → Option Value} {CX : CXT} {k : Nat} {fa a : Addr} {cs : List (Addr × Addr)} {fd : FuncData} {x : Str} {sp : Sp} {g : Shared} {vs : List Value} {ns : List Int}
/-- what is tracked when the law is called: the script, unless it is written, and the tables -/
def H0 (K : PySem.W.Frag) (a : Addr) (ob : Obj) (xs : List V) (T : List Addr) : Hp := fun b => if b ∈ T then some (.tbl #[]) else if b = a ∧ K.lookup a = none then some (.frz ob (.lst xs)) else none
theorem H0_cases {ob : Obj} {xs : List V} {T : List Addr} {b : Addr} {u : HO} (e : H0 K a ob xs T b = some u) : (b ∈ T ∧ u = .tbl #[]) ∨ (b ∉ T ∧ b = a ∧ K.lookup a = none ∧ u = .frz ob (.lst xs)) := by
  unfold H0 at e
  by_cases h : b ∈ T
  · rw [if_pos h] at e
    exact .inl ⟨h, (Option.some.inj e).symm⟩
  · rw [if_neg h] at e
    by_cases h2 : b = a ∧ K.lookup a = none
    · rw [if_pos h2] at e
      exact .inr ⟨h, h2.1, h2.2, (Option.some.inj e).symm⟩
    · rw [if_neg h2] at e
      cases e
theorem law_callG (KX : K.In g.heap) (hns : g.heap.Ns mainGlobals mg) (hb : g.heap.Ns builtinsNs mb) (hbb : ∀ y : Str, y ≠ "__name__" → mb y = bootBuiltins y) (lim : g.heap.NoLimit) (gens : g.gens = #[])
    (hT : ∀ p ∈ cs, g.heap.get? p.2 = some { cls := .none, data := .fields #[] }) (nT : ∀ p ∈ cs, K.lookup p.2 = none) (hC : ∀ p ∈ cs, PySem.W.CodeHd g.heap p.1 p.2)
    (bm : ∃ (bm : Addr) (ob : Obj), mg "__builtins__" = some (.ref bm) ∧ bm ≠ builtinsNs ∧ g.heap.get? bm = some ob ∧ ob.cls = .type "module" ∧ ob.dict = some builtinsNs ∧ ob.data = .plain)
    (ha : g.heap.get? a = some { cls := .type "list", data := .seq vs.toArray }) (hi : IntsAre vs ns) (hl : ns.length ≤ sizeLine) (room : Room k callerA)
    (F : ∀ base : Heap, K.In base → base.Ns mainGlobals mg → (∀ p ∈ cs, TabB base mg p.1 p.2) → FnG P w K mg base CX k fa fd [x] sp) (bind : ∀ (s : Shared) (u : Value), BindsTo s fd ⟨[u], []⟩ [(x, u)])
    (asked : ∀ H : Hp, (∀ p ∈ cs, H p.2 = some (.tbl #[])) → SqL K H a (ns.map V.int) → sp [.ref a] H (fun v _ => v = .bl true) fun _ _ _ => False)
    (noX : ∀ H e s2, CX [] H g (fun _ _ _ => False) e s2 → False) :
    codeAny (model P w) callerA (.call (.ref fa) ⟨[.ref a], []⟩) (fun r s2 => r = .ok (.ret (.bool true)) ∧ OldK g.heap s2.heap ∧ s2.os = g.os ∧ AllBare s2.gens) g := by
  have rv := vals_ints hi
  have lv := hi.length
  generalize hTs : cs.map (·.2) = T
  have tabAt : ∀ b ∈ T, g.heap.get? b = some { cls := .none, data := .fields #[] } ∧ K.lookup b = none := fun b m => by
    rw [← hTs] at m
    obtain ⟨p, hp, rfl⟩ := List.mem_map.mp m
    exact ⟨hT p hp, nT p hp⟩
  have inT : ∀ p ∈ cs, p.2 ∈ T := fun p hp => hTs ▸ List.mem_map.mpr ⟨p, hp, rfl⟩
  have aT : a ∉ T := fun m => by
    have z := (tabAt a m).1
    rw [ha] at z
    cases z
  generalize hH : H0 K a { cls := .type "list", data := .seq vs.toArray } (ns.map V.int) T = H
  have cse : ∀ {b : Addr} {u : HO}, H b = some u → (b ∈ T ∧ u = .tbl #[]) ∨ (b ∉ T ∧ b = a ∧ K.lookup a = none ∧ u = .frz { cls := .type "list", data := .seq vs.toArray } (.lst (ns.map V.int))) := fun e => H0_cases (by rw [hH]; exact e)
  have tbl : ∀ p ∈ cs, H p.2 = some (.tbl #[]) := fun p hp => by
    rw [← hH]
    exact if_pos (inT p hp)
  have lsz : (ns.map V.int).length ≤ sizeLine := by rw [List.length_map]; exact hl
  have ok : HOk P w H g.heap := fun b u e => by
    rcases cse e with ⟨m, rfl⟩ | ⟨_, rfl, _, rfl⟩
    · exact (tabAt b m).1
    · exact ⟨ha, lsz, vs, _, rv, ha⟩
  have sq : SqL K H a (ns.map V.int) := by
    cases kl : K.lookup a with
    | none =>
      refine .inl (.inr ⟨{ cls := .type "list", data := .seq vs.toArray }, ?_⟩)
      rw [← hH]
      exact (if_neg aT).trans (if_pos ⟨rfl, kl⟩)
    | some o =>
      have z := KX a o kl
      rw [ha] at z
      cases z
      exact .inr ⟨_, vs.toArray, _, kl, rfl, rfl, rfl, by rw [List.size_toArray, lv]; exact hl, by simpa using rv⟩
  -- what is neither a table nor the script stands in the base
  have un : ∀ {b : Addr} {o : Obj}, g.heap.get? b = some o → (∀ its n, o.data ≠ .seq its n) → o.data ≠ .fields #[] → H b = none := fun {b o} e n1 n2 => by
    cases q : H b with
    | none => rfl
    | some u =>
      rcases cse q with ⟨m, _⟩ | ⟨_, rfl, _, _⟩
      · rw [(tabAt b m).1] at e
        cases e
        exact absurd rfl n2
      · rw [ha] at e
        cases e
        exact absurd rfl (n1 _ _)
  have unD : ∀ {b : Addr} {o : Obj} {es : Array DictEntry} {ep : Nat}, g.heap.get? b = some o → o.data = .dict es ep → H b = none := fun e d => un e (fun its n z => by rw [d] at z; cases z) fun z => by rw [d] at z; cases z
  have nsB : ∀ {b : Addr} {m : Str → Option Value}, g.heap.Ns b m → (hidT g.heap H).Ns b m := fun ⟨o, es, ep, e, d, r⟩ => ⟨o, es, ep, hidT_get e (unD e d), d, r⟩
  have kB : K.In (hidT g.heap H) := fun b o e => hidT_get (KX b o e) (by
    cases q : H b with
    | none => rfl
    | some u =>
      rcases cse q with ⟨m, _⟩ | ⟨_, rfl, z, _⟩
      · rw [(tabAt b m).2] at e
        cases e
      · rw [z] at e
        cases e)
  have md : L2.Mod K mg (hidT g.heap H) := ⟨kB, nsB hns, ⟨mb, nsB hb, hbb⟩, by
    obtain ⟨mc, h1, h2⟩ := lim
    exact ⟨mc, nsB h1, h2⟩⟩
  have tb : ∀ p ∈ cs, TabB (hidT g.heap H) mg p.1 p.2 := fun p hp => by
    have tp := hT p hp
    have gG : mainGlobals ≠ p.2 := fun z => by
      obtain ⟨o, es, ep, e, d, _⟩ := hns
      rw [z, tp] at e
      cases e
      cases d
    refine ⟨?_, ?_, gG⟩
    · obtain ⟨o, us, file, tf, flags, tg, inF, text, tt, e1, r1, r2, r3, r4, r5, r6, r7, r8, ne⟩ := hC p hp
      have e2 : H p.1 = none := un e1 (fun its n z => by rw [r2] at z; cases z) fun z => by
        rw [r2] at z
        cases z
        simp at r3
      exact ⟨o, us, file, tf, flags, tg, inF, text, tt, hidT_get e1 e2, r1, r2, r3, r4, r5, r6, r7, r8, ne⟩
    · obtain ⟨bmA, ob, b1, b2, b3, b4, b5, b6⟩ := bm
      have nG : bmA ≠ mainGlobals := fun z => by
        obtain ⟨o, es, ep, e, d, _⟩ := hns
        rw [z, e] at b3
        cases b3
        rw [d] at b6
        cases b6
      have nP : bmA ≠ p.2 := fun z => by
        rw [z, tp] at b3
        cases b3
        cases b6
      exact ⟨bmA, ob, b1, b2, nG, nP, hidT_get b3 (un b3 (fun its n z => by rw [b6] at z; cases z) fun z => by rw [b6] at z; cases z), b4, b5, b6⟩
  have en : Env0 P w K mg (hidT g.heap H) callerA [] g H := ⟨rfl, md, fun b o e => of_hidT e, Nat.le_of_eq (hidT_size _ _), trivial, fun b m => absurd (show b ∈ ([] : List Addr) from m) (by simp), ok, .of_eq gens⟩
  refine codeAny_mono ((F _ kB (nsB hns) tb).run callerA [] g H ⟨[.ref a], []⟩ [.ref a] [.ref a] _ _ room rfl en (bind g (.ref a)) (.cons rfl .nil) (asked H tbl sq)) fun res s2 got => ?_
  match res, got with
  | .error er, got => exact (noX H er s2 got).elim
  | .ok .next, got => exact False.elim got
  | .ok .brk, got => exact False.elim got
  | .ok .cont, got => exact False.elim got
  | .ok (.ret u), ⟨v, H2, os, bare, kept, ok2, ru, (q : v = .bl true)⟩ =>
    subst q
    obtain rfl : u = Value.bool true := ru
    have key : ∀ b o, b ∉ T → g.heap.get? b = some o → s2.heap.get? b = some o := fun b o nb e => by
      cases q : H b with
      | none => exact kept.keep b o e q (fun m => absurd (show b ∈ ([] : List Addr) from m) (by simp)) (by simp)
      | some u =>
        rcases cse q with ⟨m, _⟩ | ⟨_, rfl, _, rfl⟩
        · exact absurd m nb
        · obtain ⟨z, _⟩ := ok2 b _ (kept.frzs b _ _ q)
          rw [ha] at e
          cases e
          exact z
    refine ⟨rfl, ⟨fun b o e => ?_, fun b o e => ?_⟩, os, bare⟩
    · by_cases m : b ∈ T
      · rw [← hTs] at m
        obtain ⟨p, hp, rfl⟩ := List.mem_map.mp m
        obtain ⟨more, z⟩ := kept.tbls p.2 #[] (tbl p hp)
        rw [hT p hp] at e
        cases e
        exact .inr (.inl ⟨((hC p hp).tab (hT p hp)).isCodeTable, rfl, #[], more, rfl, ok2 p.2 _ z⟩)
      · exact .inl (key b o m e)
    · by_cases m : b ∈ T
      · rw [← hTs] at m
        obtain ⟨p, hp, rfl⟩ := List.mem_map.mp m
        obtain ⟨more, z⟩ := kept.tbls p.2 #[] (tbl p hp)
        exact ⟨_, ok2 p.2 _ z⟩
      · exact ⟨o, key b o m e⟩
end
/-- a law by the promise of its def -/
def LawG (l : PySem.W.OpenLaw) (w : World) (K : PySem.W.Frag) (CX : CXT) (k n : Nat) (x : Str) (mg : Str → Option Value) (fa : Addr) (h : Heap) : Prop :=
  ∃ (fd : FuncData) (cs : List (Addr × Addr)) (sp : Sp), (∀ p ∈ cs, h.get? p.2 = some { cls := .none, data := .fields #[] } ∧ K.lookup p.2 = none ∧ PySem.W.CodeHd h p.1 p.2) ∧ (∀ (s : Shared) (u : Value), BindsTo s fd ⟨[u], []⟩ [(x, u)]) ∧
    (∀ (H : Hp) (a : Addr) (ns : List Int), ns.length ≤ n → (∀ p ∈ cs, H p.2 = some (.tbl #[])) → SqL K H a (ns.map V.int) → sp [.ref a] H (fun v _ => v = .bl true) fun _ _ _ => False) ∧
    ∀ base : Heap, K.In base → base.Ns mainGlobals mg → (∀ p ∈ cs, TabB base mg p.1 p.2) → FnG l.prog w K mg base CX k fa fd [x] sp
theorem walk_G {l : PySem.W.OpenLaw} {n k : Nat} {q : Program} {loose : List Str} {XP : (Str → Option Value) → Heap → Prop} {YP : World → Heap → Prop} {d : DefRec} {CX : World → CXT} {x : Str}
    (most : l.most = some n) (n2 : n ≤ sizeLine) (plain : d.params.defaults = []) (room : Room k callerA)
    (F : ∀ (w : World) (mg : Str → Option Value) (fa : Addr) (h : Heap), YP w h → h.Ns mainGlobals mg → mg d.name = some (.ref fa) → ∃ K : PySem.W.Frag, K.In h ∧ LawG l w K (CX w) k n x mg fa h)
    (noX : ∀ (w : World) (H : Hp) (s : Shared) (e : Value) (s2 : Shared), CX w [] H s (fun _ _ _ => False) e s2 → False) :
    PySem.W.WalkO q loose XP YP l.row.toRowW d [] (fun f vs => PySem.call f vs) := by
  refine Att.attach_callB most plain fun w s0 g mg mb fa o pm cd doc a vs ns G Y ho hd hcd hmg hobj hints hlen hbits hg => ?_
  obtain ⟨K, KX, fd, cs, sp, hT, hb, asked, hF⟩ := F w mg fa _ Y G.T.g hmg
  exact law_callG KX G.T.g G.T.b G.T.builtins G.T.nolimit hg (fun p hp => (hT p hp).1) (fun p hp => (hT p hp).2.1) (fun p hp => (hT p hp).2.2) G.T.bmain hobj hints (Nat.le_trans hlen n2) room hF hb (fun H hH hS => asked H a ns hlen hH hS) fun H e s2 => noX w H g e s2
end GD
set_option Elab.async false
set_option linter.all false
set_option maxRecDepth 100000
set_option maxHeartbeats 4000000
namespace RZ
open PySem PySem.Spec PyProof.Rows L2 CM LamX
/-! ### what a value shows -/
mutual
inductive Shw (H : Hp) : V → PyData → Prop
  | non : Shw H .non .none
  | bl (b : Bool) : Shw H (.bl b) (.bool b)
  | int (i : Int) : Shw H (.int i) (.int i)
  | str (z : Str) : Shw H (.str z) (.str z)
  | lst {a : Addr} {xs : List V} {ds : List PyData} : H a = some (.lst xs) → ShwAll H xs ds → Shw H (.ref a) (.list ds)
  | tup {a : Addr} {xs : List V} {ds : List PyData} : H a = some (.tup xs) → ShwAll H xs ds → Shw H (.ref a) (.tuple ds)
inductive ShwAll (H : Hp) : List V → List PyData → Prop
  | nil : ShwAll H [] []
  | cons {v : V} {vs : List V} {d : PyData} {ds : List PyData} : Shw H v d → ShwAll H vs ds → ShwAll H (v :: vs) (d :: ds)
end
mutual
theorem Shw.noDict {H : Hp} : ∀ {v : V} {d : PyData}, Shw H v d → d.hasDict = false
  | _, _, .non => by simp only [PyData.hasDict]
  | _, _, .bl _ => by simp only [PyData.hasDict]
  | _, _, .int _ => by simp only [PyData.hasDict]
  | _, _, .str _ => by simp only [PyData.hasDict]
  | _, _, .lst _ h => by
    simp only [PyData.hasDict]
    exact h.noDict
  | _, _, .tup _ h => by
    simp only [PyData.hasDict]
    exact h.noDict
theorem ShwAll.noDict {H : Hp} : ∀ {vs : List V} {ds : List PyData}, ShwAll H vs ds → PyData.hasDictAll ds = false
  | _, _, .nil => by simp only [PyData.hasDictAll]
  | _, _, .cons h t => by simp only [PyData.hasDictAll, h.noDict, t.noDict, Bool.or_self]
end
mutual
theorem Shw.reads {P : Program} {w : World} {H : Hp} {h : Heap} (ok : HOk P w H h) : ∀ {v : V} {d : PyData}, Shw H v d → ∀ {u : Value}, RelV v u → ∃ as, Reads h u d as
  | _, _, .non, u, r => by
    obtain rfl : u = Value.none := r
    exact ⟨_, .none⟩
  | _, _, .bl b, u, r => by
    obtain rfl : u = Value.bool b := r
    exact ⟨_, .bool b⟩
  | _, _, .int i, u, r => by
    obtain ⟨t, rfl⟩ := r
    exact ⟨_, .int i t⟩
  | _, _, .str z, u, r => by
    obtain ⟨t, rfl⟩ := r
    exact ⟨_, .str z t⟩
  | _, _, .lst (a := a) e hs, u, r => by
    obtain rfl : u = Value.ref a := r
    obtain ⟨_, its, n, rv, g⟩ := (show ObjOk P w H h a (.lst _) from ok a _ e)
    obtain ⟨as, ra⟩ := hs.reads ok rv
    exact ⟨_, .list g rfl rfl (by simpa using ra)⟩
  | _, _, .tup (a := a) e hs, u, r => by
    obtain rfl : u = Value.ref a := r
    obtain ⟨_, its, rv, o, g, hc, n, hd⟩ := (show ObjOk P w H h a (.tup _) from ok a _ e)
    obtain ⟨as, ra⟩ := hs.reads ok rv
    exact ⟨_, .tuple g hc hd (by simpa using ra)⟩
theorem ShwAll.reads {P : Program} {w : World} {H : Hp} {h : Heap} (ok : HOk P w H h) : ∀ {vs : List V} {ds : List PyData}, ShwAll H vs ds → ∀ {us : List Value}, Vals vs us → ∃ as, ReadsAll h us ds as
  | _, _, .nil, _, .nil => ⟨_, .nil⟩
  | _, _, .cons h1 t1, _, .cons r1 r2 => by
    obtain ⟨a1, e1⟩ := h1.reads ok r1
    obtain ⟨a2, e2⟩ := t1.reads ok r2
    exact ⟨_, .cons e1 e2⟩
end
/-- what repr tells of it -/
def Says (H : Hp) (v : V) (d : PyData) : Prop := Shw H v d ∨ ∃ a, v = .ref a ∧ H a = some (.dK []) ∧ d = .dict []
section
variable {X : Cx}
theorem call_reprD (gd : X.A.guards = some []) (hu : X.A.units + 90 < cLine) : CallR X (.builtin "repr") (fun xs H Q => ∃ v d, xs = [v] ∧ Says H v d ∧ d.showable = true ∧ d.depth ≤ 80 ∧ d.shown.length ≤ sizeLine ∧ Q (.str d.shown) H) := by
  intro pins s σ H xs us Q I r h
  obtain ⟨v, d, rfl, hs, hz, hd, hl, q⟩ := h
  obtain ⟨u, rfl, ru⟩ : ∃ u, us = [u] ∧ RelV v u := by
    cases r with
    | cons a b =>
      cases b
      exact ⟨_, rfl, a⟩
  obtain ⟨as, ra, hsm⟩ : ∃ as, Reads s.heap u d as ∧ (d.hasDict = true → sysModules ∉ as) := by
    rcases hs with hs | ⟨a, rfl, ha, rfl⟩
    · obtain ⟨as, ra⟩ := hs.reads I.hok ru
      exact ⟨as, ra, PyData.noDict_hsm hs.noDict⟩
    · obtain rfl : u = Value.ref a := ru
      obtain ⟨_, hn, vs, kv, ho⟩ := (show ObjOk X.prog X.w H s.heap a (.dK []) from I.hok a _ ha)
      cases kv
      obtain ⟨o, es, ep, g, hc, hd1, _, he, _⟩ := ho
      refine ⟨_, .dict (as := []) (bs := []) g hc.1 hd1 ?_ ?_, fun _ m => ?_⟩
      · have e0 : es.toList = [] := by
          generalize es.toList = l at he
          cases he
          rfl
        rw [e0]
        exact .nil
      · have e0 : es.toList = [] := by
          generalize es.toList = l at he
          cases he
          rfl
        rw [e0]
        exact .nil
      · have e1 : sysModules = a := by simpa using m
        rw [← e1] at hn
        simp at hn
  have fin : ∀ h' uu tk, (∀ b o, s.heap.get? b = some o → h'.get? b = some o) → EP X pins σ Q (.str d.shown uu) { s with heap := h', toks := tk } := fun h' uu tk k => ⟨.str d.shown, H, I.kept k, ⟨_, rfl⟩, q⟩
  cases ra with
  | none =>
    simp only [PyData.shown] at fin
    exact PySem.P.repr_of_none (fin s.heap _ _ fun _ _ e => e)
  | bool b =>
    simp only [PyData.shown] at fin
    exact PySem.P.repr_of_bool (fin s.heap _ _ fun _ _ e => e)
  | int i t =>
    simp only [PyData.shown] at fin
    exact PySem.P.repr_of_int (by simpa [PyData.showable] using hz) (fin s.heap _ _ fun _ _ e => e)
  | str x t =>
    simp only [PyData.shown] at fin
    exact PySem.P.repr_of_str (fin s.heap _ _ fun _ _ e => e) (by simpa only [PyData.shown] using hl)
  | list h1 h2 h3 h4 => exact repr_of_reads' (.list h1 h2 h3 h4) hz hsm gd (by omega) (fun _ _ e => e) (fun h' uu tk k => fin h' uu tk k) hl
  | tuple h1 h2 h3 h4 => exact repr_of_reads' (.tuple h1 h2 h3 h4) hz hsm gd (by omega) (fun _ _ e => e) (fun h' uu tk k => fin h' uu tk k) hl
  | dict h1 h2 h3 h4 h5 => exact repr_of_reads' (.dict h1 h2 h3 h4 h5) hz hsm gd (by omega) (fun _ _ e => e) (fun h' uu tk k => fin h' uu tk k) hl
/-! ### C(e, ..) in a try: __init__ may raise -/
def tMakeS (C : Addr) (sp : Sp) (E : L2.St → XK) (ta : TA) : TE := fun σ H Q => ta σ H fun vs H1 => ∀ x dx, H1 x = none → H1 dx = none → dx ≠ x → sp (.ref x :: vs) (upd (upd H1 dx (.own x)) x (.ins C dx [])) (fun v H2 => v = .non ∧ Q (.ref x) H2) (E σ)
end
section
variable {X : Cx} {CX : CXT} {k : Nat} {f C : Addr} {fd : FuncData} {ps : List Str} {sp : Sp} {E : L2.St → XK} {x : Str} {p pos : Pos} {e : Expr} {es : List Expr} {t : TA}
theorem pe_makeS (M : Mk X.K C f) (F : FnOk X.prog X.w X.K X.mg X.base CX k f fd ps sp) (hr : Room (k + 1) X.A) (hg : Gl X x) (hm : X.mg x = some (.ref C)) (hb : Binds X.K fd ps []) (hx : ∀ σ, PassesAt CX X σ (E σ)) (ha : PA X (e :: es) t)
    (hdb : (x == ("__debug__" : Str)) = false := by decide) (he : starEach (e :: es) X.env = (false, eval e X.env) :: starEach es X.env := by rfl) (hpl : (backTo pos (starEach es X.env)).any (·.1) = false := by rfl) :
    PE X (.Call (.Name x p) (e :: es) [] pos) (tMakeS C sp E t) := by
  refine ⟨fun pins s σ H Q I h => ?_⟩
  refine wpAny_Call_Name_kw (ld_glob I hg hm ?_ hdb)
  refine PySem.W.callWith_K (h₀ := X.base) I.ok.mod.kin M.kp (thn (ha.run pos pins s σ H _ I h) fun us s1 ⟨vs, H1, I1, r, q⟩ => ⟨I1.kIn, ?_⟩) he hpl
  have hq := q (s1.heap.objs.size + 1) s1.heap.objs.size (I1.hok.fresh (Nat.le_succ _)) (I1.hok.fresh (Nat.le_refl _)) (Nat.ne_of_lt (Nat.lt_succ_self _))
  have I2 := Inv.made (C := C) I1
  have r2 : Vals (V.ref (s1.heap.objs.size + 1) :: vs) (Value.ref (s1.heap.objs.size + 1) :: us) := .cons rfl r
  have hl : (Value.ref (s1.heap.objs.size + 1) :: us ++ []).length = ps.length := by
    have e := r2.length
    rw [F.len _ _ _ _ hq] at e
    rw [List.append_nil]
    exact e.symm
  have bb := hb _ (Value.ref (s1.heap.objs.size + 1) :: us) I2.kIn hl
  rw [List.append_nil] at bb
  refine wpAny_call (make_map (f := f) I1.kIn M.makes M.init (beq_iff_eq.mp M.fn) (codeAny_mono (F.run _ X.stack _ _ ⟨Value.ref (s1.heap.objs.size + 1) :: us, []⟩ (Value.ref (s1.heap.objs.size + 1) :: us) _ _ (E σ) (hr.make C us [])
    (I2.env0.make C us []) bb r2 hq) fun r s' hq' => ?_))
  cases r with
  | error e => exact hx σ pins _ _ e s' I2 hq'
  | ok fl =>
    cases fl with
    | ret u =>
      obtain ⟨v, H', I3, rv, ev, q3⟩ := I2.after hq'
      subst ev
      exact ⟨rv, ⟨V.ref (s1.heap.objs.size + 1), H', I3, rfl, q3⟩⟩
    | next => exact False.elim hq'
    | brk => exact False.elim hq'
    | cont => exact False.elim hq'
end
end RZ
set_option Elab.async false
set_option linter.all false
set_option maxRecDepth 100000
set_option maxHeartbeats 4000000
namespace SU
open PySem PySem.Spec PySem.Calls PyProof.Rows L2 CM LamX NdefX ClX
/-- what stands of a method of the class at C whose text says super().m(..), D the class of that text, f2 the def above -/
structure SupF (P : Program) (K : PySem.W.Frag) (C D f f2 : Addr) (m : Str) (F : NF) (fd : FuncData) : Prop where
  ex : ∃ (oc : Value) (od : Option Addr) (doc pm ct : Value) (osl : Array (Option Value)) (cc : Addr) (ccl : Value) (cdd : Option Addr) (vs : Array Value) (file : Str) (tf : Tok) (ccs : Array (Option Value)) (cl : Value) (cld : Option Addr) (csl : Array (Option Value)) (cdD cd : ClassData),
    fd = F.fd doc pm ct ∧ K.lookup f = some ⟨oc, od, .func (F.fd doc pm ct), osl⟩ ∧ F.cl = [(("__class__" : Str), cc)] ∧ PySem.W.codeIn K (.ref F.c) F.qual = true ∧ K.lookup F.c = some ⟨ccl, cdd, .fields vs, ccs⟩ ∧ vs[2]? = some (.str file tf) ∧ ((P.main.file : Str) == file) = true ∧
    K.lookup cc = some ⟨cl, cld, .cell (some (.ref D)), csl⟩ ∧ PySem.W.clsIn K D = some cdD ∧ PySem.W.mroIn K C (.ref D) = some true ∧ PySem.W.clsIn K C = some cd ∧ PySem.W.alongIn K m ((cd.mro.dropWhile (· != .ref D)).drop 1) = some (some (.ref f2)) ∧
    PySem.W.typeIn K (.ref f2) = some (.type "function") ∧ PySem.W.nsIn K cStatics "thirdparty.any" = some none ∧ PySem.W.fnIn K f2 = true
section
variable {P : Program} {w : World} {K : PySem.W.Frag} {mg : Str → Option Value} {base : Heap} {CX : CXT} {k : Nat}
theorem fnR_of {f : Addr} {fd : FuncData} {ps : List Str} {sp : Sp} (F : FnOk P w K mg base CX k f fd ps sp) (hb : Binds K fd ps []) : FnR P w K mg base CX k f sp := fun A outer s H us vs Q E hr e0 r h => by
  have hl : us.length = ps.length := by rw [← r.length]; exact F.len _ _ _ _ h
  have b := hb s us (e0.mod.kin.keeps fun b o e => (e0.bs b o e).1) (by rw [List.append_nil]; exact hl)
  rw [List.append_nil] at b
  exact F.run A outer s H ⟨us, []⟩ us vs Q E hr e0 b r h
def spSup (N ps : List Str) (C : Addr) (t : TA) (sp : Sp) : Sp := fun vs H Q E => vs.length = ps.length ∧ ∃ a dx fs, vs[0]? = some (.ref a) ∧ H a = some (.ins C dx fs) ∧ t (startF N vs [none]) H (fun ws H1 => sp (.ref a :: ws) H1 Q E)
theorem ok_super {C D f f2 : Addr} {m : Str} {F : NF} {fd : FuncData} {N ps ps' : List Str} {sp : Sp} {t : TA} {ar : Arg} {p0 p1 apos pos rp : Pos} {e : Expr} {es : List Expr} (S : NScope N ps ["__class__"] F.scope) (Z : SupF P K C D f f2 m F fd)
    (hps : ps = ar.arg :: ps') (hp : (F.params.posonlyargs ++ F.params.args).head? = some ar) (hks : F.scope.names.lookup ("super" : Str) = some .globalImplicit)
    (hbody : F.body = [.Return (some (.Call (.Attribute (.Call (.Name "super" p0) [] [] p1) m apos) (e :: es) [] pos)) rp])
    (htop : (P.main.scope.names.lookup ("super" : Str)).isSome = false) (msup : mg "super" = none) (hn : (m == ("__class__" : Str)) = false) (G : FnR P w K mg base CX k f2 sp)
    (ha : ∀ (g : Addr) (A : Around) (outer : List Env) (s : Shared) (H : Hp) (E : XK), PA (ncx CX P w K mg base N F g A outer s H E) (e :: es) t) (hx : ∀ (g : Addr) (A : Around) (outer : List Env) (s : Shared) (H : Hp) (E : XK), Passes CX (ncx CX P w K mg base N F g A outer s H E) E)
    (hst : ∀ env : Env, starEach (e :: es) env = (false, eval e env) :: starEach es env) (hpl : ∀ env : Env, (backTo pos (starEach es env)).any (·.1) = false)
    {pl : Env → Sem Bool} (hev : ∀ env : Env, eval (.Call (.Attribute (.Call (.Name "super" p0) [] [] p1) m apos) (e :: es) [] pos) env = (do
      let ov ← attributeBase (.Call (.Name "super" p0) [] [] p1) m env (eval (.Call (.Name "super" p0) [] [] p1) env)
      standAt apos.atName
      let (f, first) ← holding [ov] (getMethod ov m (pl env))
      callWith pos f first (backTo pos (starEach (e :: es) env)) [])) :
    FnOk P w K mg base CX (k + 1) f fd ps (spSup N ps C t sp) := by
  obtain ⟨oc, od, doc, pm, ct, osl, cc, ccl, cdd, cvs, file, tf, ccs, cl, cld, csl, cdD, cd, rfl, lk, hcl, hcd, hcode, hvs, hfile, hcell, hD, hsub, hC, hal, hty, hno, hfn⟩ := Z.ex
  refine ⟨fun vs H Q E h => h.1, fun A outer s H args us vs Q E hr e0 bt r h => ?_⟩
  obtain ⟨hl, a, dx, fs, h0, hi, hq⟩ := h
  have old : ∀ b o, base.get? b = some o → s.heap.get? b = some o := fun b o e => (e0.bs b o e).1
  have X0 : K.In s.heap := e0.mod.kin.keeps old
  have hH : ∀ {b : Addr} {o : Obj}, K.lookup b = some o → H b = none := fun {b o} e => (e0.bs b o (e0.mod.kin b o e)).2
  have Cl : CellsAt F.cl ["__class__"] [none] s.heap H := by
    refine ⟨rfl, fun y c z => ?_, fun x y c z1 z2 => ?_, fun i y z => ?_⟩
    · rw [hcl] at z
      have e1 : cc = c := by
        simp only [List.lookup] at z
        split at z
        · exact Option.some.inj z
        · cases z
      subst e1
      exact ⟨hH hcell, _, _, X0 _ _ hcell, rfl⟩
    · rw [hcl] at z1 z2
      simp only [List.lookup] at z1 z2
      split at z1
      · rename_i q1
        split at z2
        · rename_i q2
          rw [beq_iff_eq.mp q1, beq_iff_eq.mp q2]
        · cases z2
      · cases z1
    · cases i with
      | zero =>
        have e1 : "__class__" = y := Option.some.inj z
        subst e1
        exact ⟨cc, by rw [hcl]; rfl, fun v q => by cases q⟩
      | succ i => cases z
  refine PySem.ks_codeAny_call_defAt (fd := F.fd doc pm ct) (body := F.body) (binds := ps.zip us) hr.depth (X0 _ _ lk) rfl (e0.mod.nolimit.keeps old) (PySem.W.codeRec_of X0 hcd) rfl bt S.nocell (fun y hy => S.par _ (List.of_mem_zip (show (y.1, y.2) ∈ ps.zip us from hy)).1) (fun h₁ hns kp => ?_) S.co S.gen S.kind
  have I : Inv (ncx CX P w K mg base N F f A outer s H E) [] (startF N vs [none]) H { s with heap := h₁, toks := s.toks + (ps.zip us).length } := inv_startN S hr.hd e0 hl r Cl hns kp
  have hEnv : PySem.callEnv (F.fd doc pm ct) s.heap.objs.size f = envF F f s.heap.objs.size := rfl
  rw [hEnv]
  generalize hs1 : ({ s with heap := h₁, toks := s.toks + (ps.zip us).length } : Shared) = s1 at I ⊢
  have hs1h : s1.heap = h₁ := by rw [← hs1]
  rw [hbody]
  refine PySem.ks_wpAt_execs_cons (PySem.ks_wpAt_Return_some (PySem.ks_wpAt_MethodCall (pl := pl (envF F f s.heap.objs.size)) ?_ (hev _)))
  have lk1 := I.kIn _ _ lk
  have hk : (envF F f s.heap.objs.size).scope.kind = .function := S.kind
  have hfr : F.scope.names.lookup ("__class__" : Str) = some .free := S.frk _ (List.mem_singleton.mpr rfl)
  refine PySem.ks_wpAt_super_base (env := envF F f s.heap.objs.size) hks hfr hn rfl lk1 rfl hp rfl (I.kIn _ _ hcode) rfl hvs hfile htop ?_
  obtain ⟨mb, hmb, hbb⟩ := I.mod.blt
  refine PySem.W.ks_loadName_global hk hks (loadGlobal_builtin (env := envF F f s.heap.objs.size) (I.mod.glob.keeps I.bk) msup (hmb.keeps I.bk) ((hbb _ (by decide +kernel)).trans (by rfl)) ⟨rfl, ?_⟩)
  refine wpAny_loadName_free hk hfr (by rw [show (envF F f s.heap.objs.size).cells = F.cl from rfl, hcl]; rfl) ⟨_, I.kIn _ _ hcell, rfl⟩ ?_
  obtain ⟨us0, ut, rfl⟩ : ∃ u0 ut, us = u0 :: ut := by
    cases us with
    | nil =>
      have z := r.length
      rw [hl, hps] at z
      cases z
    | cons u0 ut => exact ⟨_, _, rfl⟩
  have ru : us0 = Value.ref a := by
    cases r with
    | cons rv rt =>
      have e1 := Option.some.inj h0
      subst e1
      exact rv
  subst ru
  refine wpAny_loadName_local hk (S.par _ (by rw [hps]; exact List.mem_cons_self)) (hs1h ▸ hns) (v := .ref a) (zip_look (i := 0) ?nd ?p0 rfl) ?_
  case nd =>
    have q := S.nd.sublist (List.take_sublist (ps.length + 1) N)
    rw [show N.take (ps.length + 1) = ps ++ [("__class__" : Str)] from S.pre] at q
    exact (List.nodup_append.mp q).1
  case p0 => rw [hps]; rfl
  have X1 : K.In s1.heap := I.kIn
  obtain ⟨hh, g, dr, tk, os⟩ := s1
  obtain ⟨oD, hD1, hD2⟩ : ∃ oD, hh.get? D = some oD ∧ oD.data = .cls cdD := by
    unfold PySem.W.clsIn at hD
    split at hD
    · rename_i c d cd' sl ho
      cases hD
      exact ⟨_, X1 _ _ ho, rfl⟩
    · cases hD
  obtain ⟨mA, O, _⟩ := ins_get I.hok hi
  obtain ⟨odi, J, _⟩ := O.look
  refine PySem.ks_wpAny_isType_cls hD1 hD2 ⟨rfl, ?_⟩
  refine PySem.ks_wpAny_call_super hD1 hD2 J.at_ J.cls (fun c e => by cases e) (PySem.W.looks_mroIn X1 hsub) (fun h' eso k => ?_)
  have I1 : Inv (ncx CX P w K mg base N F f A outer s H E) [] (startF N vs [none]) H ⟨h', g, dr, tk, os⟩ := I.kept (t' := tk) k
  have X2 : K.In h' := I1.kIn
  obtain ⟨of, hof, hofc⟩ : ∃ of, h'.get? f2 = some of ∧ of.cls = .type "function" := by
    have ht' : (K.lookup f2).map (·.cls) = some (.type "function") := hty
    cases z : K.lookup f2 with
    | none => rw [z] at ht'; cases ht'
    | some of => rw [z] at ht'; exact ⟨of, X2 _ _ z, Option.some.inj ht'⟩
  obtain ⟨mA1, O1, _⟩ := ins_get I1.hok hi
  obtain ⟨odi1, J1, _⟩ := O1.look
  refine PySem.ks_wpAny_getMethod_super eso (PySem.W.looks_opaque X2 hno) (l₀ := cd.mro) (fun A Q E s k q => wpAny_bind ((PySem.W.looks_clsIn X2 hC) A _ E s k (wpAny_pure q))) rfl X2 hal hof hofc (PySem.W.ks_ne X2 J1 hC) hn ?_
  have I2 := met_new (g := f2) (C := a) I1
  have hb2 : (ncx CX P w K mg base N F f A outer s H E).base.get? h'.objs.size = none := base_none I1 (Nat.le_refl _)
  refine wpAny_mono (callwith_cm (X := ncx CX P w K mg base N F f A outer s H E) I2 hb2 hfn (thn ((ha f A outer s H E).run pos _ _ _ _ _ I2 hq) fun ws s3 ⟨zs, H2, I3, rv, q2⟩ => ⟨⟨pin_at I3, I3.kIn⟩, run_cm G (hr.deeper _) (hx f A outer s H E) I3 rv q2⟩) (hst _) (hpl _)) (fun u s' hs => ?_) fun e s' hs => hs
  obtain ⟨v, H', J, rv, qv⟩ := hs
  exact ⟨v, H', J.os, J.bare, J.base, J.hok, rv, qv⟩
end
end SU
set_option Elab.async false
set_option linter.all false
set_option maxRecDepth 100000
set_option maxHeartbeats 4000000
namespace SU
open PySem PySem.Spec PySem.Calls PyProof.Rows L2 CM LamX NdefX ClX
/-- super().m(x), alone in the text: the name, the method, the argument -/
def supSt : List Stmt → Option (Str × Str × Str)
  | [.Return (some (.Call (.Attribute (.Call (.Name s _) [] [] _) m p) [.Name x _] [] q)) _] => if p.endLine == q.line then some (s, m, x) else none
  | _ => none
theorem supSt_ok {b : List Stmt} {s m x : Str} (h : supSt b = some (s, m, x)) : ∃ p0 p1 p2 p3 p4 p5 : Pos, b = [.Return (some (.Call (.Attribute (.Call (.Name s p0) [] [] p1) m p2) [.Name x p3] [] p4)) p5] ∧ (p2.endLine == p4.line) = true := by
  unfold supSt at h
  split at h
  · split at h
    · rename_i q
      cases h
      exact ⟨_, _, _, _, _, _, rfl, q⟩
    · cases h
  · cases h
theorem sup_ev {p0 p1 p2 p3 p4 : Pos} {m x : Str} (hl : (p2.endLine == p4.line) = true) (env : Env) : eval (.Call (.Attribute (.Call (.Name "super" p0) [] [] p1) m p2) [.Name x p3] [] p4) env = (do
      let ov ← attributeBase (.Call (.Name "super" p0) [] [] p1) m env (eval (.Call (.Name "super" p0) [] [] p1) env)
      standAt p2.atName
      let (f, first) ← holding [ov] (getMethod ov m (do return (← importBound (.Call (.Name "super" p0) [] [] p1) env).getD true))
      callWith p4 f first (backTo p4 (starEach [.Name x p3] env)) []) := by
  have hpos : ∀ o : Expr, methodCallPos true o env p2 p4 = pure p4 := fun o => by
    unfold methodCallPos
    simp [hl]
  conv => lhs; unfold eval
  show (do
      let ov ← attributeBase (.Call (.Name "super" p0) [] [] p1) m env (eval (.Call (.Name "super" p0) [] [] p1) env)
      standAt p2.atName
      let (f, first) ← holding [ov] (calleeOf true (.Call (.Name "super" p0) [] [] p1) env ov m)
      let callPos ← methodCallPos true (.Call (.Name "super" p0) [] [] p1) env p2 p4
      callWith callPos f first (backTo p4 (starEach [.Name x p3] env)) (backToKw p4 (keywordEach [] env))) = _
  simp only [hpos]
  rfl
def supAr (p : Arguments) : Option (Str × Str) := match p with
  | ⟨[], [⟨a, none, _⟩, ⟨b, none, _⟩], none, [], [], none, []⟩ => some (a, b)
  | _ => none
theorem supAr_ok {p : Arguments} {a b : Str} (h : supAr p = some (a, b)) : ∃ q0 q1 : Pos, p = ⟨[], [⟨a, none, q0⟩, ⟨b, none, q1⟩], none, [], [], none, []⟩ := by
  unfold supAr at h
  split at h
  · cases h
    exact ⟨_, _, rfl⟩
  · cases h
def fnAt (K : PySem.W.Frag) (f : Addr) : Option FuncData := match K.lookup f with
  | some ⟨_, _, .func fd, _⟩ => some fd
  | _ => none
theorem fnAt_ok {K : PySem.W.Frag} {f : Addr} {fd : FuncData} (h : fnAt K f = some fd) : ∃ oc od osl, K.lookup f = some ⟨oc, od, .func fd, osl⟩ := by
  unfold fnAt at h
  split at h
  · rename_i e
    cases h
    exact ⟨_, _, _, e⟩
  · cases h
def fileAt (K : PySem.W.Frag) (c : Addr) : Option Str := match K.lookup c with
  | some ⟨_, _, .fields vs, _⟩ => (match (vs[2]? : Option Value) with
    | some (.str z _) => some z
    | _ => none)
  | _ => none
theorem fileAt_ok {K : PySem.W.Frag} {c : Addr} {z : Str} (h : fileAt K c = some z) : ∃ oc od vs osl t, K.lookup c = some ⟨oc, od, .fields vs, osl⟩ ∧ vs[2]? = some (.str z t) := by
  unfold fileAt at h
  split at h
  · rename_i e
    split at h
    · rename_i e2
      cases h
      exact ⟨_, _, _, _, _, e, e2⟩
    · cases h
  · cases h
def cellAt (K : PySem.W.Frag) (c : Addr) : Option Addr := match K.lookup c with
  | some ⟨_, _, .cell (some (.ref D)), _⟩ => some D
  | _ => none
theorem cellAt_ok {K : PySem.W.Frag} {c D : Addr} (h : cellAt K c = some D) : ∃ oc od osl, K.lookup c = some ⟨oc, od, .cell (some (.ref D)), osl⟩ := by
  unfold cellAt at h
  split at h
  · rename_i e
    cases h
    exact ⟨_, _, _, e⟩
  · cases h
/-- how the def ends: its cell, its code object, what else must be nothing -/
def supEnd (fd : FuncData) : Option (Addr × Addr) := match fd with
  | ⟨_, _, _, _, _, g, [(x, cc)], .none, .none, _, _, none, .ref c, _, b⟩ => if decide (x = ("__class__" : Str)) && (decide (g = mainGlobals) && decide (b = builtinsNs)) then some (cc, c) else none
  | _ => none
def bodyOf (fd : FuncData) : List Stmt := match fd.body with
  | .stmts b => b
  | _ => []
theorem supEnd_ok {fd : FuncData} {cc c : Addr} (h : supEnd fd = some (cc, c)) (hb : bodyOf fd ≠ []) : ∃ doc pm ct, fd = PySem.W.fnX fd.name fd.qualname fd.params (bodyOf fd) fd.scope [(("__class__" : Str), cc)] .none .none doc pm none (.ref c) ct := by
  unfold supEnd at h
  split at h
  · split at h
    · rename_i q
      simp only [Bool.and_eq_true, decide_eq_true_eq] at q
      obtain ⟨rfl, rfl, rfl⟩ := q
      cases h
      rename_i bd _ _ _ _
      unfold bodyOf at hb ⊢
      first
        | (cases bd with
          | stmts b => exact ⟨_, _, _, rfl⟩
          | _ => exact absurd rfl hb)
    · cases h
  · cases h
/-- the whole word: C's own m(self, x) says super().m(x), D is the class of the text, f2 the def that is meant -/
def supB (F0 : Str) (K : PySem.W.Frag) (C D f2 : Addr) (m x : Str) : Bool := match fnAt K (He.ma K C m) with
  | some fd => (match supEnd fd with
    | some (cc, c) => decide (supSt (bodyOf fd) = some (("super" : Str), m, x)) && (decide (supAr fd.params = some (("self" : Str), x)) && (nscB ["self", x, "__class__"] ["self", x] ["__class__"] fd.scope && (decide (fd.scope.names.lookup ("super" : Str) = some .globalImplicit) &&
      (PySem.W.codeIn K (.ref c) fd.qualname && (decide (fileAt K c = some F0) && (decide (cellAt K cc = some D) && ((PySem.W.clsIn K D).isSome && (decide (PySem.W.mroIn K C (.ref D) = some true) && ((match PySem.W.clsIn K C with
        | some cd => decide (PySem.W.alongIn K m ((cd.mro.dropWhile (· != .ref D)).drop 1) = some (some (.ref f2)))
        | none => false) && (decide (PySem.W.typeIn K (.ref f2) = some (.type "function")) && (decide (PySem.W.nsIn K cStatics "thirdparty.any" = some none) && PySem.W.fnIn K f2)))))))))))
    | none => false)
  | none => false
structure SupOk (F0 : Str) (P : Program) : Prop where
  file : ((P.main.file : Str) == F0) = true
  top : (P.main.scope.names.lookup ("super" : Str)).isSome = false
section
variable {P : Program} {w : World} {K : PySem.W.Frag} {mg : Str → Option Value} {base : Heap} {CX : CXT} {k : Nat}
theorem supB_ok {F0 : Str} {C D f2 : Addr} {m x : Str} (h : supB F0 K C D f2 m x = true) (O : SupOk F0 P) : ∃ (F : NF) (fd : FuncData) (p0 p1 p2 p3 p4 p5 q0 q1 : Pos), SupF P K C D (He.ma K C m) f2 m F fd ∧
    F.body = [.Return (some (.Call (.Attribute (.Call (.Name "super" p0) [] [] p1) m p2) [.Name x p3] [] p4)) p5] ∧ (p2.endLine == p4.line) = true ∧ F.params = ⟨[], [⟨"self", none, q0⟩, ⟨x, none, q1⟩], none, [], [], none, []⟩ ∧ NScope ["self", x, "__class__"] ["self", x] ["__class__"] F.scope ∧ F.scope.names.lookup ("super" : Str) = some .globalImplicit := by
  unfold supB at h
  split at h
  · rename_i fd e
    split at h
    · rename_i cc c e2
      simp only [Bool.and_eq_true, decide_eq_true_eq] at h
      obtain ⟨h1, h2, h3, h4, h5, h6, h7, h8, h9, h10, h11, h12, h13⟩ := h
      obtain ⟨p0, p1, p2, p3, p4, p5, eb, el⟩ := supSt_ok h1
      obtain ⟨q0, q1, ep⟩ := supAr_ok h2
      obtain ⟨doc, pm, ct, ef⟩ := supEnd_ok e2 (by rw [eb]; exact List.cons_ne_nil _ _)
      obtain ⟨oc, od, osl, lk⟩ := fnAt_ok e
      obtain ⟨ccl, cdd, vs, ccs, tf, lc, hv⟩ := fileAt_ok h6
      obtain ⟨cl, cld, csl, lcell⟩ := cellAt_ok h7
      obtain ⟨cdD, hD⟩ := Option.isSome_iff_exists.mp h8
      split at h10
      · rename_i cd hC
        have h10 := of_decide_eq_true h10
        refine ⟨⟨fd.name, fd.qualname, fd.params, bodyOf fd, fd.scope, [("__class__", cc)], c⟩, fd, p0, p1, p2, p3, p4, p5, q0, q1, ⟨oc, od, doc, pm, ct, osl, cc, ccl, cdd, vs, F0, tf, ccs, cl, cld, csl, cdD, cd, ef, ?_, rfl, h5, lc, hv, O.file, lcell, hD, h9, hC, h10, h11, h12, h13⟩, eb, el, ep, nscope_by h3, h4⟩
        rw [lk]
        exact congrArg some (congrArg (fun z => (⟨oc, od, .func z, osl⟩ : Obj)) ef)
      · cases h10
    · cases h
  · cases h
end
section
variable {P : Program} {w : World} {K : PySem.W.Frag} {mg : Str → Option Value} {base : Heap} {k : Nat}
/-- sides(self, labels), as the class above tells them -/
def spSides (C : Addr) (sp : Sp) : Sp := fun vs H Q E => ∃ a v dx fs, vs = [.ref a, v] ∧ H a = some (.ins C dx fs) ∧ sp [.ref a, v] H Q E
theorem ok_supSides {F0 : Str} {C D f2 : Addr} {fd2 : FuncData} {sp : Sp} (h : supB F0 K C D f2 "sides" "labels" = true) (O : SupOk F0 P) (msup : mg "super" = none) (G : FnOk P w K mg base CX0 k f2 fd2 ["self", "labels"] sp) (hb2 : Binds K fd2 ["self", "labels"] []) :
    ∃ fd, FnOk P w K mg base CX0 (k + 1) (He.ma K C "sides") fd ["self", "labels"] (spSides C sp) ∧ Binds K fd ["self", "labels"] [] := by
  obtain ⟨F, fd, p0, p1, p2, p3, p4, p5, q0, q1, Z, hb, he, hp, S, hs⟩ := supB_ok h O
  refine ⟨fd, FnOk.imp (ok_super (t := tCons (tVar 1) tNil) (ps' := ["labels"]) S Z rfl (by rw [hp]; rfl) hs hb O.top msup (by decide +kernel) (fnR_of G hb2) (fun g A outer s H E => pa_cons (pe_var (i := 1) rfl (.inl (S.par _ (by decide +kernel)))) pa_nil) (fun _ _ _ _ _ _ => pass0) (fun _ => rfl) (fun _ => rfl) (sup_ev he)) (fun vs H Q E hh => ?_), ?_⟩
  · obtain ⟨a, v, dx, fs, rfl, hi, q⟩ := hh
    exact ⟨rfl, a, dx, fs, rfl, hi, v, rfl, q⟩
  · obtain ⟨oc, od, doc, pm, ct, osl, cc, ccl, cdd, cvs, file, tf, ccs, cl, cld, csl, cdD, cd, rfl, lk, _⟩ := Z.ex
    refine Binds.all fun us hl => ?_
    match us, hl with
    | [u0, u1], _ =>
      obtain ⟨nm, qual, params, body, scope, cl, c⟩ := F
      dsimp only at hp
      subst hp
      rfl
end
end SU
set_option Elab.async false
set_option linter.all false
set_option maxRecDepth 100000
set_option maxHeartbeats 4000000
namespace PR
open PySem PySem.Spec PySem.Calls PyProof.Rows L2 CM SU
/-- return x.f -/
def getSt : List Stmt → Option (Str × Str)
  | [.Return (some (.Attribute (.Name x _) f _)) _] => some (x, f)
  | _ => none
theorem getSt_ok {b : List Stmt} {x f : Str} (h : getSt b = some (x, f)) : ∃ p1 p2 p3 : Pos, b = [.Return (some (.Attribute (.Name x p1) f p2)) p3] := by
  unfold getSt at h
  split at h
  · cases h
    exact ⟨_, _, _, rfl⟩
  · cases h
def oneAr (p : Arguments) : Option Str := match p with
  | ⟨[], [⟨a, none, _⟩], none, [], [], none, []⟩ => some a
  | _ => none
theorem oneAr_ok {p : Arguments} {a : Str} (h : oneAr p = some a) : ∃ q0 : Pos, p = ⟨[], [⟨a, none, q0⟩], none, [], [], none, []⟩ := by
  unfold oneAr at h
  split at h
  · cases h
    exact ⟨_, rfl⟩
  · cases h
def flatEnd (fd : FuncData) : Bool := match fd with
  | ⟨_, _, _, _, _, g, [], .none, .none, _, _, _, _, _, b⟩ => decide (g = mainGlobals) && decide (b = builtinsNs)
  | _ => false
theorem flatEnd_ok {fd : FuncData} (h : flatEnd fd = true) (hb : bodyOf fd ≠ []) : ∃ doc pm an ct, fd = PySem.W.fnOf fd.name fd.qualname fd.params (bodyOf fd) fd.scope .none .none doc pm an fd.code ct := by
  unfold flatEnd at h
  split at h
  · simp only [Bool.and_eq_true, decide_eq_true_eq] at h
    obtain ⟨rfl, rfl⟩ := h
    rename_i bd _ _ _ _ _ _
    unfold bodyOf at hb ⊢
    first
      | (cases bd with
        | stmts b => exact ⟨_, _, _, _, rfl⟩
        | _ => exact absurd rfl hb)
  · cases h
def fscB (N ps : List Str) (sc : Scope) : Bool := decide (sc.kind = .function) && (!sc.isCoroutine && (!sc.isGenerator && (decide N.Nodup && (decide (N.take ps.length = ps) && (ps.all (fun x => decide (sc.names.lookup x = some .local)) && sc.names.all (fun y => !decide (y.2 = .free)))))))
theorem fscB_ok {N ps : List Str} {sc : Scope} (h : fscB N ps sc = true) : FnScope N ps sc := by
  unfold fscB at h
  simp only [Bool.and_eq_true, Bool.not_eq_true', decide_eq_true_eq, List.all_eq_true, decide_eq_false_iff_not] at h
  obtain ⟨h1, h2, h3, h4, h5, h6, h7⟩ := h
  exact ⟨h1, h2, h3, h4, h5, fun x hx => .inl (h6 x hx), h7⟩
/-- the class at C has f as a property whose getter returns self.g -/
def propB (K : PySem.W.Frag) (C : Addr) (f g : Str) : Bool := match PySem.W.findIn K (.ref C) f with
  | some (some (.ref p)) => He.eqO (PySem.W.specialIn K (.ref p) "__get__") (some (some (.builtin "property.__get__"))) && (decide (PySem.W.takesIn K (.ref p) = some true) && (match PySem.W.recIn K p "property" with
    | some (.ref q :: _) => (match fnAt K q with
      | some fd => decide (getSt (bodyOf fd) = some (("self" : Str), g)) && (decide (oneAr fd.params = some ("self" : Str)) && (flatEnd fd && (fscB ["self"] ["self"] fd.scope && PySem.W.codeIn K fd.code fd.qualname)))
      | none => false)
    | _ => false))
  | _ => false
section
variable {P : Program} {w : World} {K : PySem.W.Frag} {mg : Str → Option Value} {base : Heap} {CX : CXT}
theorem propB_ok {C : Addr} {f g : Str} (h : propB K C f g = true) (c : Cls K C) (n : NoAttr K C g) : ∃ (p q : Addr) (fd : FuncData), PropOf K C f p q ∧ FnOk P w K mg base CX 1 q fd ["self"] (getSp C g) ∧ Binds K fd ["self"] [] := by
  unfold propB at h
  split at h
  · rename_i p e
    obtain ⟨h1, h⟩ := He.ba h
    obtain ⟨h2, h⟩ := He.ba h
    split at h
    · rename_i q rest e2
      split at h
      · rename_i fd e3
        simp only [Bool.and_eq_true, decide_eq_true_eq] at h
        obtain ⟨h3, h4, h5, h6, h7⟩ := h
        obtain ⟨p1, p2, p3, eb⟩ := getSt_ok h3
        obtain ⟨q0, ep⟩ := oneAr_ok h4
        obtain ⟨doc, pm, an, ct, ef⟩ := flatEnd_ok h5 (by rw [eb]; exact List.cons_ne_nil _ _)
        obtain ⟨oc, od, osl, lk⟩ := fnAt_ok e3
        rw [ef] at lk
        refine ⟨p, q, _, ⟨e, He.eqO_ok h1, of_decide_eq_true (by simpa using h2), ⟨rest, e2⟩⟩, fn_getter lk h7 (fscB_ok h6) rfl eb c n, ?_⟩
        refine Binds.all fun us hl => ?_
        match us, hl with
        | [u0], _ =>
          rw [ep]
          rfl
      · cases h
    · cases h
  · cases h
end
end PR
set_option Elab.async false
set_option linter.all false
set_option maxRecDepth 100000
set_option maxHeartbeats 4000000
namespace BI
open PySem PySem.Spec PySem.Calls PyProof.Rows L2 CM
/-! ### t[::-1], a tuple -/
section
variable {prog : Program} {w : World} {A : Around} {E : Value → Shared → Prop} {s : Shared}
theorem adjust_rev (n : Nat) : Builtin.Slice.sliceAdjust none none (-1) (n : Int) = ((n : Int) - 1, -1) := by
  first
  | rfl
  | (unfold Builtin.Slice.sliceAdjust; simp)
theorem places_rev (n : Nat) : Builtin.Slice.slicePlaces ((n : Int) - 1) (-1) (-1) = n := by
  unfold Builtin.Slice.slicePlaces
  rw [if_neg (by decide)]
  split
  · rw [show (-(-1) : Int) = 1 by decide, Int.ediv_one]
    omega
  · omega
theorem pick_rev (xs : Array Value) : ((List.range xs.size).filterMap fun (k : Nat) => xs[(((xs.size : Int) - 1) + (k : Int) * -1).toNat]?).toArray = xs.toList.reverse.toArray := by
  have e : (fun (k : Nat) => xs[(((xs.size : Int) - 1) + (k : Int) * -1).toNat]?) = (fun k : Nat => xs[k]?) ∘ fun k : Nat => xs.size - 1 - k := by
    funext k
    show xs[_]? = xs[xs.size - 1 - k]?
    have : (((xs.size : Int) - 1) + (k : Int) * -1).toNat = xs.size - 1 - k := by omega
    rw [this]
  rw [e, ← List.filterMap_map, PySem.W.krv_range, List.filterMap_reverse, PySem.W.krv_all]
theorem sliceApplied_rev {sl : Addr} {vl vu vs : Value} {n : Nat} {Q : Int × Int × Nat → Shared → Prop} (hs : s.heap.IsSliceOf sl vl vu vs) (pl : IsPart vl none) (pu : IsPart vu none) (ps : IsPart vs (some (-1)))
    (h : Q ((n : Int) - 1, -1, n) s) : wpAny (model prog w) A (Builtin.Slice.sliceApplied (.ref sl) (pure (n : Int))) Q E s := by
  obtain ⟨os, hos, hcs, hds⟩ := id hs
  unfold Builtin.Slice.sliceApplied Builtin.Slice.sliceFields
  refine wpAny_bind (wpAny_bind (wpAny_field hos hds (x := vl) rfl (wpAny_bind (wpAny_field hos hds (x := vu) rfl (wpAny_bind (wpAny_field hos hds (x := vs) rfl (wpAny_pure ?_)))))))
  refine wpAny_bind (HT.slicePart_ ps ?_)
  show wpAny _ _ (if ((-1 : Int) == 0) = true then _ else _) _ _ s
  rw [if_neg (by decide)]
  refine wpAny_bind (HT.slicePart_ pl (wpAny_bind (HT.slicePart_ pu (wpAny_bind (wpAny_pure ?_)))))
  show wpAny _ _ (match Builtin.Slice.sliceAdjust none none (-1) (n : Int) with | (lo, hi) => pure (lo, (-1 : Int), Builtin.Slice.slicePlaces lo hi (-1))) _ _ s
  rw [adjust_rev n]
  show wpAny _ _ (pure ((n : Int) - 1, (-1 : Int), Builtin.Slice.slicePlaces ((n : Int) - 1) (-1) (-1))) _ _ s
  rw [places_rev]
  exact wpAny_pure h
theorem getItem_tuple_rev {t sl : Addr} {items : Array Value} {vl vu vs : Value} {Q : Value → Shared → Prop} (ht : IsTup s.heap t items) (hs : s.heap.IsSliceOf sl vl vu vs) (pl : IsPart vl none) (pu : IsPart vu none) (ps : IsPart vs (some (-1)))
    (h : Q (.ref s.heap.objs.size) { s with heap := s.heap.push { cls := .type "tuple", data := .seq items.toList.reverse.toArray } }) (hsz : items.size ≤ sizeLine) : wpAny (model prog w) A (getItem (.ref t) (.ref sl)) Q E s := by
  have htake : sizeOk (.seq items.toList.reverse.toArray) := by
    show items.toList.reverse.toArray.size ≤ sizeLine
    rw [List.size_toArray, List.length_reverse, Array.length_toList]
    exact hsz
  obtain ⟨os, hos, hcs, hds⟩ := id hs
  have hTs : s.TypeIs (.ref sl) "slice" := ⟨os, hos, hcs⟩
  unfold getItem
  try with_reducible refine wpAny_holding ?_
  first | refine wpAny_bind (wpAny_pure ?_) | skip
  refine wpAny_bind (wpAny_sequenceKey ht.typeIs (by decide) ?_)
  refine wpAny_bind (wpAny_callSpecial?_slot (name := Str.ofString "__getitem__") ht.typeIs PyProof.Rows.slot_tuple_getitem
    (wpAny_call_entry PyProof.Rows.slot_tuple_getitem ht.typeIs entry_tuple_getitem ?_ (args_tuple_getitem _ _)))
  show wpAny _ _ (Builtin.Tuple.tupleItemsOf (.ref t) >>= _) _ _ s
  refine wpAny_bind (tupleItemsOf_ ht ?_)
  refine wpAny_bind (wpAny_typeOf hTs ?_)
  rw [if_pos (by decide)]
  refine wpAny_bind (sliceApplied_rev hs pl pu ps ?_)
  have hno : ¬ ((((items.size : Int) - 1) == 0 && (-1 : Int) == 1 && items.size == items.size) = true) := by
    intro q
    rw [Bool.and_eq_true, Bool.and_eq_true] at q
    exact absurd q.1.2 (by decide)
  show wpAny _ _ (if (((items.size : Int) - 1) == 0 && (-1 : Int) == 1 && items.size == items.size) = true then _ else _) _ _ s
  rw [if_neg hno, pick_rev]
  first
    | exact wpAny_bind (m := Builtin.Tuple.tupleExact _) (wpAny_newObj_type (wpAny_pure ⟨_, rfl, wpAny_pure h⟩) htake)
    | exact wpAny_bind (m := Builtin.Tuple.tupleExact _) (wpAny_newObj_type (wpAny_bind (wpAny_pure (wpAny_pure ⟨_, rfl, wpAny_pure h⟩))) htake)
    | exact wpAny_bind (wpAny_bind (m := Builtin.Tuple.tupleExact _) (wpAny_newObj_type (wpAny_pure (wpAny_pure ⟨_, rfl, wpAny_pure h⟩)) htake))
    | exact wpAny_bind (wpAny_bind (m := Builtin.Tuple.tupleExact _) (wpAny_newObj_type (wpAny_pure ⟨_, rfl, wpAny_pure h⟩) htake))
end
section
variable {X : Cx}
def tRevT (K : PySem.W.Frag) (te : TE) : TE := fun σ H Q => te σ H fun x H1 => ∃ a xs, x = .ref a ∧ SqT K H1 a xs ∧ ∀ p, H1 p = none → Q (.ref p) (upd H1 p (.tup xs.reverse))
theorem pe_revT {e : Expr} {te : TE} {k : Nat} {p1 p2 p3 pos : Pos} (he : PE X e te) : PE X (.Subscript e (.Slice none none (some (.UnaryOp .USub (.Constant (.int 1) k p1) p2)) p3) pos) (tRevT X.K te) := by
  refine ⟨fun pins s σ H Q I h => ?_⟩
  refine Subscript_ (thn (he.run pins s σ H _ I h) fun v s1 ⟨x, H1, I1, r1, q1⟩ => ?_)
  obtain ⟨a, xs, ex, hx, q⟩ := q1
  subst ex
  cases r1
  have hst : PO X (some (.UnaryOp .USub (.Constant (.int 1) k p1) p2)) (tPart (tUn (rU fun i => .int (-i)) (tC (.int 1)))) := po_some (pe_un un_neg pe_int)
  refine wpAny_Slice (thn (po_none.run pins s1 σ H1 (fun o H2 => o = none ∧ H2 = H1) I1 ⟨rfl, rfl⟩) fun vl s2 ⟨l, H2, I2, pl, el, e2⟩ => ?_)
  subst el e2
  refine thn (po_none.run pins s2 σ H2 (fun o H3 => o = none ∧ H3 = H2) I2 ⟨rfl, rfl⟩) fun vu s3 ⟨u, H3, I3, pu, eu, e3⟩ => ?_
  subst eu e3
  refine thn (hst.run pins s3 σ H3 (fun o H4 => o = some (-1) ∧ H4 = H3) I3 ⟨1, rfl, -1, rfl, rfl, rfl⟩) fun vs s4 ⟨o, H4, I4, ps, eo, e4⟩ => ?_
  subst eo e4
  have I5 : Inv X pins σ H4 { s4 with heap := s4.heap.push { cls := .type "slice", data := .fields #[vl, vu, vs] } } := I4.kept (t' := s4.toks) fun b ob q => Heap.get?_push_of_some _ q
  obtain ⟨its, r, ht, hz⟩ := I5.tuple hx
  have hlen := r.length
  show wpAny (model X.prog X.w) X.A (subscriptTail e (.Slice none none (some (.UnaryOp .USub (.Constant (.int 1) k p1) p2)) p3) (.ref a) (.ref s4.heap.objs.size)) (EP X pins σ Q) X.xe { s4 with heap := s4.heap.push { cls := .type "slice", data := .fields #[vl, vu, vs] } }
  refine tail_any (ops := [.ref a, .ref s4.heap.objs.size]) ht.typeIs (PyProof.Rows.slot_tuple_getitem.lookup) ?_ (by with_unfolding_all rfl)
  refine getItem_tuple_rev ht (Heap.IsSliceOf.new _ vl vu vs) pl pu ps ?_ (by rw [List.size_toArray]; omega)
  refine ⟨.ref _, _, I5.laid (t' := s4.toks) (o := .tup xs.reverse) (fun b ob q => Heap.get?_push_of_some _ q) (Nat.le_refl _) ?_, rfl, q _ (I5.hok.fresh (Nat.le_refl _))⟩
  exact ⟨by rw [List.length_reverse]; exact hz, _, r.reverse, IsTup.new _ _⟩
/-! ### | & ^ of naturals -/
theorem bitNot_not (x : Int) : Builtin.bitNot (Builtin.bitNot x) = x := by
  unfold Builtin.bitNot
  omega
theorem bitAnd_nat (a b : Nat) : Builtin.bitAnd (a : Int) (b : Int) = ((a &&& b : Nat) : Int) := by
  unfold Builtin.bitAnd
  rw [decide_eq_true (Int.natCast_nonneg a), decide_eq_true (Int.natCast_nonneg b)]
  simp
theorem bitOr_nat (a b : Nat) : Builtin.bitOr (a : Int) (b : Int) = ((a ||| b : Nat) : Int) := by
  have h : ∀ n : Nat, ¬ (0 : Int) ≤ Builtin.bitNot (n : Int) := fun n => by
    unfold Builtin.bitNot
    omega
  unfold Builtin.bitOr Builtin.bitAnd
  rw [decide_eq_false (h a), decide_eq_false (h b)]
  simp only [bitNot_not]
  simp
def rN2 (f : Nat → Nat → V) : R2 := fun x y H Q => ∃ a b : Nat, x = .int (a : Int) ∧ y = .int (b : Int) ∧ Q (f a b) H
theorem op_orN : OpR X (binaryOp .BitOr) (rN2 fun a b => .int ((a ||| b : Nat) : Int)) := by
  intro pns s σ H x y v u Q I rx ry h
  obtain ⟨a, b, rfl, rfl, q⟩ := h
  exact op_or pns s σ H _ _ v u Q I rx ry ⟨_, _, rfl, rfl, by dsimp only; rw [bitOr_nat]; exact q⟩
theorem op_andN : OpR X (binaryOp .BitAnd) (rN2 fun a b => .int ((a &&& b : Nat) : Int)) := by
  intro pns s σ H x y v u Q I rx ry h
  obtain ⟨a, b, rfl, rfl, q⟩ := h
  exact op_and pns s σ H _ _ v u Q I rx ry ⟨_, _, rfl, rfl, by dsimp only; rw [bitAnd_nat]; exact q⟩
/-- a ^ b where a has no bit that b lacks -/
def rXor : R2 := fun x y H Q => ∃ a b c : Nat, x = .int (a : Int) ∧ y = .int (b : Int) ∧ a ||| b = b ∧ a &&& b = a ∧ b = a + c ∧ Q (.int (c : Int)) H
theorem op_xorN : OpR X (binaryOp .BitXor) rXor := by
  intro pns s σ H x y v u Q I rx ry h
  obtain ⟨a, b, c, rfl, rfl, h1, h2, h3, q⟩ := h
  refine op_xor pns s σ H _ _ v u Q I rx ry ⟨_, _, rfl, rfl, ?_⟩
  have e : Builtin.bitXor (a : Int) (b : Int) = (c : Int) := by
    unfold Builtin.bitXor
    rw [bitOr_nat, bitAnd_nat, h1, h2]
    omega
  dsimp only
  rw [e]
  exact q
end
section
variable {X : Cx} {K : PySem.W.Frag}
theorem op_inK (hK : X.K = K := by rfl) : OpR X (compareOp .In) (rIn K false) := by
  subst hK
  exact op_in_seq
theorem op_notInK (hK : X.K = K := by rfl) : OpR X (compareOp .NotIn) (rIn K true) := by
  subst hK
  exact op_notIn_seq
theorem op_neNilK (hu : X.A.units + 64 < cLine) (hK : X.K = K := by rfl) : OpR X (compareOp .NotEq) (rNeNil K) := by
  subst hK
  exact op_neNil hu
end
theorem pi_tupK {X : Cx} {K : PySem.W.Frag} {tg l : Expr} {tl : TE} (hl : PE X l tl) (hK : X.K = K := by rfl) : PI X tg l (iTup K tl) := by
  subst hK
  exact pi_tup hl
theorem pi_listK {X : Cx} {K : PySem.W.Frag} {tg l : Expr} {tl : TE} (hl : PE X l tl) (hK : X.K = K := by rfl) : PI X tg l (iList K tl) := by
  subst hK
  exact pi_list hl
/-- the scope of a list comprehension; the value of a def that only returns -/
def lcSc : Expr → Scope
  | .ListComp _ _ sc _ => sc
  | _ => { kind := .module, names := [], isGenerator := false, isCoroutine := false, more := [] }
def ret0 (st : Stmt) : Expr := match defBody st with
  | .Return (some e) _ :: _ => e
  | _ => .Name "" ⟨0, 0, 0, 0⟩
theorem seqT {K : PySem.W.Frag} {H H' : Hp} {a : Addr} {xs : List V} (e : Same H H') (h : SqT K H a xs) : SqT K H' a xs := by
  rcases h with (h | ⟨o, h⟩) | h
  · exact .inl (.inl (e _ _ h))
  · exact .inl (.inr ⟨o, e _ _ h⟩)
  · exact .inr h
/-! ### masks -/
def mk (f : Nat → Bool) : Nat → Nat
  | 0 => 0
  | w + 1 => mk f w + if f w then 2 ^ w else 0
theorem mk_lt (f : Nat → Bool) : ∀ w, mk f w < 2 ^ w
  | 0 => Nat.one_pos
  | w + 1 => by
    have h := mk_lt f w
    rw [Nat.pow_succ]
    unfold mk
    split <;> omega
theorem mk_bit (f : Nat → Bool) (k : Nat) : ∀ w, (mk f w).testBit k = (decide (k < w) && f k)
  | 0 => by simp [mk]
  | w + 1 => by
    have ih := mk_bit f k w
    have h := mk_lt f w
    unfold mk
    by_cases hw : f w = true
    · rw [if_pos hw, Nat.add_comm]
      by_cases e : k = w
      · subst e
        rw [Nat.testBit_two_pow_add_eq, Nat.testBit_lt_two_pow h, hw]
        simp
      · rcases Nat.lt_or_gt_of_ne e with g | g
        · rw [Nat.testBit_two_pow_add_gt g, ih]
          simp [show k < w + 1 by omega, g]
        · have e2 : ¬ k < w + 1 := by omega
          rw [Nat.testBit_lt_two_pow (Nat.lt_of_lt_of_le (show 2 ^ w + mk f w < 2 ^ (w + 1) by rw [Nat.pow_succ]; omega) (Nat.pow_le_pow_right (by decide) (show w + 1 ≤ k by omega)))]
          simp [e2]
    · rw [if_neg hw, Nat.add_zero, ih]
      by_cases e : k = w
      · subst e
        simp [hw]
      · simp [show (k < w) ↔ (k < w + 1) by omega]
theorem mk_ext {f g : Nat → Bool} : ∀ {w : Nat}, (∀ k, k < w → f k = g k) → mk f w = mk g w
  | 0, _ => rfl
  | w + 1, h => by
    unfold mk
    rw [mk_ext fun k hk => h k (by omega), h w (by omega)]
theorem mk_or (f g : Nat → Bool) (w : Nat) : mk f w ||| mk g w = mk (fun k => f k || g k) w := by
  apply Nat.eq_of_testBit_eq
  intro k
  rw [Nat.testBit_or, mk_bit, mk_bit, mk_bit]
  cases decide (k < w) <;> simp
theorem mk_and (f g : Nat → Bool) (w : Nat) : mk f w &&& mk g w = mk (fun k => f k && g k) w := by
  apply Nat.eq_of_testBit_eq
  intro k
  rw [Nat.testBit_and, mk_bit, mk_bit, mk_bit]
  cases decide (k < w) <;> simp
theorem mk_put {f : Nat → Bool} {w j : Nat} (hj : j < w) : mk f w ||| 2 ^ j = mk (fun k => f k || decide (k = j)) w := by
  apply Nat.eq_of_testBit_eq
  intro k
  rw [Nat.testBit_or, mk_bit, mk_bit, Nat.testBit_two_pow]
  by_cases e : j = k
  · subst e
    simp [hj]
  · simp [e, Ne.symm e]
theorem mk_none {w : Nat} : mk (fun _ => false) w = 0 := by
  induction w with
  | zero => rfl
  | succ w ih =>
    unfold mk
    rw [ih]
    rfl
/-- the part that g has more -/
theorem mk_more {f g : Nat → Bool} (h : ∀ k, f k = true → g k = true) : ∀ w, mk g w = mk f w + mk (fun k => g k && !f k) w
  | 0 => rfl
  | w + 1 => by
    have ih := mk_more h w
    unfold mk
    rw [ih]
    cases hf : f w with
    | true =>
      rw [h w hf]
      simp
      omega
    | false =>
      cases hg : g w <;> simp <;> omega
theorem mk_eq {f g : Nat → Bool} {w : Nat} : mk f w = mk g w ↔ ∀ k, k < w → f k = g k := by
  refine ⟨fun e k hk => ?_, mk_ext⟩
  have z := congrArg (fun n : Nat => n.testBit k) e
  simpa [mk_bit, hk] using z
/-! ### how many -/
def cnt (f : Nat → Bool) (w : Nat) : Nat := ((List.range w).filter f).length
theorem cnt_succ (f : Nat → Bool) (w : Nat) : cnt f (w + 1) = cnt f w + if f w then 1 else 0 := by
  unfold cnt
  rw [List.range_succ, List.filter_append, List.length_append]
  by_cases h : f w = true
  · rw [if_pos h, List.filter_cons_of_pos (p := f) h]
    rfl
  · rw [if_neg h, List.filter_cons_of_neg (p := f) h]
    rfl
theorem cnt_ext {f g : Nat → Bool} : ∀ {w : Nat}, (∀ k, k < w → f k = g k) → cnt f w = cnt g w
  | 0, _ => rfl
  | w + 1, h => by rw [cnt_succ, cnt_succ, cnt_ext fun k hk => h k (by omega), h w (by omega)]
theorem cnt_more {f g : Nat → Bool} (h : ∀ k, f k = true → g k = true) : ∀ w, cnt g w = cnt f w + cnt (fun k => g k && !f k) w
  | 0 => rfl
  | w + 1 => by
    have ih := cnt_more h w
    rw [cnt_succ, cnt_succ, cnt_succ, ih]
    cases hf : f w with
    | true =>
      rw [h w hf]
      simp
      omega
    | false =>
      cases hg : g w <;> simp <;> omega
theorem cnt_up {f : Nat → Bool} {w : Nat} (h : ∀ k, w ≤ k → f k = false) : ∀ d, cnt f (w + d) = cnt f w
  | 0 => rfl
  | d + 1 => by
    rw [← Nat.add_assoc, cnt_succ, cnt_up h d, h (w + d) (by omega)]
    rfl
theorem cnt_le {f : Nat → Bool} {w v : Nat} (hw : ∀ k, w ≤ k → f k = false) (hv : ∀ k, v ≤ k → f k = false) : cnt f w = cnt f v := by
  rcases Nat.le_total w v with h | h
  · have z := cnt_up hw (v - w)
    rw [show w + (v - w) = v by omega] at z
    exact z.symm
  · have z := cnt_up hv (w - v)
    rw [show v + (w - v) = w by omega] at z
    exact z
/-- the bits of a mask, counted by any length that is enough -/
theorem cnt_mk {f : Nat → Bool} {w L : Nat} (hL : mk f w < 2 ^ L) : cnt (fun k => (mk f w).testBit k) L = cnt f w := by
  rw [cnt_le (w := L) (v := w) (fun k hk => Nat.testBit_lt_two_pow (Nat.lt_of_lt_of_le hL (Nat.pow_le_pow_right (by decide) hk))) fun k hk => by rw [mk_bit, decide_eq_false (by omega)]; rfl]
  exact cnt_ext fun k hk => by rw [mk_bit, decide_eq_true hk]; rfl
/-- a mask as a sum -/
theorem mk_sum (f : Nat → Bool) : ∀ w, (((List.range w).filter f).map fun k => 2 ^ k).sum = mk f w
  | 0 => rfl
  | w + 1 => by
    rw [List.range_succ, List.filter_append, List.map_append, List.sum_append, mk_sum f w]
    show _ = mk f w + if f w then 2 ^ w else 0
    by_cases h : f w = true
    · rw [if_pos h, List.filter_cons_of_pos (p := f) h]
      simp
    · rw [if_neg h, List.filter_cons_of_neg (p := f) h]
      simp
end BI
set_option Elab.async false
set_option linter.all false
set_option maxRecDepth 100000
set_option maxHeartbeats 4000000
namespace OX
open PySem PySem.Spec PyProof.Rows L2 CM
def oexB (K : PySem.W.Frag) (C : Addr) : Bool := (match K.lookup C with
    | some ⟨.type "type", _, .cls cd, sl⟩ => (match cd.mro, sl.toList with
      | .ref C' :: bm, [_, _, _, _, some (.builtin n), _] => decide (C' = C) && (decide (n = "ValueError.__new__") && (!cd.hasDel && (cd.hasDict && PySem.HandSPX.refsVE bm)))
      | _, _ => false)
    | _ => false) && (He.eqO (PySem.W.findIn K (.ref C) "__setattr__") (some (some (.builtin "object.__setattr__"))) && (decide (PySem.W.subIn K (.ref C) (.type "BaseException") = some true) &&
      (decide (PySem.W.typeIn K (.ref C) = some (.type "type")) && PySem.W.keepIn K (.ref C))))
theorem oexB_ok {K : PySem.W.Frag} {C : Addr} (h : oexB K C = true) : OexC K C := by
  obtain ⟨h1, h⟩ := He.ba h
  obtain ⟨h2, h⟩ := He.ba h
  obtain ⟨h3, h⟩ := He.ba h
  obtain ⟨h4, h5⟩ := He.ba h
  refine ⟨?_, He.eqO_ok h2, of_decide_eq_true h3, of_decide_eq_true h4, h5⟩
  split at h1
  · rename_i dd cd sl ho
    split at h1
    · rename_i C' bm k0 k1 k2 k3 n k5 hm hs
      obtain ⟨g1, h1⟩ := He.ba h1
      obtain ⟨g2, h1⟩ := He.ba h1
      obtain ⟨g3, h1⟩ := He.ba h1
      obtain ⟨g4, g5⟩ := He.ba h1
      obtain ⟨nm, bs, mro, ns, qn, hd, sn, sb, ab, col, del⟩ := cd
      dsimp only at hm g3 g4
      subst hm g4
      obtain rfl : C' = C := of_decide_eq_true g1
      obtain rfl : n = "ValueError.__new__" := of_decide_eq_true g2
      obtain rfl : del = false := by
        cases del
        · rfl
        · cases g3
      obtain rfl : sl = #[k0, k1, k2, k3, some (.builtin "ValueError.__new__"), k5] := by
        rw [← Array.toArray_toList (xs := sl), hs]
      exact ⟨_, _, _, _, _, _, _, _, _, _, _, _, _, _, _, ho, g5⟩
    · cases h1
  · cases h1
/-- an own error whose __init__ stores its one argument as f -/
def errB (K : PySem.W.Frag) (C : Addr) (f : Str) : Bool := oexB K C && (He.eqO (PySem.W.findIn K (.ref C) "__init__") (some (some (.ref (He.ma K C "__init__")))) && (decide (PySem.W.typeIn K (.ref (He.ma K C "__init__")) = some (.type "function")) &&
  (He.eqO (PySem.W.findIn K (.ref C) f) (some none) && (xfB K C && decide (PySem.W.exmOne K (.ref C) (.ref C) = some true)))))
structure ErrOk (K : PySem.W.Frag) (C : Addr) (f : Str) : Prop where
  ox : OexC K C
  iC : PySem.W.findIn K (.ref C) "__init__" = some (some (.ref (He.ma K C "__init__")))
  tI : PySem.W.typeIn K (.ref (He.ma K C "__init__")) = some (.type "function")
  no : PySem.W.findIn K (.ref C) f = some none
  xf : XfC K C
  te : PySem.W.exmOne K (.ref C) (.ref C) = some true
theorem errB_ok {K : PySem.W.Frag} {C : Addr} {f : Str} (h : errB K C f = true) : ErrOk K C f := by
  obtain ⟨h1, h⟩ := He.ba h
  obtain ⟨h2, h⟩ := He.ba h
  obtain ⟨h3, h⟩ := He.ba h
  obtain ⟨h4, h⟩ := He.ba h
  obtain ⟨h5, h6⟩ := He.ba h
  exact ⟨oexB_ok h1, He.eqO_ok h2, of_decide_eq_true h3, He.eqO_ok h4, xfB_ok h5, of_decide_eq_true h6⟩
/-! ### what the names reach, and the interpreter's own statics -/
def reachY (g : Addr → Option Obj) (n : Nat) : PySem.W.Frag := He.frT g (He.asD g n ++ [cStatics])
def obsY (n : Nat) (fa : List He.Fa) (fn : List He.DefD) (ex : PySem.W.Frag → Bool) (g : Addr → Option Obj) : He.AlX :=
  (He.obsT fa fn [] (reachY g n), ex (reachY g n))
theorem saysY {n : Nat} {fa : List He.Fa} {fn : List He.DefD} {ex : PySem.W.Frag → Bool} {w : World} {h : Heap} (e : obsY n fa fn ex h.get? = He.valX fn [] w) : He.SaysX fa fn [] [] ex w h (reachY h.get? n) where
  t := congrArg Prod.fst e
  more := congrArg Prod.snd e
  hd := fun _ z => absurd z List.not_mem_nil
  out := fun _ z => absurd z List.not_mem_nil
  empty := fun _ z => absurd z List.not_mem_nil
def hookY (n : Nat) (fa : List He.Fa) (fn : List He.DefD) (ex : PySem.W.Frag → Bool) : PySem.W.Hook where
  α := He.AlX
  obs s := obsY n fa fn ex s.heap.get?
  val w := He.valX fn [] w
  says w h := ∃ K : PySem.W.Frag, K.In h ∧ He.SaysX fa fn [] [] ex w h K
  of _ s e := ⟨reachY s.heap.get? n, He.frT_in, saysY e⟩
  keeps _ _ _ z k := by
    obtain ⟨K, hK, c⟩ := z
    refine ⟨K, hK.keeps k, ?_⟩
    exact { t := c.t, more := c.more, hd := c.hd, out := c.out, empty := fun _ z => absurd z List.not_mem_nil }
theorem obsY_eq {n : Nat} {fa : List He.Fa} {fn : List He.DefD} {ex : PySem.W.Frag → Bool} {g : Addr → Option Obj} {s : Shared} (h : ∀ a, g a = s.heap.get? a) : obsY n fa fn ex g = (hookY n fa fn ex).obs s := by
  rw [show g = s.heap.get? from funext h]
  rfl
end OX
set_option Elab.async false
set_option linter.all false
set_option maxRecDepth 100000
set_option maxHeartbeats 4000000
namespace EQ
open PySem PySem.Spec PyProof.Rows L2 CM
/-- a == b of two pairs of ints -/
def rEqI2 (K : PySem.W.Frag) : R2 := fun x y H Q => ∃ (a b : Addr) (i j k l : Int), x = .ref a ∧ y = .ref b ∧ SqT K H a [.int i, .int j] ∧ SqT K H b [.int k, .int l] ∧ Q (.bl (decide (i = k ∧ j = l))) H
theorem op_eqI2 {X : Cx} (hu : X.A.units + 64 < cLine) : OpR X (compareOp .Eq) (rEqI2 X.K) := by
  intro pns s σ H x y v u Q I rx ry h
  obtain ⟨a, b, i, j, k, l, rfl, rfl, ha, hb, q⟩ := h
  cases (show v = Value.ref a from rx)
  cases (show u = Value.ref b from ry)
  obtain ⟨us, r1, p1, _⟩ := I.tuple ha
  obtain ⟨ws, r2, p2, _⟩ := I.tuple hb
  obtain ⟨u1, u2, rfl, ⟨t1, rfl⟩, ⟨t2, rfl⟩⟩ := vals2 r1
  obtain ⟨w1, w2, rfl, ⟨t3, rfl⟩, ⟨t4, rfl⟩⟩ := vals2 r2
  refine SeqAt.eq_tupleAt (e := fun n => if n = 0 then i == k else j == l) p1 p2 (by omega) (fun n h1 h2 => ?_) ?_
  · match n, h1, h2 with
    | 0, _, _ => exact SeqAt.EqAt.int_int i t1 k t3
    | 1, _, _ => exact SeqAt.EqAt.int_int j t2 l t4
    | n + 2, h1, _ => exact absurd h1 (by simp)
  · refine ⟨.bl _, H, I, rfl, ?_⟩
    have e : ((List.range 2).all (fun n => if n = 0 then i == k else j == l) && true) = decide (i = k ∧ j = l) := by
      rw [show List.range 2 = [0, 1] from rfl]
      by_cases e1 : i = k <;> by_cases e2 : j = l <;> simp [e1, e2]
    rw [← e] at q
    exact q
end EQ
set_option Elab.async false
set_option linter.all false
set_option maxRecDepth 100000
set_option maxHeartbeats 2000000
namespace K13
open PySem PySem.Spec PyProof.Rows L2 CM
def topS (i : Nat) : Stmt := PySem.Challenge.pw_kindgrove_k13_remainders.main.body.getD i (.Pass ⟨0, 0, 0, 0⟩)
abbrev s_NotGiven___init : Stmt := inClass (topS 2) 0
abbrev n_NotGiven___init : List Str := ["self", "name"]
theorem sc_NotGiven___init : FnScope n_NotGiven___init ["self", "name"] (defScope s_NotGiven___init) := ⟨rfl, rfl, rfl, by decide +kernel, rfl, by decide +kernel, by decide +kernel⟩
abbrev s_Kind_own : Stmt := inClass (topS 4) 0
abbrev n_Kind_own : List Str := ["self", "key"]
theorem sc_Kind_own : FnScope n_Kind_own ["self", "key"] (defScope s_Kind_own) := ⟨rfl, rfl, rfl, by decide +kernel, rfl, by decide +kernel, by decide +kernel⟩
abbrev s_Kind_join : Stmt := inClass (topS 4) 1
abbrev n_Kind_join : List Str := ["self", "one", "other"]
theorem sc_Kind_join : FnScope n_Kind_join ["self", "one", "other"] (defScope s_Kind_join) := ⟨rfl, rfl, rfl, by decide +kernel, rfl, by decide +kernel, by decide +kernel⟩
abbrev s_Kind_consistent : Stmt := inClass (topS 4) 2
abbrev n_Kind_consistent : List Str := ["self", "label", "question"]
theorem sc_Kind_consistent : FnScope n_Kind_consistent ["self", "label", "question"] (defScope s_Kind_consistent) := ⟨rfl, rfl, rfl, by decide +kernel, rfl, by decide +kernel, by decide +kernel⟩
abbrev s_Kind_matches : Stmt := inClass (topS 4) 3
abbrev n_Kind_matches : List Str := ["self", "key", "question"]
theorem sc_Kind_matches : FnScope n_Kind_matches ["self", "key", "question"] (defScope s_Kind_matches) := ⟨rfl, rfl, rfl, by decide +kernel, rfl, by decide +kernel, by decide +kernel⟩
abbrev s_Kind_penalty : Stmt := inClass (topS 4) 4
abbrev n_Kind_penalty : List Str := ["self", "label", "key"]
theorem sc_Kind_penalty : FnScope n_Kind_penalty ["self", "label", "key"] (defScope s_Kind_penalty) := ⟨rfl, rfl, rfl, by decide +kernel, rfl, by decide +kernel, by decide +kernel⟩
abbrev s_Kind_sides : Stmt := inClass (topS 4) 5
abbrev n_Kind_sides : List Str := ["self", "labels", "half"]
theorem sc_Kind_sides : FnScope n_Kind_sides ["self", "labels"] (defScope s_Kind_sides) := ⟨rfl, rfl, rfl, by decide +kernel, rfl, by decide +kernel, by decide +kernel⟩
abbrev s_Rests_own : Stmt := inClass (topS 6) 0
abbrev n_Rests_own : List Str := ["self", "key"]
theorem sc_Rests_own : FnScope n_Rests_own ["self", "key"] (defScope s_Rests_own) := ⟨rfl, rfl, rfl, by decide +kernel, rfl, by decide +kernel, by decide +kernel⟩
abbrev s_Rests_join : Stmt := inClass (topS 6) 1
abbrev n_Rests_join : List Str := ["self", "one", "other"]
theorem sc_Rests_join : FnScope n_Rests_join ["self", "one", "other"] (defScope s_Rests_join) := ⟨rfl, rfl, rfl, by decide +kernel, rfl, by decide +kernel, by decide +kernel⟩
abbrev s_Rests_consistent : Stmt := inClass (topS 6) 2
abbrev n_Rests_consistent : List Str := ["self", "label", "question", "step"]
theorem sc_Rests_consistent : FnScope n_Rests_consistent ["self", "label", "question"] (defScope s_Rests_consistent) := ⟨rfl, rfl, rfl, by decide +kernel, rfl, by decide +kernel, by decide +kernel⟩
abbrev s_Rests_matches : Stmt := inClass (topS 6) 3
abbrev n_Rests_matches : List Str := ["self", "key", "question"]
theorem sc_Rests_matches : FnScope n_Rests_matches ["self", "key", "question"] (defScope s_Rests_matches) := ⟨rfl, rfl, rfl, by decide +kernel, rfl, by decide +kernel, by decide +kernel⟩
abbrev s_Rests_penalty : Stmt := inClass (topS 6) 4
abbrev n_Rests_penalty : List Str := ["self", "label", "key"]
theorem sc_Rests_penalty : FnScope n_Rests_penalty ["self", "label", "key"] (defScope s_Rests_penalty) := ⟨rfl, rfl, rfl, by decide +kernel, rfl, by decide +kernel, by decide +kernel⟩
abbrev s_common_rest : Stmt := topS 7
abbrev n_common_rest : List Str := ["one", "other", "modulus", "rest", "step"]
theorem sc_common_rest : FnScope n_common_rest ["one", "other"] (defScope s_common_rest) := ⟨rfl, rfl, rfl, by decide +kernel, rfl, by decide +kernel, by decide +kernel⟩
abbrev s_common_divisor : Stmt := topS 8
abbrev n_common_divisor : List Str := ["one", "other"]
theorem sc_common_divisor : FnScope n_common_divisor ["one", "other"] (defScope s_common_divisor) := ⟨rfl, rfl, rfl, by decide +kernel, rfl, by decide +kernel, by decide +kernel⟩
abbrev s_law_well : Stmt := topS 10
abbrev n_law_well : List Str := ["_law_cell"]
theorem sc_law_well : FnScope n_law_well ["_law_cell"] (defScope s_law_well) := ⟨rfl, rfl, rfl, by decide +kernel, rfl, by decide +kernel, by decide +kernel⟩
abbrev s_law_draw : Stmt := topS 11
abbrev n_law_draw : List Str := ["_law_well_here", "_law_many", "_law_digit", "_law_number", "_law_more"]
theorem sc_law_draw : FnScope n_law_draw ["_law_well_here", "_law_many"] (defScope s_law_draw) := ⟨rfl, rfl, rfl, by decide +kernel, rfl, by decide +kernel, by decide +kernel⟩
abbrev s_law_one : Stmt := topS 12
abbrev n_law_one : List Str := ["_law_well_here", "_law_some"]
theorem sc_law_one : FnScope n_law_one ["_law_well_here", "_law_some"] (defScope s_law_one) := ⟨rfl, rfl, rfl, by decide +kernel, rfl, by decide +kernel, by decide +kernel⟩
abbrev s_law_divisor : Stmt := topS 13
abbrev n_law_divisor : List Str := ["_law_one_here", "_law_two", "_law_k"]
theorem sc_law_divisor : FnScope n_law_divisor ["_law_one_here", "_law_two"] (defScope s_law_divisor) := ⟨rfl, rfl, rfl, by decide +kernel, rfl, by decide +kernel, by decide +kernel⟩
abbrev s_law_holds : Stmt := topS 14
abbrev n_law_holds : List Str := ["_law_tag_here", "_law_number"]
theorem sc_law_holds : FnScope n_law_holds ["_law_tag_here", "_law_number"] (defScope s_law_holds) := ⟨rfl, rfl, rfl, by decide +kernel, rfl, by decide +kernel, by decide +kernel⟩
abbrev s_law_tag : Stmt := topS 15
abbrev n_law_tag : List Str := ["_law_well_here", "_law_size", "_law_modulus"]
theorem sc_law_tag : FnScope n_law_tag ["_law_well_here", "_law_size"] (defScope s_law_tag) := ⟨rfl, rfl, rfl, by decide +kernel, rfl, by decide +kernel, by decide +kernel⟩
abbrev s_law_members : Stmt := topS 16
abbrev n_law_members : List Str := ["_law_tag_here", "_law_low", "_law_high", "_law_number"]
theorem sc_law_members : FnScope n_law_members ["_law_tag_here", "_law_low", "_law_high"] (defScope s_law_members) := ⟨rfl, rfl, rfl, by decide +kernel, rfl, by decide +kernel, by decide +kernel⟩
abbrev s_law_small_right : Stmt := topS 17
abbrev n_law_small_right : List Str := ["_law_well_here", "_law_made", "_law_one_here", "_law_two", "_law_tag_here", "_law_both", "_law_modulus", "_law_asked", "_law_due", "_law_number"]
theorem sc_law_small_right : FnScope n_law_small_right ["_law_well_here", "_law_made"] (defScope s_law_small_right) := ⟨rfl, rfl, rfl, by decide +kernel, rfl, by decide +kernel, by decide +kernel⟩
abbrev s_law_great_right : Stmt := topS 18
abbrev n_law_great_right : List Str := ["_law_well_here", "_law_made", "_law_size", "_law_one_here", "_law_two", "_law_modulus", "_law_item", "_law_base", "_law_asked", "_law_due"]
theorem sc_law_great_right : FnScope n_law_great_right ["_law_well_here", "_law_made"] (defScope s_law_great_right) := ⟨rfl, rfl, rfl, by decide +kernel, rfl, by decide +kernel, by decide +kernel⟩
abbrev s_law : Stmt := topS 19
abbrev n_law : List Str := ["_law_script", "_law_cell", "_law_well_here", "_law_made", "_law_turn", "_law_k"]
theorem sc_law : FnScope n_law ["_law_script"] (defScope s_law) := ⟨rfl, rfl, rfl, by decide +kernel, rfl, by decide +kernel, by decide +kernel⟩
abbrev FnP (K : PySem.W.Frag) (x q : Str) (st : Stmt) (f : Addr) (fd : FuncData) : Prop := FunD K x q (defArgs st) (defBody st) (defScope st) [] [] f fd
section
variable {P : Program} {w : World} {K : PySem.W.Frag} {mg : Str → Option Value} {base : Heap}
/-- a number of draws to be divided by -/
structure Sz (m : Int) : Prop where
  lt : m.natAbs.log2 < 9000
theorem Sz.of {m : Int} {k : Nat} (h : m.natAbs < 2 ^ k) (hk : k ≤ 9000) : Sz m := by
  refine ⟨?_⟩
  cases k with
  | zero =>
    have : m.natAbs = 0 := by omega
    rw [this]
    decide
  | succ k => exact Nat.lt_of_lt_of_le (PySem.Flt.log2_lt_of (Nat.succ_pos k) h) hk
def spWell : Sp := fun vs H Q _ => ∃ i : Int, vs = [.int i] ∧ ∀ p, H p = none → Q (.ref p) (upd H p (.lst [.int i, .int 0]))
def spDraw : Sp := fun vs H Q _ => ∃ (a : Addr) (x c m : Int), vs = [.ref a, .int m] ∧ H a = some (.lst [.int x, .int c]) ∧ 0 < m ∧ Sz m ∧
  ∀ r x' c' : Int, 0 ≤ r → r < m → Q (.int r) (upd H a (.lst [.int x', .int c']))
theorem ok_well {f : Addr} {fd : FuncData} {k : Nat} (F : FnP K "_law_well" "_law_well" s_law_well f fd) (m_int : mg "int" = none) : FnOk P w K mg base CX0 (k + 1) f fd ["_law_cell"] spWell := by
  refine F.ok sc_law_well (fun vs H Q E h => ?_) (fun cdv A outer s H vs Q E hr h => ?_)
  · obtain ⟨i, rfl, _⟩ := h
    rfl
  · obtain ⟨i, rfl, q⟩ := h
    refine ⟨_, pss_one (ps_ret (pe_lst (pa_cons (pe_callTy call_int1 (by rfl) m_int boot_int (pa_cons (pv 0) pa_nil)) (pa_cons pe_int pa_nil)))), ?_⟩
    exact ⟨_, rfl, .inl ⟨i, rfl, ⟨by show 2 ≤ sizeLine; decide, fun p hp => q p hp⟩⟩⟩
theorem ok_draw {f : Addr} {fd : FuncData} {k : Nat} (F : FnP K "_law_draw" "_law_draw" s_law_draw f fd) (m_int : mg "int" = none) : FnOk P w K mg base CX0 (k + 1) f fd ["_law_well_here", "_law_many"] spDraw := by
  refine F.ok sc_law_draw (fun vs H Q E h => ?_) (fun cdv A outer s H vs Q E hr h => ?_)
  · obtain ⟨a, x, c, m, rfl, _⟩ := h
    rfl
  · obtain ⟨a, x, c, m, rfl, ha, m0, m1, q⟩ := h
    refine ⟨_, pss_cons (ps_if (pt_cmpR op_ge (pe_ix ix_list (pv 0) pe_int (fun _ _ => rfl)) (pe_op op_pow pe_int pe_int) (nomark _)) (pss_cons (ps_set (i := 2) sc_law_draw.nd rfl (.inl rfl) (pe_op op_mod (pe_callTy call_int1 (by rfl) m_int boot_int (pa_cons (pe_ix ix_list (pv 0) pe_int (fun _ _ => rfl)) pa_nil)) (pv 1)))
      (pss_cons (ps_asg (pe_op op_fdivW (pe_ix ix_list (pv 0) pe_int (fun _ _ => rfl)) (pv 1)) (pg_sub (pv 0) pe_int set_list))
      (pss_one (ps_ret (pv 2))))) (pss_nil))
    (pss_cons (ps_asg (pe_op op_add (pe_ix ix_list (pv 0) pe_int (fun _ _ => rfl)) pe_int) (pg_sub (pv 0) pe_int set_list))
    (pss_cons (ps_set (i := 3) sc_law_draw.nd rfl (.inl rfl) (pe_op op_mod (pe_callTy call_int1 (by rfl) m_int boot_int (pa_cons (pe_op op_mul (pe_callTy call_int1 (by rfl) m_int boot_int (pa_cons (pe_op op_add (pe_op op_add (pe_op op_mod (pe_callTy call_int1 (by rfl) m_int boot_int (pa_cons (pe_ix ix_list (pv 0) pe_int (fun _ _ => rfl)) pa_nil)) pe_int) (pe_op op_mul pe_int (pe_ix ix_list (pv 0) pe_int (fun _ _ => rfl)))) pe_int) pa_nil)) pe_int) pa_nil)) pe_int))
    (pss_cons (ps_set (i := 4) sc_law_draw.nd rfl (.inl rfl) (pe_op op_mod (pe_callTy call_int1 (by rfl) m_int boot_int (pa_cons (pe_op op_fdivW (pe_ix ix_list (pv 0) pe_int (fun _ _ => rfl)) pe_int) pa_nil)) pe_int))
    (pss_cons (ps_set (i := 3) sc_law_draw.nd rfl (.inl rfl) (pe_op op_mod (pe_callTy call_int1 (by rfl) m_int boot_int (pa_cons (pe_op op_mul (pv 3) (pe_op op_add (pe_op op_add (pe_op op_fdiv (pv 3) pe_int) pe_int) (pv 4))) pa_nil)) pe_int))
    (pss_one (ps_ret (pe_op op_mod (pe_callTy call_int1 (by rfl) m_int boot_int (pa_cons (pe_op op_fdiv (pe_op op_mod (pe_callTy call_int1 (by rfl) m_int boot_int (pa_cons (pe_op op_mul (pv 3) (pe_op op_add (pe_op op_fdiv (pv 3) pe_int) pe_int)) pa_nil)) pe_int) pe_int) pa_nil)) (pv 1)))))))), ?_⟩
    have hA : SqL K H a [.int x, .int c] := .inl (.inl ha)
    -- if well[0] >= 10 ** 18
    refine ⟨_, rfl, a, _, 0, _, rfl, rfl, hA, rfl, ?_⟩
    refine ⟨10, 18, rfl, rfl, ⟨by decide, by decide, by decide⟩, ?_⟩
    refine ⟨x, _, rfl, rfl, _, rfl, ite2 (fun big => ?_) (fun small => ?_)⟩
    · refine ⟨_, rfl, a, _, 0, _, rfl, rfl, hA, rfl, .inl ⟨x, rfl, _, rfl, x, m, rfl, rfl, m0, ?_⟩⟩
      refine ⟨_, rfl, a, _, 0, _, rfl, rfl, hA, rfl, _, rfl, x, m, rfl, rfl, ⟨m0, m1.lt⟩, ?_⟩
      refine ⟨_, rfl, a, _, 0, 0, rfl, rfl, ha, rfl, ?_⟩
      exact ⟨_, rfl, q (x % m) (x / m) c (Int.emod_nonneg _ (by omega)) (Int.emod_lt_of_pos _ m0)⟩
    · -- well[1] = well[1] + 1
      refine ⟨_, rfl, a, _, 1, _, rfl, rfl, hA, rfl, c, 1, rfl, rfl, _, rfl, a, _, 1, 1, rfl, rfl, ha, rfl, ?_⟩
      have hB : SqL K (upd H a (.lst [.int x, .int (c + 1)])) a [.int x, .int (c + 1)] := .inl (.inl upd_same)
      have e2 : upd H a (.lst ([V.int x, V.int c].set 1 (.int (c + 1)))) = upd H a (.lst [.int x, .int (c + 1)]) := rfl
      rw [e2]
      have k1 : (0 : Int) < 2147483629 := by decide
      refine ⟨_, rfl, a, _, 0, _, rfl, rfl, hB, rfl, .inl ⟨x, rfl, x, 2147483629, rfl, rfl, (by show (0 : Int) < 2147483629; decide), ?_⟩⟩
      refine ⟨_, rfl, a, _, 1, _, rfl, rfl, hB, rfl, 60013, c + 1, rfl, rfl, .inl (by decide), _, _, rfl, rfl, _, _, rfl, rfl, .inl ⟨_, rfl, ?_⟩⟩
      refine ⟨_, _, rfl, rfl, .inr (by decide), .inl ⟨_, rfl, _, _, rfl, rfl, (by show (0 : Int) < 2147483647; decide), ?_⟩⟩
      dsimp only
      generalize hn : ((x % 2147483629 + 60013 * (c + 1) + 11) * 48271) % 2147483647 = n
      have n0 : 0 ≤ n := by rw [← hn]; exact Int.emod_nonneg _ (by decide)
      have n1 : n < 2147483647 := by rw [← hn]; exact Int.emod_lt_of_pos _ (by decide)
      refine ⟨_, rfl, a, _, 0, _, rfl, rfl, hB, rfl, x, _, rfl, rfl, wide_div (b := 40) (by decide) (by decide) (by decide) (by decide), .inl ⟨_, rfl, _, _, rfl, rfl, (by show (0 : Int) < 9973; decide), ?_⟩⟩
      dsimp only
      generalize hz : (x / 2147483629) % 9973 = z
      refine ⟨_, rfl, _, rfl, _, _, rfl, rfl, ⟨by decide, by decide⟩, _, _, rfl, rfl, _, rfl, _, _, rfl, rfl, n, _, rfl, rfl, .inl ⟨by omega, by omega⟩, .inl ⟨_, rfl, _, _, rfl, rfl, (by show (0 : Int) < 2147483587; decide), ?_⟩⟩
      dsimp only
      generalize hg : (n * (n / 1013 + 40692 + z)) % 2147483587 = g
      have g0 : 0 ≤ g := by rw [← hg]; exact Int.emod_nonneg _ (by decide)
      have g1 : g < 2147483587 := by rw [← hg]; exact Int.emod_lt_of_pos _ (by decide)
      refine ⟨_, rfl, _, rfl, _, _, rfl, rfl, ⟨by decide, by decide⟩, _, _, rfl, rfl, g, _, rfl, rfl, .inl ⟨by omega, by omega⟩, .inl ⟨_, rfl, _, _, rfl, rfl, (by show (0 : Int) < 2147483563; decide), ?_⟩⟩
      refine ⟨_, _, rfl, rfl, ⟨by decide, by decide⟩, .inl ⟨_, rfl, _, rfl, _, m, rfl, rfl, m0, ?_⟩⟩
      exact q _ x (c + 1) (Int.emod_nonneg _ (by omega)) (Int.emod_lt_of_pos _ m0)
/-- one of a list's items -/
def spOne (K : PySem.W.Frag) : Sp := fun vs H Q _ => ∃ (a b : Addr) (x c : Int) (xs : List V), vs = [.ref a, .ref b] ∧ H a = some (.lst [.int x, .int c]) ∧ SqL K H b xs ∧ (∀ x' c' : Int, SqL K (upd H a (.lst [.int x', .int c'])) b xs) ∧ 0 < xs.length ∧ xs.length ≤ 1000 ∧
  ∀ (v : V) (x' c' : Int), v ∈ xs → Q v (upd H a (.lst [.int x', .int c']))
theorem ok_one {f : Addr} {fd : FuncData} {k : Nat} (F : FnP K "_law_one" "_law_one" s_law_one f fd) (C_draw : Cal P w K mg base CX0 "_law_draw" (k + 1) ["_law_well_here", "_law_many"] spDraw) (m_len : mg "len" = none) :
    FnOk P w K mg base CX0 (k + 1 + 1) f fd ["_law_well_here", "_law_some"] (spOne K) := by
  obtain ⟨f_law_draw, fd_law_draw, G_law_draw, b_law_draw, m_law_draw, k_law_draw⟩ := C_draw
  refine F.ok sc_law_one (fun vs H Q E h => ?_) (fun cdv A outer s H vs Q E hr h => ?_)
  · obtain ⟨a, b, x, c, xs, rfl, _⟩ := h
    rfl
  · obtain ⟨a, b, x, c, xs, rfl, ha, hb, hb', l0, l1, q⟩ := h
    refine ⟨_, pss_one (ps_ret (pe_ix ix_list (pv 1) (pe_call G_law_draw (hr.mono (by omega)) (by rfl) m_law_draw k_law_draw b_law_draw .nil pass0 (pa_cons (pv 0) (pa_cons (pe_callB call_len_seq (by rfl) m_len PySem.boot_len (pa_cons (pv 1) pa_nil)) pa_nil))) (fun _ _ => rfl))), ?_⟩
    refine ⟨_, rfl, _, rfl, _, rfl, b, xs, rfl, .inl hb, a, x, c, xs.length, rfl, ha, by omega, .of (k := 10) (by show (xs.length : Int).natAbs < 1024; omega) (by decide), fun r x' c' r0 r1 => ?_⟩
    obtain ⟨i, rfl⟩ := Int.eq_ofNat_of_zero_le r0
    have hi : i < xs.length := by omega
    exact ⟨b, xs, _, xs[i], rfl, rfl, hb' x' c', atI_nat (List.getElem?_eq_getElem hi), q _ x' c' (List.getElem_mem hi)⟩

end
end K13
set_option Elab.async false
set_option linter.all false
set_option maxRecDepth 100000
set_option maxHeartbeats 2000000
namespace K13
open PySem PySem.Spec PyProof.Rows L2 CM
section
variable {P : Program} {w : World} {K : PySem.W.Frag} {mg : Str → Option Value} {base : Heap}
/-! ### divisors -/
theorem gcd_emod {u v : Int} (hu : 0 ≤ u) (hv : 0 ≤ v) : Int.gcd v (u % v) = Int.gcd u v := by
  obtain ⟨a, rfl⟩ := Int.eq_ofNat_of_zero_le hu
  obtain ⟨b, rfl⟩ := Int.eq_ofNat_of_zero_le hv
  rw [← Int.natCast_emod, Int.gcd_natCast_natCast, Int.gcd_natCast_natCast, Nat.gcd_comm b, ← Nat.gcd_rec, Nat.gcd_comm]
def Two (i : Nat) (x y : Int) : Prop := 0 ≤ x ∧ 0 ≤ y ∧ ((i = 0 ∧ x < 2 ^ 180 ∧ y < 2 ^ 180) ∨ (1 ≤ i ∧ y < x ∧ x * y < 2 ^ (361 - i)))
theorem Two.step {i : Nat} {x y : Int} (h : Two i x y) (hy : y ≠ 0) : Two (i + 1) y (x % y) := by
  obtain ⟨h0, h1, h2⟩ := h
  have y0 : 0 < y := by omega
  have m0 := Int.emod_nonneg x hy
  have m1 := Int.emod_lt_of_pos x y0
  refine ⟨h1, m0, .inr ⟨by omega, m1, ?_⟩⟩
  rcases h2 with ⟨rfl, h2, h3⟩ | ⟨h2, h3, h4⟩
  · have a1 : y * (x % y) ≤ y * (2 ^ 180) := Int.mul_le_mul_of_nonneg_left (by omega) h1
    have a2 : y * (2 ^ 180) < 2 ^ 180 * 2 ^ 180 := Int.mul_lt_mul_of_pos_right h3 (by decide)
    have a3 : (2 : Int) ^ 180 * 2 ^ 180 = 2 ^ (361 - (0 + 1)) := by rw [← Int.pow_add]
    omega
  · have e := Int.emod_add_mul_ediv x y
    have q1 : 1 ≤ x / y := Int.le_ediv_of_mul_le y0 (by omega)
    have q2 : y * 1 ≤ y * (x / y) := Int.mul_le_mul_of_nonneg_left q1 h1
    have a1 : 2 * (x % y) ≤ x - 1 := by omega
    have a2 : y * (2 * (x % y)) ≤ y * (x - 1) := Int.mul_le_mul_of_nonneg_left a1 h1
    have a3 : y * (2 * (x % y)) = 2 * (y * (x % y)) := by rw [Int.mul_left_comm]
    have a4 : y * (x - 1) = x * y - y := by rw [Int.mul_sub, Int.mul_one, Int.mul_comm]
    have i1 : 1 ≤ 361 - i := by
      refine Nat.le_of_not_lt fun z => ?_
      have z0 : 361 - i = 0 := by omega
      rw [z0] at h4
      have z1 : 1 * 1 ≤ x * y := Int.mul_le_mul (by omega) (by omega) (by decide) (by omega)
      omega
    have a5 : (2 : Int) ^ (361 - i) = 2 * 2 ^ (361 - (i + 1)) := by
      rw [show 361 - i = (361 - (i + 1)) + 1 by omega, Int.pow_succ, Int.mul_comm]
    omega
theorem Two.done {x y : Int} (h : Two 400 x y) : y = 0 := by
  obtain ⟨h0, h1, h2⟩ := h
  rcases h2 with ⟨z, _⟩ | ⟨_, h3, h4⟩
  · cases z
  · have h5 : x * y < 1 := h4
    refine Classical.byContradiction fun z => ?_
    have z1 : 1 * 1 ≤ x * y := Int.mul_le_mul (by omega) (by omega) (by decide) (by omega)
    omega
def spDivisor : Sp := fun vs H Q _ => ∃ x y : Int, vs = [.int x, .int y] ∧ x.natAbs < 2 ^ 180 ∧ y.natAbs < 2 ^ 180 ∧ Q (.int (Int.gcd x y)) H
theorem ok_divisor {f : Addr} {fd : FuncData} {k : Nat} (F : FnP K "_law_divisor" "_law_divisor" s_law_divisor f fd) (m_abs : mg "abs" = none) (m_range : mg "range" = none) (m_int : mg "int" = none) :
    FnOk P w K mg base CX0 (k + 1) f fd ["_law_one_here", "_law_two"] spDivisor := by
  refine F.ok sc_law_divisor (fun vs H Q E h => ?_) (fun cdv A outer s H vs Q E hr h => ?_)
  · obtain ⟨x, y, rfl, _⟩ := h
    rfl
  · obtain ⟨x, y, rfl, hx, hy, q⟩ := h
    refine ⟨_, PSs.nox (pss_cons (ps_par (i := 0) (j := 1) rfl sc_law_divisor.nd rfl rfl (by decide) rfl rfl (pa_cons (pe_callB call_abs (by rfl) m_abs (by decide +kernel) (pa_cons (pv 0) pa_nil)) (pa_cons (pe_callB call_abs (by rfl) m_abs (by decide +kernel) (pa_cons (pv 1) pa_nil)) pa_nil)) (by rfl))
    (pss_cons (ps_for PassesOwn.never rfl (pi_range1 (by rfl) m_range (pa_cons pe_int pa_nil)) (pg_name (i := 2) sc_law_divisor.nd rfl (.inl rfl))
      (pss_cons (ps_if (pt_cmpR op_eq (pv 1) pe_int (nomark _)) (pss_one (ps_ret (pv 0))) (pss_nil))
      (pss_one (ps_par (i := 0) (j := 1) rfl sc_law_divisor.nd rfl rfl (by decide) rfl rfl (pa_cons (pv 1) (pa_cons (pe_op op_mod (pe_callTy call_int1 (by rfl) m_int boot_int (pa_cons (pv 0) pa_nil)) (pv 1)) pa_nil)) (by rfl)))))
    (pss_one (ps_ret (pv 0))))), ?_⟩
    have ab : ∀ z : Int, (if z < 0 then -z else z) = (z.natAbs : Int) := fun z => by
      split <;> omega
    refine ⟨_, rfl, x, rfl, _, rfl, y, rfl, _, _, rfl, ?_⟩
    rw [ab, ab]
    refine ⟨_, rfl, by decide, by decide, for_range (n := 400) (fun i σ H' => ∃ (u v : Int) (v2 : Option V), σ = [some (.int u), some (.int v), v2] ∧ H' = H ∧ Two i u v ∧ Int.gcd u v = Int.gcd x y)
      ⟨_, _, _, rfl, rfl, ⟨by omega, by omega, .inl ⟨rfl, by omega, by omega⟩⟩, by simp [Int.gcd]⟩ ?_ ?_⟩
    · rintro i σ H1 _ ⟨u, v, v2, rfl, rfl, t, g⟩
      refine ⟨_, rfl, rfl, _, rfl, ite2 (fun e => ?_) (fun e => ?_)⟩
      · have e0 : V.int v = V.int 0 := of_decide_eq_true e
        have e1 : v = 0 := V.int.inj e0
        refine ⟨_, rfl, ?_⟩
        subst e1
        rw [Int.gcd_zero_right] at g
        have := t.1
        rw [← g, Int.natAbs_of_nonneg this] at q
        exact q
      · have e1 : v ≠ 0 := fun z => e (decide_eq_true (by rw [z]))
        have v0 : 0 < v := by have := t.2.1; omega
        refine ⟨_, rfl, _, rfl, .inl ⟨_, rfl, _, rfl, u, v, rfl, rfl, v0, _, _, rfl, _, _, _, rfl, rfl, t.step e1, ?_⟩⟩
        rw [gcd_emod t.1 t.2.1]
        exact g
    · rintro σ H1 ⟨u, v, v2, rfl, rfl, t, g⟩
      have e1 := t.done
      refine ⟨_, rfl, ?_⟩
      subst e1
      rw [Int.gcd_zero_right] at g
      have := t.1
      rw [← g, Int.natAbs_of_nonneg this] at q
      exact q
/-! ### labels -/
def IsTag (n m r : Int) : Prop := 0 ≤ m ∧ m ≤ n ∧ (m = 0 → -(2 * n) ≤ r ∧ r ≤ 2 * n) ∧ (0 < m → 0 ≤ r ∧ r < m)
def hb (m r z : Int) : Bool := decide (m ∣ z - r)
def spHolds : Sp := fun vs H Q _ => ∃ (p : Addr) (m r z : Int), vs = [.ref p, .int z] ∧ Tup2 H p m r ∧ 0 ≤ m ∧ Q (.bl (hb m r z)) H
theorem dec_eq {i j : Int} : decide (V.int i = V.int j) = decide (i = j) := decide_eq_decide.mpr ⟨fun z => V.int.inj z, fun z => by rw [z]⟩
theorem ok_holds {f : Addr} {fd : FuncData} {k : Nat} (F : FnP K "_law_holds" "_law_holds" s_law_holds f fd) (m_int : mg "int" = none) : FnOk P w K mg base CX0 (k + 1) f fd ["_law_tag_here", "_law_number"] spHolds := by
  refine F.ok sc_law_holds (fun vs H Q E h => ?_) (fun cdv A outer s H vs Q E hr h => ?_)
  · obtain ⟨p, m, r, z, rfl, _⟩ := h
    rfl
  · obtain ⟨p, m, r, z, rfl, hp, hm, q⟩ := h
    refine ⟨_, PSs.nox (pss_one (ps_ret (pe_ifExp (pt_cmpR op_eq (pe_ix ix_tup (pv 0) pe_int (fun _ _ => rfl)) pe_int (nomark _)) (pe_cmpR op_eq (pv 1) (pe_ix ix_tup (pv 0) pe_int (fun _ _ => rfl)) (nomark _)) (pe_cmpR op_eq (pe_op op_mod (pe_callTy call_int1 (by rfl) m_int boot_int (pa_cons (pe_op op_sub (pv 1) (pe_ix ix_tup (pv 0) pe_int (fun _ _ => rfl))) pa_nil)) (pe_ix ix_tup (pv 0) pe_int (fun _ _ => rfl))) pe_int (nomark _))))), ?_⟩
    refine ⟨_, rfl, p, _, 0, _, rfl, rfl, .inl (.inl hp), rfl, rfl, _, rfl, ite2 (fun e => ?_) (fun e => ?_)⟩
    · have e1 : m = 0 := V.int.inj (of_decide_eq_true e)
      subst e1
      refine ⟨_, rfl, _, rfl, p, _, 1, _, rfl, rfl, .inl (.inl hp), rfl, rfl, ?_⟩
      have e2 : decide (V.int z = V.int r) = hb 0 r z := by
        rw [dec_eq]
        exact decide_eq_decide.mpr (by rw [Int.zero_dvd]; omega)
      rw [e2]
      exact q
    · have e1 : m ≠ 0 := fun y => e (decide_eq_true (by rw [y]))
      refine ⟨_, rfl, _, rfl, p, _, 1, _, rfl, rfl, .inl (.inl hp), rfl, z, r, rfl, rfl, .inl ⟨_, rfl, _, rfl, p, _, 0, _, rfl, rfl, .inl (.inl hp), rfl, _, m, rfl, rfl, by omega, rfl, ?_⟩⟩
      have e2 : decide (V.int ((z - r) % m) = V.int 0) = hb m r z := by
        rw [dec_eq]
        exact decide_eq_decide.mpr ⟨Int.dvd_of_emod_eq_zero, Int.emod_eq_zero_of_dvd⟩
      rw [e2]
      exact q
def spTag : Sp := fun vs H Q _ => ∃ (a : Addr) (n x c : Int), vs = [.ref a, .int n] ∧ H a = some (.lst [.int x, .int c]) ∧ 0 ≤ n ∧ n < 2 ^ 170 ∧
  ∀ (H' : Hp) (p : Addr) (m r x' c' : Int), Kp a H H' → H' a = some (.lst [.int x', .int c']) → Tup2 H' p m r → H p = none → IsTag n m r → Q (.ref p) H'
theorem ok_tag {f : Addr} {fd : FuncData} {k : Nat} (F : FnP K "_law_tag" "_law_tag" s_law_tag f fd) (C_draw : Cal P w K mg base CX0 "_law_draw" k ["_law_well_here", "_law_many"] spDraw) : FnOk P w K mg base CX0 (k + 1) f fd ["_law_well_here", "_law_size"] spTag := by
  obtain ⟨f_law_draw, fd_law_draw, G_law_draw, b_law_draw, m_law_draw, k_law_draw⟩ := C_draw
  refine F.ok sc_law_tag (fun vs H Q E h => ?_) (fun cdv A outer s H vs Q E hr h => ?_)
  · obtain ⟨a, n, x, c, rfl, _⟩ := h
    rfl
  · obtain ⟨a, n, x, c, rfl, ha, n0, n1, q⟩ := h
    refine ⟨_, PSs.nox (pss_cons (ps_set (i := 2) sc_law_tag.nd rfl (.inl rfl) (pe_call G_law_draw (hr.mono (by omega)) (by rfl) m_law_draw k_law_draw b_law_draw .nil pass0 (pa_cons (pv 0) (pa_cons (pe_op op_add (pv 1) pe_int) pa_nil))))
    (pss_one (ps_ret (pe_ifExp (pt_cmpR op_gt (pv 2) pe_int (nomark _)) (pe_tup (pa_cons (pv 2) (pa_cons (pe_call G_law_draw (hr.mono (by omega)) (by rfl) m_law_draw k_law_draw b_law_draw .nil pass0 (pa_cons (pv 0) (pa_cons (pv 2) pa_nil))) pa_nil))) (pe_tup (pa_cons pe_int (pa_cons (pe_op op_sub (pe_call G_law_draw (hr.mono (by omega)) (by rfl) m_law_draw k_law_draw b_law_draw .nil pass0 (pa_cons (pv 0) (pa_cons (pe_op op_add (pe_op op_mul pe_int (pv 1)) pe_int) pa_nil))) (pe_op op_mul pe_int (pv 1))) pa_nil))))))), ?_⟩
    refine ⟨_, rfl, _, rfl, n, 1, rfl, rfl, a, x, c, n + 1, rfl, ha, by omega, .of (k := 180) (by omega) (by decide), fun m x1 c1 m0 m1 => ?_⟩
    have back : ∀ {x2 c2 : Int} {p : Addr}, (upd (upd H a (.lst [.int x1, .int c1])) a (.lst [.int x2, .int c2])) p = none → H p = none := fun {x2 c2 p} z => by
      rw [upd_upd] at z
      have pa : p ≠ a := fun y => by
        rw [y, upd_same] at z
        cases z
      rw [upd_ne pa] at z
      exact z
    refine ⟨_, rfl, m, 0, rfl, rfl, _, rfl, ite2 (fun e => ?_) (fun e => ?_)⟩
    · have e1 : 0 < m := of_decide_eq_true e
      refine ⟨_, rfl, _, rfl, _, rfl, a, x1, c1, m, rfl, upd_same, e1, .of (k := 180) (by omega) (by decide), fun r x2 c2 r0 r1 => ⟨by show 2 ≤ sizeLine; decide, fun p np => ?_⟩⟩
      exact q _ p m r x2 c2 ((Kp.set.trans Kp.set).trans (.same (same_upd np))) (same_upd np _ _ upd_same) upd_same (back np) ⟨m0, by omega, fun z => by omega, fun _ => ⟨r0, r1⟩⟩
    · have e1 : m = 0 := Int.le_antisymm (Int.not_lt.mp fun z => e (decide_eq_true z)) m0
      refine ⟨_, rfl, _, rfl, 4, n, rfl, rfl, .inl (by decide), _, 1, rfl, rfl, a, x1, c1, 4 * n + 1, rfl, upd_same, by omega, .of (k := 180) (by omega) (by decide), fun r x2 c2 r0 r1 => ?_⟩
      refine ⟨_, rfl, 2, n, rfl, rfl, .inl (by decide), _, _, rfl, rfl, by show 2 ≤ sizeLine; decide, fun p np => ?_⟩
      exact q _ p 0 (r - 2 * n) x2 c2 ((Kp.set.trans Kp.set).trans (.same (same_upd np))) (same_upd np _ _ upd_same) upd_same (back np) ⟨by decide, n0, fun _ => by omega, fun z => by omega⟩
end
end K13
set_option Elab.async false
set_option linter.all false
set_option maxRecDepth 100000
set_option maxHeartbeats 2000000
namespace K13
open PySem PySem.Spec PyProof.Rows L2 CM
section
variable {P : Program} {w : World} {K : PySem.W.Frag} {mg : Str → Option Value} {base : Heap}
/-! ### the methods' contracts -/
def jm (a ra b rb : Int) : Int := (Int.gcd (Int.gcd a b : Int) (ra - rb) : Nat)
def jr (a ra b rb : Int) : Int := if jm a ra b rb = 0 then ra else ra % jm a ra b rb
def spOwn : Sp := fun vs H Q _ => ∃ (m : Addr) (n : Int), vs = [.ref m, .int n] ∧ ∀ (p : Addr) (H' : Hp), Same H H' → Tup2 H' p 0 n → Q (.ref p) H'
def spJoin : Sp := fun vs H Q _ => ∃ (m p r : Addr) (a ra b rb n : Int), vs = [.ref m, .ref p, .ref r] ∧ Tup2 H p a ra ∧ Tup2 H r b rb ∧ IsTag n a ra ∧ IsTag n b rb ∧ n < 2 ^ 170 ∧
  ∀ (t : Addr) (H' : Hp), Same H H' → Tup2 H' t (jm a ra b rb) (jr a ra b rb) → Q (.ref t) H'
def spCons : Sp := fun vs H Q _ => ∃ (m p r : Addr) (a ra b s n : Int), vs = [.ref m, .ref p, .ref r] ∧ Tup2 H p a ra ∧ Tup2 H r b s ∧ IsTag n a ra ∧ 0 < b ∧ b ≤ n ∧ 0 ≤ s ∧ s < b ∧ n < 2 ^ 170 ∧
  ∀ H' : Hp, Same H H' → Q (.bl (decide ((Int.gcd a b : Int) ∣ ra - s))) H'
def spMat : Sp := fun vs H Q _ => ∃ (m r : Addr) (n b s : Int), vs = [.ref m, .int n, .ref r] ∧ Tup2 H r b s ∧ 0 < b ∧ 0 ≤ s ∧ s < b ∧ ∀ H' : Hp, Same H H' → Q (.bl (decide (n % b = s))) H'
def spPen (C : Addr) : Sp := fun vs H Q _ => ∃ (m dx p : Addr) (a ra z n : Int), vs = [.ref m, .ref p, .int z] ∧ H m = some (.ins C dx []) ∧ Tup2 H p a ra ∧ IsTag n a ra ∧ IsTag n 0 z ∧ n < 2 ^ 170 ∧
  ∀ H' : Hp, Same H H' → Q (.int (if jm a ra 0 z = a ∧ jr a ra 0 z = ra then 0 else 1)) H'
theorem gcd_lt {a b : Int} {B : Nat} (ha : a.natAbs < B) (hb : b.natAbs < B) : Int.gcd a b < B := by
  unfold Int.gcd
  by_cases h : a.natAbs = 0
  · rw [h, Nat.gcd_zero_left]
    exact hb
  · exact Nat.lt_of_le_of_lt (Nat.gcd_le_left _ (Nat.pos_of_ne_zero h)) ha
theorem IsTag.lt {n m r : Int} (t : IsTag n m r) (hn : n < 2 ^ 170) : m.natAbs < 2 ^ 175 ∧ r.natAbs < 2 ^ 175 := by
  obtain ⟨h0, h1, h2, h3⟩ := t
  by_cases h : m = 0
  · have := h2 h
    omega
  · have := h3 (by omega)
    omega
theorem okp {i j : Int} : ∀ v ∈ [V.int i, V.int j], okV v := fun v hv => by
  rcases List.mem_cons.mp hv with rfl | hv
  · exact okV_int _
  · rcases List.mem_cons.mp hv with rfl | hv
    · exact okV_int _
    · cases hv
def spRight (C : Addr) : Sp := fun vs H Q _ => ∃ (a m dx : Addr) (x c : Int), vs = [.ref a, .ref m] ∧ H a = some (.lst [.int x, .int c]) ∧ H m = some (.ins C dx []) ∧ ∀ (H' : Hp) (x' c' : Int), Kp a H H' → H' a = some (.lst [.int x', .int c']) → Q (.bl true) H'
theorem ok_great {f C : Addr} {fd : FuncData} {k : Nat} (F : FnP K "_law_great_right" "_law_great_right" s_law_great_right f fd) (m_int : mg "int" = none) (cl_C : Cls K C)
    (C_draw : Cal P w K mg base CX0 "_law_draw" k ["_law_well_here", "_law_many"] spDraw) (C_one : Cal P w K mg base CX0 "_law_one" k ["_law_well_here", "_law_some"] (spOne K))
    (C_tag : Cal P w K mg base CX0 "_law_tag" k ["_law_well_here", "_law_size"] spTag) (C_divisor : Cal P w K mg base CX0 "_law_divisor" k ["_law_one_here", "_law_two"] spDivisor)
    (D_own : CalM P w K mg base CX0 C "own" k ["self", "key"] spOwn) (D_join : CalM P w K mg base CX0 C "join" k ["self", "one", "other"] spJoin)
    (D_consistent : CalM P w K mg base CX0 C "consistent" k ["self", "label", "question"] spCons) (D_matches : CalM P w K mg base CX0 C "matches" k ["self", "key", "question"] spMat)
    (D_penalty : CalM P w K mg base CX0 C "penalty" k ["self", "label", "key"] (spPen C)) :
    FnOk P w K mg base CX0 (k + 1) f fd ["_law_well_here", "_law_made"] (spRight C) := by
  obtain ⟨f_law_draw, fd_law_draw, G_law_draw, b_law_draw, m_law_draw, k_law_draw⟩ := C_draw
  obtain ⟨f_law_one, fd_law_one, G_law_one, b_law_one, m_law_one, k_law_one⟩ := C_one
  obtain ⟨f_law_tag, fd_law_tag, G_law_tag, b_law_tag, m_law_tag, k_law_tag⟩ := C_tag
  obtain ⟨f_law_divisor, fd_law_divisor, G_law_divisor, b_law_divisor, m_law_divisor, k_law_divisor⟩ := C_divisor
  obtain ⟨f_own, fd_own, G_own, b_own, me_own⟩ := D_own
  obtain ⟨f_join, fd_join, G_join, b_join, me_join⟩ := D_join
  obtain ⟨f_consistent, fd_consistent, G_consistent, b_consistent, me_consistent⟩ := D_consistent
  obtain ⟨f_matches, fd_matches, G_matches, b_matches, me_matches⟩ := D_matches
  obtain ⟨f_penalty, fd_penalty, G_penalty, b_penalty, me_penalty⟩ := D_penalty
  refine F.ok sc_law_great_right (fun vs H Q E h => ?_) (fun cdv A outer s H vs Q E hr h => ?_)
  · obtain ⟨a, m, dx, x, c, rfl, _⟩ := h
    rfl
  · obtain ⟨a, m, dx, x, c, rfl, ha, hm, q⟩ := h
    refine ⟨_, PSs.nox (pss_cons (ps_set (i := 2) sc_law_great_right.nd rfl (.inl rfl) (pe_call G_law_one (hr.mono (by omega)) (by rfl) m_law_one k_law_one b_law_one .nil pass0 (pa_cons (pv 0) (pa_cons (pe_lst (pa_cons pe_int (pa_cons (pe_op op_pow pe_int pe_int) (pa_cons (pe_op op_pow pe_int pe_int) pa_nil)))) pa_nil))))
    (pss_cons (ps_par (i := 3) (j := 4) rfl sc_law_great_right.nd rfl rfl (by decide) rfl rfl (pa_cons (pe_call G_law_tag (hr.mono (by omega)) (by rfl) m_law_tag k_law_tag b_law_tag .nil pass0 (pa_cons (pv 0) (pa_cons (pv 2) pa_nil))) (pa_cons (pe_call G_law_tag (hr.mono (by omega)) (by rfl) m_law_tag k_law_tag b_law_tag .nil pass0 (pa_cons (pv 0) (pa_cons (pv 2) pa_nil))) pa_nil)) (by rfl))
    (pss_cons (ps_set (i := 5) sc_law_great_right.nd rfl (.inl rfl) (pe_call G_law_divisor (hr.mono (by omega)) (by rfl) m_law_divisor k_law_divisor b_law_divisor .nil pass0 (pa_cons (pe_call G_law_divisor (hr.mono (by omega)) (by rfl) m_law_divisor k_law_divisor b_law_divisor .nil pass0 (pa_cons (pe_ix ix_tup (pv 3) pe_int (fun _ _ => rfl)) (pa_cons (pe_ix ix_tup (pv 4) pe_int (fun _ _ => rfl)) pa_nil))) (pa_cons (pe_op op_sub (pe_ix ix_tup (pv 3) pe_int (fun _ _ => rfl)) (pe_ix ix_tup (pv 4) pe_int (fun _ _ => rfl))) pa_nil))))
    (Evl.pss_cut (ps_if (pt_cmpR (op_neST hr.units) (pe_meth (pv 1) cl_C me_join G_join (hr.mono (by omega)) b_join .nil pass0 (pa_cons (pv 3) (pa_cons (pv 4) pa_nil))) (pe_tup (pa_cons (pv 5) (pa_cons (pe_ifExp (pt_cmpR op_eq (pv 5) pe_int (nomark _)) (pe_ix ix_tup (pv 3) pe_int (fun _ _ => rfl)) (pe_op op_mod (pe_callTy call_int1 (by rfl) m_int boot_int (pa_cons (pe_ix ix_tup (pv 3) pe_int (fun _ _ => rfl)) pa_nil)) (pv 5))) pa_nil))) (nomark _)) (pss_one (ps_ret pe_bl)) (pss_nil))
    (pss_cons (ps_par (i := 6) (j := 7) rfl sc_law_great_right.nd rfl rfl (by decide) rfl rfl (pa_cons (pe_op op_sub (pe_call G_law_draw (hr.mono (by omega)) (by rfl) m_law_draw k_law_draw b_law_draw .nil pass0 (pa_cons (pv 0) (pa_cons (pe_op op_add (pe_op op_mul pe_int (pv 2)) pe_int) pa_nil))) (pv 2)) (pa_cons (pe_op op_add pe_int (pe_call G_law_draw (hr.mono (by omega)) (by rfl) m_law_draw k_law_draw b_law_draw .nil pass0 (pa_cons (pv 0) (pa_cons (pv 2) pa_nil)))) pa_nil)) (by rfl))
    (pss_cons (ps_set (i := 8) sc_law_great_right.nd rfl (.inl rfl) (pe_tup (pa_cons (pv 7) (pa_cons (pe_call G_law_draw (hr.mono (by omega)) (by rfl) m_law_draw k_law_draw b_law_draw .nil pass0 (pa_cons (pv 0) (pa_cons (pv 7) pa_nil))) pa_nil))))
    (pss_cons (ps_if (PW.pt (pw_or (pt_cmpR (op_neST hr.units) (pe_meth (pv 1) cl_C me_own G_own (hr.mono (by omega)) b_own .nil pass0 (pa_cons (pv 6) pa_nil)) (pe_tup (pa_cons pe_int (pa_cons (pv 6) pa_nil))) (nomark _)) (pw_or1 (pt_cmpR op_ne (pe_meth (pv 1) cl_C me_matches G_matches (hr.mono (by omega)) b_matches .nil pass0 (pa_cons (pv 6) (pa_cons (pv 8) pa_nil))) (pe_cmpR op_eq (pe_op op_mod (pe_callTy call_int1 (by rfl) m_int boot_int (pa_cons (pv 6) pa_nil)) (pv 7)) (pe_ix ix_tup (pv 8) pe_int (fun _ _ => rfl)) (nomark _)) (nomark _))))) (pss_one (ps_ret pe_bl)) (pss_nil))
    (pss_cons (ps_if (pt_cmpR op_notBl (pe_meth (pv 1) cl_C me_matches G_matches (hr.mono (by omega)) b_matches .nil pass0 (pa_cons (pv 6) (pa_cons (pe_tup (pa_cons (pv 7) (pa_cons (pe_op op_mod (pe_callTy call_int1 (by rfl) m_int boot_int (pa_cons (pv 6) pa_nil)) (pv 7)) pa_nil))) pa_nil))) pe_bl (nomark _)) (pss_one (ps_ret pe_bl)) (pss_nil))
    (pss_cons (ps_set (i := 9) sc_law_great_right.nd rfl (.inl rfl) (pe_cmpR op_eq (pe_op op_mod (pe_callTy call_int1 (by rfl) m_int boot_int (pa_cons (pe_op op_sub (pe_ix ix_tup (pv 3) pe_int (fun _ _ => rfl)) (pe_ix ix_tup (pv 8) pe_int (fun _ _ => rfl))) pa_nil)) (pe_call G_law_divisor (hr.mono (by omega)) (by rfl) m_law_divisor k_law_divisor b_law_divisor .nil pass0 (pa_cons (pe_ix ix_tup (pv 3) pe_int (fun _ _ => rfl)) (pa_cons (pv 7) pa_nil)))) pe_int (nomark _)))
    (pss_cons (ps_if (pt_cmpR op_ne (pe_meth (pv 1) cl_C me_consistent G_consistent (hr.mono (by omega)) b_consistent .nil pass0 (pa_cons (pv 3) (pa_cons (pv 8) pa_nil))) (pv 9) (nomark _)) (pss_one (ps_ret pe_bl)) (pss_nil))
    (pss_one (ps_ret (pe_cmpR op_eq (pe_meth (pv 1) cl_C me_penalty G_penalty (hr.mono (by omega)) b_penalty .nil pass0 (pa_cons (pv 3) (pa_cons (pv 6) pa_nil))) (pe_callTy call_int1 (by rfl) m_int boot_int (pa_cons (pe_cmpR (op_neI2 hr.units) (pe_meth (pv 1) cl_C me_join G_join (hr.mono (by omega)) b_join .nil pass0 (pa_cons (pv 3) (pa_cons (pe_tup (pa_cons pe_int (pa_cons (pv 6) pa_nil))) pa_nil))) (pv 3) (nomark _)) pa_nil)) (nomark _)))))))))))))), ?_⟩
    have hma : m ≠ a := fun z => by
      rw [z, ha] at hm
      cases hm
    refine ⟨_, rfl, 10, 12, rfl, rfl, ⟨by decide, by decide, by decide⟩, 10, 50, rfl, rfl, ⟨by decide, by decide, by decide⟩, by show 3 ≤ sizeLine; decide, fun l nl => ?_⟩
    have hla : l ≠ a := Kp.ne ha nl
    have k1 : Kp a H (upd H l (.lst [.int 30, .int (10 ^ (12 : Int).toNat), .int (10 ^ (50 : Int).toNat)])) := .same (same_upd nl)
    refine ⟨a, l, x, c, _, rfl, same_upd nl _ _ ha, .inl (.inl upd_same), fun x' c' => .inl (.inl (by rw [upd_ne hla]; exact upd_same)), by show 0 < 3; decide, by show 3 ≤ 1000; decide, fun v x1 c1 hv => ?_⟩
    obtain ⟨n, rfl, n0, n1⟩ : ∃ n : Int, v = .int n ∧ 30 ≤ n ∧ n ≤ 10 ^ 50 := by
      rcases List.mem_cons.mp hv with rfl | hv
      · exact ⟨30, rfl, by decide, by decide⟩
      rcases List.mem_cons.mp hv with rfl | hv
      · exact ⟨10 ^ 12, rfl, by decide, by decide⟩
      rcases List.mem_cons.mp hv with rfl | hv
      · exact ⟨10 ^ 50, rfl, by decide, by decide⟩
      · cases hv
    have n2 : n < 2 ^ 170 := by omega
    have kA := k1.trans (Kp.set (o := .lst [.int x1, .int c1]))
    have aA : (upd (upd H l (.lst [.int 30, .int (10 ^ (12 : Int).toNat), .int (10 ^ (50 : Int).toNat)])) a (.lst [.int x1, .int c1])) a = some (.lst [.int x1, .int c1]) := upd_same
    generalize upd (upd H l (.lst [.int 30, .int (10 ^ (12 : Int).toNat), .int (10 ^ (50 : Int).toNat)])) a (.lst [.int x1, .int c1]) = G at kA aA
    refine ⟨_, rfl, _, rfl, a, n, x1, c1, rfl, aA, by omega, n2, fun H1 p1 m1 r1 x2 c2 kB aB h1 np1 t1 => ?_⟩
    refine ⟨_, rfl, _, rfl, a, n, x2, c2, rfl, aB, by omega, n2, fun H2 p2 m2 r2 x3 c3 kC aC h2 np2 t2 => ⟨_, _, rfl, ?_⟩⟩
    have p1a := Kp.ne aA np1
    have p2a := Kp.ne aB np2
    have h1' := kC _ _ p1a h1
    have kD := (kA.trans kB).trans kC
    have mD := kD _ _ hma hm
    obtain ⟨l1, l2⟩ := t1.lt n2
    obtain ⟨l3, l4⟩ := t2.lt n2
    refine ⟨_, rfl, p1, _, 0, _, rfl, rfl, .inl (.inl h1'), rfl, _, rfl, p2, _, 0, _, rfl, rfl, .inl (.inl h2), rfl, m1, m2, rfl, by omega, by omega, ?_⟩
    have l5 := gcd_lt l1 l3
    refine ⟨_, rfl, p1, _, 1, _, rfl, rfl, .inl (.inl h1'), rfl, _, rfl, p2, _, 1, _, rfl, rfl, .inl (.inl h2), rfl, r1, r2, rfl, rfl, _, _, rfl, by omega, by omega, ?_⟩
    refine ⟨fun σ' H' => σ' = [some (.ref a), some (.ref m), some (.int n), some (.ref p1), some (.ref p2), some (.int (jm m1 r1 m2 r2)), none, none, none, none] ∧ Same H2 H', ?_, ?_⟩
    · refine ⟨_, rfl, m, dx, [], rfl, mD, rfl, _, rfl, _, rfl, m, p1, p2, m1, r1, m2, r2, n, rfl, h1', h2, t1, t2, n2, fun t H3 s1 ht => ?_⟩
      have fin : ∀ (z : Int), z = jr m1 r1 m2 r2 → ([V.int (jm m1 r1 m2 r2), V.int z].length ≤ sizeLine ∧ ∀ p, H3 p = none → rNeST K (.ref t) (.ref p) (upd H3 p (.tup [.int (jm m1 r1 m2 r2), .int z])) fun v H4 => v = .bl false ∧ Same H2 H4) := fun z e => by
        subst e
        refine ⟨by show 2 ≤ sizeLine; decide, fun p np => ⟨t, p, [.int (jm m1 r1 m2 r2), .int (jr m1 r1 m2 r2)], rfl, rfl, .inl (.inl (same_upd np _ _ ht)), .inl (.inl upd_same), okp, rfl, s1.trans (same_upd np)⟩⟩
      refine ⟨_, rfl, _, rfl, rfl, _, rfl, ite2 (fun e => ?_) (fun e => ?_)⟩
      · have e1 : jm m1 r1 m2 r2 = 0 := V.int.inj (of_decide_eq_true e)
        obtain ⟨f1, f2⟩ := fin r1 (by rw [jr, if_pos e1])
        refine ⟨_, rfl, p1, _, 1, _, rfl, rfl, .inl (.inl (s1 _ _ h1')), rfl, f1, fun p np => ?_⟩
        obtain ⟨b1, b2, xs, c1, c2, c3, c4, c5, c6, c7⟩ := f2 p np
        exact ⟨b1, b2, xs, c1, c2, c3, c4, c5, _, rfl, ite2 (fun e => absurd e (by decide)) (fun _ => ⟨rfl, c7⟩)⟩
      · have e1 : jm m1 r1 m2 r2 ≠ 0 := fun y => e (decide_eq_true (congrArg V.int y))
        obtain ⟨f1, f2⟩ := fin (r1 % jm m1 r1 m2 r2) (by rw [jr, if_neg e1])
        have pos : 0 < jm m1 r1 m2 r2 := by
          have : 0 ≤ jm m1 r1 m2 r2 := Int.natCast_nonneg _
          omega
        refine ⟨_, rfl, p1, _, 1, _, rfl, rfl, .inl (.inl (s1 _ _ h1')), rfl, .inl ⟨_, rfl, _, rfl, _, _, rfl, rfl, pos, f1, fun p np => ?_⟩⟩
        obtain ⟨b1, b2, xs, c1, c2, c3, c4, c5, c6, c7⟩ := f2 p np
        exact ⟨b1, b2, xs, c1, c2, c3, c4, c5, _, rfl, ite2 (fun e => absurd e (by decide)) (fun _ => ⟨rfl, c7⟩)⟩
    · rintro σ' H3 ⟨rfl, s1⟩
      have aE := s1 _ _ aC
      refine ⟨_, rfl, _, rfl, 2, n, rfl, rfl, .inl (by decide), _, 1, rfl, rfl, a, x3, c3, 2 * n + 1, rfl, aE, by omega, .of (k := 180) (by omega) (by decide), fun it x4 c4 i0 i1 => ⟨_, rfl, it, n, rfl, rfl, ?_⟩⟩
      refine ⟨_, rfl, _, rfl, a, x4, c4, n, rfl, upd_same, by omega, .of (k := 180) (by omega) (by decide), fun b x5 c5 b0 b1 => ⟨1, b, rfl, rfl, _, _, rfl, ?_⟩⟩
      dsimp only
      generalize hi : it - n = item
      generalize hb : 1 + b = base
      refine ⟨_, rfl, _, rfl, _, rfl, a, x5, c5, base, rfl, upd_same, by omega, .of (k := 180) (by omega) (by decide), fun s x6 c6 s0 s1' => ⟨by show 2 ≤ sizeLine; decide, fun p8 np8 => ?_⟩⟩
      have kE : Kp a H3 _ := ((Kp.set (o := .lst [.int x4, .int c4])).trans (Kp.set (o := .lst [.int x5, .int c5]))).trans ((Kp.set (o := .lst [.int x6, .int c6])).trans (.same (same_upd (o := .tup [.int base, .int s]) np8)))
      have aF : (upd (upd (upd (upd H3 a (.lst [.int x4, .int c4])) a (.lst [.int x5, .int c5])) a (.lst [.int x6, .int c6])) p8 (.tup [.int base, .int s])) a = some (.lst [.int x6, .int c6]) := same_upd np8 _ _ upd_same
      have h8 : Tup2 (upd (upd (upd (upd H3 a (.lst [.int x4, .int c4])) a (.lst [.int x5, .int c5])) a (.lst [.int x6, .int c6])) p8 (.tup [.int base, .int s])) p8 base s := upd_same
      generalize upd (upd (upd (upd H3 a (.lst [.int x4, .int c4])) a (.lst [.int x5, .int c5])) a (.lst [.int x6, .int c6])) p8 (.tup [.int base, .int s]) = G4 at kE aF h8
      have kF := kD.trans ((Kp.same s1).trans kE)
      have mF := kE _ _ hma (s1 _ _ mD)
      have f1 := kE _ _ p1a (s1 _ _ h1')
      have pos : 0 < base := by omega
      have t0 : IsTag n 0 item := ⟨by decide, by omega, fun _ => by omega, fun z => by omega⟩
      refine ⟨_, rfl, m, dx, [], rfl, mF, rfl, _, rfl, m, item, rfl, fun po H5 s5 ho => ⟨_, rfl, by show 2 ≤ sizeLine; decide, fun pt npt => ⟨po, pt, [.int 0, .int item], rfl, rfl, .inl (.inl (same_upd npt _ _ ho)), .inl (.inl upd_same), okp, _, rfl, ite2 (fun e => absurd e (by decide)) (fun _ => ?_)⟩⟩⟩
      have s6 := s5.trans (same_upd (o := .tup [.int 0, .int item]) npt)
      refine ⟨_, rfl, m, dx, [], rfl, s6 _ _ mF, rfl, _, rfl, _, rfl, m, p8, item, base, s, rfl, s6 _ _ h8, pos, s0, s1', fun H6 s7 => ?_⟩
      have s8 := s6.trans s7
      refine ⟨_, rfl, .inl ⟨_, rfl, _, rfl, item, base, rfl, rfl, pos, _, rfl, p8, _, 1, _, rfl, rfl, .inl (.inl (s8 _ _ h8)), rfl, rfl, rfl, _, rfl, ite2 (fun e => absurd e (by simp [dec_eq])) (fun _ => ?_)⟩⟩
      refine ⟨_, rfl, m, dx, [], rfl, s8 _ _ mF, rfl, _, rfl, _, rfl, _, rfl, .inl ⟨_, rfl, _, rfl, item, base, rfl, rfl, pos, by show 2 ≤ sizeLine; decide, fun pq npq => ?_⟩⟩
      have s9 := s8.trans (same_upd (o := .tup [.int base, .int (item % base)]) npq)
      refine ⟨m, pq, item, base, item % base, rfl, upd_same, pos, Int.emod_nonneg _ (by omega), Int.emod_lt_of_pos _ pos, fun H7 s10 => ⟨_, true, rfl, rfl, _, rfl, ite2 (fun e => absurd e (by simp)) (fun _ => ?_)⟩⟩
      have s11 := s9.trans s10
      have l6 : base.natAbs < 2 ^ 175 := by omega
      have l7 := gcd_lt l1 l6
      have gpos : 0 < (Int.gcd m1 base : Int) := by
        have z : Int.gcd m1 base ≠ 0 := fun z => by
          have := (Int.gcd_eq_zero_iff.mp z).2
          omega
        omega
      refine ⟨_, rfl, p1, _, 1, _, rfl, rfl, .inl (.inl (s11 _ _ f1)), rfl, _, rfl, p8, _, 1, _, rfl, rfl, .inl (.inl (s11 _ _ h8)), rfl, r1, s, rfl, rfl, .inl ⟨_, rfl, _, rfl, p1, _, 0, _, rfl, rfl, .inl (.inl (s11 _ _ f1)), rfl, _, rfl, m1, base, rfl, by omega, by omega, _, _, rfl, rfl, gpos, rfl, ?_⟩⟩
      refine ⟨_, rfl, m, dx, [], rfl, s11 _ _ mF, rfl, _, rfl, _, rfl, m, p1, p8, m1, r1, base, s, n, rfl, s11 _ _ f1, s11 _ _ h8, t1, pos, by omega, s0, s1', n2, fun H8 s12 => ⟨_, rfl, rfl, _, rfl, ite2 (fun e => absurd e ?_) (fun _ => ?_)⟩⟩
      · have e2 : decide (V.int ((r1 - s) % (Int.gcd m1 base : Int)) = V.int 0) = decide ((Int.gcd m1 base : Int) ∣ r1 - s) := by
          rw [dec_eq]
          exact decide_eq_decide.mpr ⟨Int.dvd_of_emod_eq_zero, Int.emod_eq_zero_of_dvd⟩
        rw [e2]
        simp
      have s13 := s11.trans s12
      refine ⟨_, rfl, m, dx, [], rfl, s13 _ _ mF, rfl, _, rfl, _, rfl, m, dx, p1, m1, r1, item, n, rfl, s13 _ _ mF, s13 _ _ f1, t1, t0, n2, fun H9 s14 => ?_⟩
      have s15 := s13.trans s14
      refine ⟨_, rfl, m, dx, [], rfl, s15 _ _ mF, rfl, _, rfl, _, rfl, by show 2 ≤ sizeLine; decide, fun pz npz => ?_⟩
      have s16 := s15.trans (same_upd (o := .tup [.int 0, .int item]) npz)
      refine ⟨m, p1, pz, m1, r1, 0, item, n, rfl, s16 _ _ f1, upd_same, t1, t0, n2, fun t H10 s17 ht => ?_⟩
      have s18 := s16.trans s17
      refine ⟨_, rfl, t, p1, _, _, _, _, rfl, rfl, .inl (.inl ht), .inl (.inl (s18 _ _ f1)), .inr ⟨_, rfl, rfl, ?_⟩⟩
      have e3 : decide (V.int (if jm m1 r1 0 item = m1 ∧ jr m1 r1 0 item = r1 then 0 else 1) = V.int (if (!decide (jm m1 r1 0 item = m1 ∧ jr m1 r1 0 item = r1)) = true then 1 else 0)) = true := by
        by_cases e : jm m1 r1 0 item = m1 ∧ jr m1 r1 0 item = r1 <;> simp [e]
      rw [e3]
      exact q _ x6 c6 (kF.trans (.same s18)) (s18 _ _ aF)
end
end K13
set_option Elab.async false
set_option linter.all false
set_option maxRecDepth 100000
set_option maxHeartbeats 2000000
namespace K13
open PySem PySem.Spec PyProof.Rows L2 CM
section
variable {P : Program} {w : World} {K : PySem.W.Frag} {mg : Str → Option Value} {base : Heap}
/-! ### what divides what -/
theorem bez (a b : Nat) : ∃ x y : Int, (Nat.gcd a b : Int) = a * x + b * y := by
  induction a, b using Nat.gcd.induction with
  | H0 n => exact ⟨0, 1, by simp⟩
  | H1 m n hm ih =>
    obtain ⟨x, y, e⟩ := ih
    refine ⟨y - (n / m : Nat) * x, x, ?_⟩
    rw [Nat.gcd_rec, e]
    have z : (n : Int) = (n % m : Nat) + m * (n / m : Nat) := by
      rw [← Int.natCast_mul, ← Int.natCast_add, Nat.mod_add_div]
    generalize ((n % m : Nat) : Int) = u at *
    generalize ((n / m : Nat) : Int) = v at *
    rw [z, Int.mul_sub, Int.add_mul]
    have z1 : (m : Int) * (v * x) = m * v * x := (Int.mul_assoc ..).symm
    omega
theorem meet {m b r s : Int} (hm : 0 ≤ m) (hb : 0 < b) (g : (Int.gcd m b : Int) ∣ r - s) : ∃ t : Int, 0 ≤ t ∧ t < b ∧ b ∣ r + m * t - s := by
  obtain ⟨q, hq⟩ := g
  obtain ⟨x, y, e⟩ := bez m.natAbs b.natAbs
  have e1 : (Int.gcd m b : Int) = m * x + b * y := by
    have e0 : (Int.gcd m b : Int) = (Nat.gcd m.natAbs b.natAbs : Nat) := rfl
    rw [e0, e, Int.natAbs_of_nonneg hm, Int.natAbs_of_nonneg (Int.le_of_lt hb)]
  refine ⟨(-(x * q)) % b, Int.emod_nonneg _ (by omega), Int.emod_lt_of_pos _ hb, y * q - m * (-(x * q) / b), ?_⟩
  have z := Int.emod_add_mul_ediv (-(x * q)) b
  generalize (-(x * q)) % b = t at *
  generalize (-(x * q)) / b = k at *
  rw [e1] at hq
  have z1 : t = -(x * q) - b * k := by omega
  rw [z1, Int.mul_sub, Int.mul_sub]
  rw [Int.add_mul] at hq
  have a1 : m * (-(x * q)) = -(m * x * q) := by rw [Int.mul_neg, Int.mul_assoc]
  have a2 : b * (y * q) = b * y * q := (Int.mul_assoc ..).symm
  have a3 : m * (b * k) = b * (m * k) := Int.mul_left_comm ..
  omega
/-- what a window has of a label -/
def mem (m r lo : Int) (j : Nat) : List Int := ((List.range j).map fun (k : Nat) => lo + (k : Int)).filter (hb m r)
theorem mem_succ {m r lo : Int} {j : Nat} : mem m r lo (j + 1) = if hb m r (lo + (j : Int)) = true then mem m r lo j ++ [lo + (j : Int)] else mem m r lo j := by
  unfold mem
  rw [List.range_succ, List.map_append, List.filter_append]
  by_cases h : hb m r (lo + (j : Int)) = true
  · rw [if_pos h, List.map_cons, List.filter_cons_of_pos h]
    rfl
  · rw [if_neg h, List.map_cons, List.filter_cons_of_neg h]
    simp
theorem mem_len {m r lo : Int} {j : Nat} : (mem m r lo j).length ≤ j := by
  have z := List.length_filter_le (hb m r) ((List.range j).map fun (k : Nat) => lo + (k : Int))
  rw [List.length_map, List.length_range] at z
  exact z
theorem in_mem {m r lo z : Int} {j : Nat} : z ∈ mem m r lo j ↔ lo ≤ z ∧ z < lo + j ∧ m ∣ z - r := by
  unfold mem
  rw [List.mem_filter, List.mem_map]
  constructor
  · rintro ⟨⟨k, hk, rfl⟩, h⟩
    have := List.mem_range.mp hk
    exact ⟨by omega, by omega, of_decide_eq_true h⟩
  · rintro ⟨h1, h2, h3⟩
    exact ⟨⟨(z - lo).toNat, List.mem_range.mpr (by omega), by omega⟩, decide_eq_true h3⟩
/-- one of its own -/
theorem own_mem {m r : Int} (t : IsTag 9 m r) : r ∈ mem m r (-90) 181 := by
  obtain ⟨h0, h1, h2, h3⟩ := t
  refine in_mem.mpr ⟨?_, ?_, by rw [Int.sub_self]; exact Int.dvd_zero m⟩
  · by_cases h : m = 0
    · have := h2 h
      omega
    · have := h3 (by omega)
      omega
  · by_cases h : m = 0
    · have := h2 h
      omega
    · have := h3 (by omega)
      omega
theorem next_mem {m r : Int} (t : IsTag 9 m r) : r + m ∈ mem m r (-90) 181 := by
  obtain ⟨h0, h1, h2, h3⟩ := t
  refine in_mem.mpr ⟨?_, ?_, by rw [Int.add_comm, Int.add_sub_cancel]; exact Int.dvd_refl m⟩
  · by_cases h : m = 0
    · have := h2 h
      omega
    · have := h3 (by omega)
      omega
  · by_cases h : m = 0
    · have := h2 h
      omega
    · have := h3 (by omega)
      omega
theorem unlike_one {ns : List Int} (h : unlike ns = 1) {x y : Int} (hx : x ∈ ns) (hy : y ∈ ns) : x = y := by
  have em : (List.range ns.length).map (fun i => ns.getD i 0) = ns := by
    refine List.ext_getElem (by simp) fun i h1 h2 => ?_
    rw [List.getElem_map, List.getElem_range, List.getD_eq_getElem?_getD, List.getElem?_eq_getElem h2]
    rfl
  have f := fun k => firstMet_any (fun i => ns.getD i 0) ns.length k
  rw [em] at f
  unfold unlike at h
  generalize firstMet (fun i => ns.getD i 0) ns.length = l at f h
  obtain ⟨c, rfl⟩ := List.length_eq_one_iff.mp h
  have g : ∀ k ∈ ns, c = k := fun k hk => by
    have z := f k
    rw [List.any_eq_true.mpr ⟨k, hk, by simp⟩] at z
    simpa using z
  rw [← g x hx, g y hy]
theorem unlike_rr (r : Int) : unlike [r, r] = 1 := by
  show (firstMet (fun i => [r, r].getD i 0) 2).length = 1
  rw [firstMet_succ, firstMet_succ, firstMet_zero]
  simp [step_dedup]
theorem mem_zero {r : Int} (h0 : -18 ≤ r) (h1 : r ≤ 18) : mem 0 r (-90) 181 = [r] := by
  have all : ∀ i : Fin 37, mem 0 ((i.val : Int) - 18) (-90) 181 = [(i.val : Int) - 18] := by decide +kernel
  have z := all ⟨(r + 18).toNat, by omega⟩
  have e : (((⟨(r + 18).toNat, by omega⟩ : Fin 37).val : Nat) : Int) - 18 = r := by
    show (((r + 18).toNat : Nat) : Int) - 18 = r
    omega
  rw [e] at z
  exact z
theorem jm_nonneg {a ra b rb : Int} : 0 ≤ jm a ra b rb := Int.natCast_nonneg _
theorem jm_a {a ra b rb : Int} : jm a ra b rb ∣ a := Int.dvd_trans (Int.gcd_dvd_left ..) (Int.gcd_dvd_left ..)
theorem jm_b {a ra b rb : Int} : jm a ra b rb ∣ b := Int.dvd_trans (Int.gcd_dvd_left ..) (Int.gcd_dvd_right ..)
theorem jm_r {a ra b rb : Int} : jm a ra b rb ∣ ra - rb := Int.gcd_dvd_right ..
theorem jm_great {a ra b rb k : Int} (h1 : k ∣ a) (h2 : k ∣ b) (h3 : k ∣ ra - rb) : k ∣ jm a ra b rb := Int.dvd_coe_gcd (Int.dvd_coe_gcd h1 h2) h3
theorem jr_dvd {a ra b rb : Int} : jm a ra b rb ∣ ra - jr a ra b rb := by
  unfold jr
  by_cases h : jm a ra b rb = 0
  · rw [if_pos h, Int.sub_self]
    exact Int.dvd_zero _
  · rw [if_neg h]
    exact Int.dvd_self_sub_of_emod_eq rfl
/-- the join holds what both hold -/
theorem join_one {a ra b rb z : Int} (h : a ∣ z - ra) : jm a ra b rb ∣ z - jr a ra b rb := by
  have e : z - jr a ra b rb = (z - ra) + (ra - jr a ra b rb) := by omega
  rw [e]
  exact Int.dvd_add (Int.dvd_trans jm_a h) jr_dvd
theorem join_two {a ra b rb z : Int} (h : b ∣ z - rb) : jm a ra b rb ∣ z - jr a ra b rb := by
  have e : z - jr a ra b rb = (z - rb) + ((ra - jr a ra b rb) - (ra - rb)) := by omega
  rw [e]
  exact Int.dvd_add (Int.dvd_trans jm_b h) (Int.dvd_sub jr_dvd jm_r)
theorem narrow {a ra b rb k : Int} (t1 : IsTag 9 a ra) (t2 : IsTag 9 b rb) (k0 : 0 < k) (h : ∀ x y, x ∈ mem a ra (-90) 181 ++ mem b rb (-90) 181 → y ∈ mem a ra (-90) 181 ++ mem b rb (-90) 181 → x % k = y % k) : k ∣ jm a ra b rb := by
  have L : ∀ {x}, x ∈ mem a ra (-90) 181 → x ∈ mem a ra (-90) 181 ++ mem b rb (-90) 181 := fun z => List.mem_append_left _ z
  have R : ∀ {x}, x ∈ mem b rb (-90) 181 → x ∈ mem a ra (-90) 181 ++ mem b rb (-90) 181 := fun z => List.mem_append_right _ z
  have d : ∀ {x y : Int}, x % k = y % k → k ∣ x - y := fun e => Int.dvd_of_emod_eq_zero (Int.emod_eq_emod_iff_emod_sub_eq_zero.mp e)
  have g1 := d (h _ _ (L (next_mem t1)) (L (own_mem t1)))
  have g2 := d (h _ _ (R (next_mem t2)) (R (own_mem t2)))
  have g3 := d (h _ _ (L (own_mem t1)) (R (own_mem t2)))
  rw [Int.add_comm, Int.add_sub_cancel] at g1 g2
  exact jm_great g1 g2 g3
theorem join_tag {a ra b rb : Int} (t1 : IsTag 9 a ra) (t2 : IsTag 9 b rb) : IsTag 36 (jm a ra b rb) (jr a ra b rb) := by
  obtain ⟨a0, a1, a2, a3⟩ := t1
  obtain ⟨b0, b1, b2, b3⟩ := t2
  have ra1 : -18 ≤ ra ∧ ra ≤ 18 := by
    by_cases h : a = 0
    · have := a2 h
      omega
    · have := a3 (by omega)
      omega
  have rb1 : -18 ≤ rb ∧ rb ≤ 18 := by
    by_cases h : b = 0
    · have := b2 h
      omega
    · have := b3 (by omega)
      omega
  refine ⟨jm_nonneg, ?_, fun h => ?_, fun h => ?_⟩
  · by_cases h : a = 0
    · by_cases h' : b = 0
      · by_cases h2 : ra - rb = 0
        · subst h h'
          show ((Int.gcd (Int.gcd 0 0 : Int) (ra - rb) : Nat) : Int) ≤ 36
          rw [h2]
          decide
        · rcases Int.lt_or_gt_of_ne h2 with z | z
          · have := Int.le_of_dvd (by omega) ((Int.dvd_neg (a := jm a ra b rb)).mpr (jm_r (a := a) (b := b) (ra := ra) (rb := rb)))
            omega
          · have := Int.le_of_dvd z (jm_r (a := a) (b := b) (ra := ra) (rb := rb))
            omega
      · have := Int.le_of_dvd (by omega) (jm_b (a := a) (b := b) (ra := ra) (rb := rb))
        omega
    · have := Int.le_of_dvd (by omega) (jm_a (a := a) (b := b) (ra := ra) (rb := rb))
      omega
  · rw [jr, if_pos h]
    omega
  · rw [jr, if_neg (by omega)]
    exact ⟨Int.emod_nonneg _ (by omega), Int.emod_lt_of_pos _ h⟩
/-- some number of the window is asked for just if the divisor tells so -/
theorem asked {m r b s : Int} (t : IsTag 36 m r) (b0 : 0 < b) (b1 : b ≤ 9) (s0 : 0 ≤ s) (s1 : s < b) : (∃ z ∈ mem m r (-200) 600, z % b = s) ↔ (Int.gcd m b : Int) ∣ r - s := by
  obtain ⟨m0, m1, m2, m3⟩ := t
  constructor
  · rintro ⟨z, hz, e⟩
    obtain ⟨_, _, h3⟩ := in_mem.mp hz
    have d1 : (Int.gcd m b : Int) ∣ z - r := Int.dvd_trans (Int.gcd_dvd_left ..) h3
    have d2 : (Int.gcd m b : Int) ∣ z - s := Int.dvd_trans (Int.gcd_dvd_right ..) (by rw [← e]; exact Int.dvd_self_sub_of_emod_eq rfl)
    have d3 := Int.dvd_sub d2 d1
    have e3 : z - s - (z - r) = r - s := by omega
    rw [e3] at d3
    exact d3
  · intro g
    obtain ⟨t, ht0, ht1, ht2⟩ := meet m0 b0 g
    refine ⟨r + m * t, in_mem.mpr ⟨?_, ?_, by rw [Int.add_comm, Int.add_sub_cancel]; exact Int.dvd_mul_right m t⟩, ?_⟩
    · have z : 0 ≤ m * t := Int.mul_nonneg m0 ht0
      by_cases h : m = 0
      · have := m2 h
        omega
      · have := m3 (by omega)
        omega
    · have z : m * t ≤ m * 8 := Int.mul_le_mul_of_nonneg_left (by omega) m0
      by_cases h : m = 0
      · have := m2 h
        omega
      · have := m3 (by omega)
        omega
    · have e := Int.emod_emod_of_dvd s (Int.dvd_refl b)
      have e1 : (r + m * t) % b = s % b := Int.emod_eq_emod_iff_emod_sub_eq_zero.mpr (Int.emod_eq_zero_of_dvd ht2)
      rw [e1, Int.emod_eq_of_lt s0 s1]
end
end K13
set_option Elab.async false
set_option linter.all false
set_option maxRecDepth 100000
set_option maxHeartbeats 2000000
namespace K13
open PySem PySem.Spec PyProof.Rows L2 CM
section
variable {P : Program} {w : World} {K : PySem.W.Frag} {mg : Str → Option Value} {base : Heap}
def spMem : Sp := fun vs H Q _ => ∃ (p : Addr) (m r lo hi : Int) (j : Nat), vs = [.ref p, .int lo, .int hi] ∧ hi = lo + j ∧ Tup2 H p m r ∧ 0 ≤ m ∧ -1000 ≤ lo ∧ lo ≤ 1000 ∧ j ≤ 900 ∧
  ∀ (l : Addr) (H' : Hp), Same H H' → H' l = some (.lst ((mem m r lo j).map V.int)) → Q (.ref l) H'
theorem ok_members {f : Addr} {fd : FuncData} {k : Nat} (F : FnP K "_law_members" "_law_members" s_law_members f fd) (m_range : mg "range" = none) (C_holds : Cal P w K mg base CX0 "_law_holds" k ["_law_tag_here", "_law_number"] spHolds) :
    FnOk P w K mg base CX0 (k + 1) f fd ["_law_tag_here", "_law_low", "_law_high"] spMem := by
  obtain ⟨f_law_holds, fd_law_holds, G_law_holds, b_law_holds, m_law_holds, k_law_holds⟩ := C_holds
  refine F.ok sc_law_members (fun vs H Q E h => ?_) (fun cdv A outer s H vs Q E hr h => ?_)
  · obtain ⟨p, m, r, lo, hi, j, rfl, _⟩ := h
    rfl
  · obtain ⟨p, m, r, lo, hi, j, rfl, rfl, hp, hm, lo0, lo1, hj, q⟩ := h
    refine ⟨_, PSs.nox (pss_one (ps_ret (pe_lc (own := [("_law_number", 3)]) rfl sc_law_members.nd (pi_range2 (by rfl) m_range (pa_cons (pv 1) (pa_cons (pv 2) pa_nil))) (blkOk_by (N := n_law_members) (sc := defScope s_law_members) (by decide +kernel)) (fun _ _ _ _ _ => pg_name (i := 3) sc_law_members.nd rfl (.inl rfl)) (fun _ _ _ _ _ => pts_one (pt_val (pe_call G_law_holds (hr.mono (by omega)) (by rfl) m_law_holds k_law_holds b_law_holds .nil pass0 (pa_cons (pv 0) (pa_cons (pv 3) pa_nil))))) (fun _ _ _ _ _ => (pv 3))))), ?_⟩
    refine ⟨_, rfl, _, rfl, lo, lo + j, rfl, ⟨by omega, by omega, by omega, by omega⟩, fun D nD => ?_⟩
    rw [show (lo + (j : Int) - lo).toNat = j by omega]
    refine lc_range (lo := lo) (n := j) (fun i H' => Same H H' ∧ H' D = some (.lst ((mem m r lo i).map V.int))) ⟨same_upd nD, upd_same⟩ ?_ ?_
    · rintro i H1 hi ⟨s1, hD⟩
      refine ⟨rfl, _, rfl, _, rfl, p, m, r, lo + i, rfl, s1 _ _ hp, hm, _, rfl, ite2 (fun e => ?_) (fun e => ?_)⟩
      · refine ⟨_, rfl, _, hD, ?_, same_put s1 nD, ?_⟩
        · rw [List.length_map]
          exact small1000 (Nat.le_trans mem_len (by omega))
        · rw [upd_same, mem_succ, if_pos e, List.map_append]
          rfl
      · refine ⟨s1, ?_⟩
        rw [mem_succ, if_neg e]
        exact hD
    · rintro H1 ⟨s1, hD⟩
      exact q D H1 s1 hD
theorem ok_small {f C : Addr} {fd : FuncData} {k : Nat} (F : FnP K "_law_small_right" "_law_small_right" s_law_small_right f fd) (m_int : mg "int" = none) (m_range : mg "range" = none) (m_len : mg "len" = none) (m_set : mg "set" = none) (cl_C : Cls K C)
    (C_draw : Cal P w K mg base CX0 "_law_draw" k ["_law_well_here", "_law_many"] spDraw) (C_tag : Cal P w K mg base CX0 "_law_tag" k ["_law_well_here", "_law_size"] spTag)
    (C_members : Cal P w K mg base CX0 "_law_members" k ["_law_tag_here", "_law_low", "_law_high"] spMem) (C_holds : Cal P w K mg base CX0 "_law_holds" k ["_law_tag_here", "_law_number"] spHolds)
    (D_join : CalM P w K mg base CX0 C "join" k ["self", "one", "other"] spJoin) (D_consistent : CalM P w K mg base CX0 C "consistent" k ["self", "label", "question"] spCons) :
    FnOk P w K mg base CX0 (k + 1) f fd ["_law_well_here", "_law_made"] (spRight C) := by
  obtain ⟨f_law_draw, fd_law_draw, G_law_draw, b_law_draw, m_law_draw, k_law_draw⟩ := C_draw
  obtain ⟨f_law_tag, fd_law_tag, G_law_tag, b_law_tag, m_law_tag, k_law_tag⟩ := C_tag
  obtain ⟨f_law_members, fd_law_members, G_law_members, b_law_members, m_law_members, k_law_members⟩ := C_members
  obtain ⟨f_law_holds, fd_law_holds, G_law_holds, b_law_holds, m_law_holds, k_law_holds⟩ := C_holds
  obtain ⟨f_join, fd_join, G_join, b_join, me_join⟩ := D_join
  obtain ⟨f_consistent, fd_consistent, G_consistent, b_consistent, me_consistent⟩ := D_consistent
  refine F.ok sc_law_small_right (fun vs H Q E h => ?_) (fun cdv A outer s H vs Q E hr h => ?_)
  · obtain ⟨a, m, dx, x, c, rfl, _⟩ := h
    rfl
  · obtain ⟨a, m, dx, x, c, rfl, ha, hm, q⟩ := h
    refine ⟨_, PSs.nox (pss_cons (ps_par (i := 2) (j := 3) rfl sc_law_small_right.nd rfl rfl (by decide) rfl rfl (pa_cons (pe_call G_law_tag (hr.mono (by omega)) (by rfl) m_law_tag k_law_tag b_law_tag .nil pass0 (pa_cons (pv 0) (pa_cons pe_int pa_nil))) (pa_cons (pe_call G_law_tag (hr.mono (by omega)) (by rfl) m_law_tag k_law_tag b_law_tag .nil pass0 (pa_cons (pv 0) (pa_cons pe_int pa_nil))) pa_nil)) (by rfl))
    (pss_cons (ps_set (i := 4) sc_law_small_right.nd rfl (.inr rfl) (pe_meth (pv 1) cl_C me_join G_join (hr.mono (by omega)) b_join .nil pass0 (pa_cons (pv 2) (pa_cons (pv 3) pa_nil))))
    (pss_cons (ps_set (i := 5) sc_law_small_right.nd rfl (.inl rfl) (pe_op op_cat (pe_call G_law_members (hr.mono (by omega)) (by rfl) m_law_members k_law_members b_law_members .nil pass0 (pa_cons (pv 2) (pa_cons (pe_un un_neg pe_int) (pa_cons pe_int pa_nil)))) (pe_call G_law_members (hr.mono (by omega)) (by rfl) m_law_members k_law_members b_law_members .nil pass0 (pa_cons (pv 3) (pa_cons (pe_un un_neg pe_int) (pa_cons pe_int pa_nil))))))
    (pss_cons (ps_if (pt_cmpR (op_neNil hr.units) (pe_lc (own := [("_law_number", 9)]) rfl sc_law_small_right.nd (pi_list (pv 5)) (blkOk_by (N := n_law_small_right) (sc := defScope s_law_small_right) (by decide +kernel)) (fun _ _ _ _ _ => pg_name (i := 9) sc_law_small_right.nd rfl (.inl rfl)) (fun _ _ _ _ _ => pts_one (pt_not (pt_val (pe_call G_law_holds (hr.mono (by omega)) (by rfl) m_law_holds k_law_holds b_law_holds .nil pass0 (pa_cons (pv 4) (pa_cons (pv 9) pa_nil)))))) (fun _ _ _ _ _ => (pv 9))) (pe_lst (pa_nil)) (nomark _)) (pss_one (ps_ret pe_bl)) (pss_nil))
    (pss_cons (ps_for PassesOwn.never rfl (pi_range2 (by rfl) m_range (pa_cons pe_int (pa_cons pe_int pa_nil))) (pg_name (i := 6) sc_law_small_right.nd rfl (.inr rfl))
      (pss_one (ps_if (PW.pt (pw_and (pt_chain op_gt op_gt (pv 6) (pe_ix ix_tup (pv 4) pe_int (fun _ _ => rfl)) pe_int) (pw_and1 (pt_cmpR op_eq (pe_unlike (by rfl) m_len (by rfl) m_set (pe_lc (own := [("_law_number", 9)]) rfl sc_law_small_right.nd (pi_list (pv 5)) (blkOk_by (N := n_law_small_right) (sc := defScope s_law_small_right) (by decide +kernel)) (fun _ _ _ _ _ => pg_name (i := 9) sc_law_small_right.nd rfl (.inl rfl)) (fun _ _ _ _ _ => pts_nil) (fun _ _ _ _ _ => (pe_op op_mod (pe_callTy call_int1 (by rfl) m_int boot_int (pa_cons (pv 9) pa_nil)) (pv 6))))) pe_int (nomark _))))) (pss_one (ps_ret pe_bl)) (pss_nil))))
    (Evl.pss_cut (ps_if (PW.pt (pw_or (PW.pt (pw_and (pt_cmpR op_eq (pe_ix ix_tup (pv 4) pe_int (fun _ _ => rfl)) pe_int (nomark _)) (pw_and1 (pt_cmpR op_ne (pe_unlike (by rfl) m_len (by rfl) m_set (pv 5)) pe_int (nomark _))))) (pw_or1 (PW.pt (pw_and (pt_cmpR op_gt (pe_ix ix_tup (pv 4) pe_int (fun _ _ => rfl)) pe_int (nomark _)) (pw_and1 (pt_not (pt_chain op_le op_lt pe_int (pe_ix ix_tup (pv 4) pe_int (fun _ _ => rfl)) (pe_ix ix_tup (pv 4) pe_int (fun _ _ => rfl)))))))))) (pss_one (ps_ret pe_bl)) (pss_nil))
    (pss_cons (ps_set (i := 7) sc_law_small_right.nd rfl (.inr rfl) (pe_tup (pa_cons (pe_op op_add pe_int (pe_call G_law_draw (hr.mono (by omega)) (by rfl) m_law_draw k_law_draw b_law_draw .nil pass0 (pa_cons (pv 0) (pa_cons pe_int pa_nil)))) (pa_cons pe_int pa_nil))))
    (pss_cons (ps_set (i := 7) sc_law_small_right.nd rfl (.inr rfl) (pe_tup (pa_cons (pe_ix ix_tup (pv 7) pe_int (fun _ _ => rfl)) (pa_cons (pe_call G_law_draw (hr.mono (by omega)) (by rfl) m_law_draw k_law_draw b_law_draw .nil pass0 (pa_cons (pv 0) (pa_cons (pe_ix ix_tup (pv 7) pe_int (fun _ _ => rfl)) pa_nil))) pa_nil))))
    (pss_cons (ps_for PassesOwn.never rfl (pi_tup (pe_tup (pa_cons (pv 2) (pa_cons (pv 3) (pa_cons (pe_meth (pv 1) cl_C me_join G_join (hr.mono (by omega)) b_join .nil pass0 (pa_cons (pv 2) (pa_cons (pv 3) pa_nil))) pa_nil))))) (pg_name (i := 4) sc_law_small_right.nd rfl (.inr rfl))
      (pss_cons (ps_set (i := 8) sc_law_small_right.nd rfl (.inl rfl) (pe_cmpR (op_neNil hr.units) (pe_lc (own := [("_law_number", 9)]) rfl sc_law_small_right.nd (pi_list (pe_call G_law_members (hr.mono (by omega)) (by rfl) m_law_members k_law_members b_law_members .nil pass0 (pa_cons (pv 4) (pa_cons (pe_un un_neg pe_int) (pa_cons pe_int pa_nil))))) (blkOk_by (N := n_law_small_right) (sc := defScope s_law_small_right) (by decide +kernel)) (fun _ _ _ _ _ => pg_name (i := 9) sc_law_small_right.nd rfl (.inl rfl)) (fun _ _ _ _ _ => pts_one (pt_cmpR op_eq (pe_op op_mod (pe_callTy call_int1 (by rfl) m_int boot_int (pa_cons (pv 9) pa_nil)) (pe_ix ix_tupK (pv 7) pe_int (fun _ _ => rfl))) (pe_ix ix_tupK (pv 7) pe_int (fun _ _ => rfl)) (nomark _))) (fun _ _ _ _ _ => (pv 9))) (pe_lst (pa_nil)) (nomark _)))
      (pss_one (ps_if (pt_cmpR op_ne (pe_meth (pv 1) cl_C me_consistent G_consistent (hr.mono (by omega)) b_consistent .nil pass0 (pa_cons (pv 4) (pa_cons (pv 7) pa_nil))) (pv 8) (nomark _)) (pss_one (ps_ret pe_bl)) (pss_nil)))))
    (pss_one (ps_ret pe_bl))))))))))), ?_⟩
    have hma : m ≠ a := fun z => by
      rw [z, ha] at hm
      cases hm
    refine ⟨_, rfl, a, 9, x, c, rfl, ha, by decide, by decide, fun H1 p1 m1 r1 x2 c2 kB aB h1 np1 t1 => ?_⟩
    refine ⟨_, rfl, a, 9, x2, c2, rfl, aB, by decide, by decide, fun H2 p2 m2 r2 x3 c3 kC aC h2 np2 t2 => ⟨_, _, rfl, ?_⟩⟩
    have p1a := Kp.ne ha np1
    have h1' := kC _ _ p1a h1
    have kD := kB.trans kC
    have mD := kD _ _ hma hm
    refine ⟨_, rfl, m, dx, [], rfl, mD, rfl, _, rfl, _, rfl, m, p1, p2, m1, r1, m2, r2, 9, rfl, h1', h2, t1, t2, by decide, fun t H3 s1 ht => ?_⟩
    refine ⟨_, rfl, _, rfl, p1, m1, r1, -90, 91, 181, rfl, rfl, s1 _ _ h1', t1.1, by decide, by decide, by decide, fun l1 H4 s2 hl1 => ?_⟩
    refine ⟨_, rfl, _, rfl, p2, m2, r2, -90, 91, 181, rfl, rfl, (s1.trans s2) _ _ h2, t2.1, by decide, by decide, by decide, fun l2 H5 s3 hl2 => ⟨l1, l2, _, _, rfl, rfl, s3 _ _ hl1, hl2, ?_, fun e ne => ?_⟩⟩
    · rw [List.length_map, List.length_map]
      have z1 := mem_len (m := m1) (r := r1) (lo := -90) (j := 181)
      have z2 := mem_len (m := m2) (r := r2) (lo := -90) (j := 181)
      exact Nat.le_of_lt (small1000 (by omega))
    have sA := (s1.trans (s2.trans s3)).trans (same_upd (o := .lst ((mem m1 r1 (-90) 181).map V.int ++ (mem m2 r2 (-90) 181).map V.int)) ne)
    have he : (upd H5 e (.lst ((mem m1 r1 (-90) 181).map V.int ++ (mem m2 r2 (-90) 181).map V.int))) e = some (.lst ((mem m1 r1 (-90) 181 ++ mem m2 r2 (-90) 181).map V.int)) := by
      rw [upd_same, List.map_append]
    have htA := ((s2.trans s3).trans (same_upd (o := .lst ((mem m1 r1 (-90) 181).map V.int ++ (mem m2 r2 (-90) 181).map V.int)) ne)) _ _ ht
    generalize upd H5 e (.lst ((mem m1 r1 (-90) 181).map V.int ++ (mem m2 r2 (-90) 181).map V.int)) = G1 at sA he htA
    have hin : ∀ z ∈ mem m1 r1 (-90) 181 ++ mem m2 r2 (-90) 181, jm m1 r1 m2 r2 ∣ z - jr m1 r1 m2 r2 := fun z hz => by
      rcases List.mem_append.mp hz with h | h
      · exact join_one (in_mem.mp h).2.2
      · exact join_two (in_mem.mp h).2.2
    have hlen : (mem m1 r1 (-90) 181 ++ mem m2 r2 (-90) 181).length ≤ 400 := by
      have z1 := mem_len (m := m1) (r := r1) (lo := -90) (j := 181)
      have z2 := mem_len (m := m2) (r := r2) (lo := -90) (j := 181)
      rw [List.length_append]
      omega
    have hone : ∀ k : Int, 0 < k → unlike ((mem m1 r1 (-90) 181 ++ mem m2 r2 (-90) 181).map fun z => z % k) = 1 → k ∣ jm m1 r1 m2 r2 := fun k k0 u => narrow t1 t2 k0 fun x y hx hy => unlike_one u (List.mem_map.mpr ⟨x, hx, rfl⟩) (List.mem_map.mpr ⟨y, hy, rfl⟩)
    have hzero : jm m1 r1 m2 r2 = 0 → unlike (mem m1 r1 (-90) 181 ++ mem m2 r2 (-90) 181) = 1 := fun z => by
      have e1 : m1 = 0 := Int.zero_dvd.mp (z ▸ jm_a)
      have e2 : m2 = 0 := Int.zero_dvd.mp (z ▸ jm_b)
      have e3 : r1 - r2 = 0 := Int.zero_dvd.mp (z ▸ jm_r)
      subst e1 e2
      have b1 := t1.2.2.1 rfl
      have e4 : r2 = r1 := by omega
      subst e4
      rw [mem_zero (by omega) (by omega)]
      exact unlike_rr r2
    have tj := join_tag t1 t2
    generalize mem m1 r1 (-90) 181 ++ mem m2 r2 (-90) 181 = both at he hin hlen hone hzero
    have jn : 0 ≤ jm m1 r1 m2 r2 := jm_nonneg
    have hjj : jm m1 r1 m2 r2 = jm m1 r1 m2 r2 ∧ jr m1 r1 m2 r2 = jr m1 r1 m2 r2 := ⟨rfl, rfl⟩
    -- none is lost
    refine ⟨_, rfl, e, rfl, ⟨_, .inl (.inl he)⟩, fun D nD => lc_list (xs := both.map V.int) (fun i H' => Same G1 H' ∧ H' D = some (.lst [])) ⟨same_upd nD, upd_same⟩ (fun i H' _ z => .inl (.inl (z.1 _ _ he))) ?_ ?_⟩
    · rintro i x H6 hx ⟨s6, hD⟩
      obtain ⟨z, hz, rfl⟩ := List.mem_map.mp (List.mem_of_getElem? hx)
      refine ⟨rfl, _, rfl, _, rfl, t, _, _, z, rfl, s6 _ _ htA, jn, _, rfl, ?_⟩
      rw [show hb (jm m1 r1 m2 r2) (jr m1 r1 m2 r2) z = true from decide_eq_true (hin z hz)]
      exact ite2 (fun e => absurd e (by decide)) (fun _ => ⟨s6, hD⟩)
    rintro H6 ⟨s6, hD⟩
    refine ⟨by show 0 ≤ sizeLine; decide, fun D2 n2 => ⟨D, D2, [], rfl, rfl, .inl (.inl (same_upd n2 _ _ hD)), .inl (.inl upd_same), _, rfl, ite2 (fun e => absurd e (by decide)) (fun _ => ?_)⟩⟩
    have sB := s6.trans (same_upd (o := .lst []) n2)
    generalize upd H6 D2 (.lst []) = G2 at sB
    -- none is wider than it must be
    refine ⟨1, 181, rfl, ⟨by decide, by decide, by decide, by decide⟩, for_range (lo := 1) (n := 180) (fun _ σ H' => ∃ v6 : Option V, σ = [some (.ref a), some (.ref m), some (.ref p1), some (.ref p2), some (.ref t), some (.ref e), v6, none, none, none] ∧ Same G1 H') ⟨none, rfl, sB⟩ ?_ ?_⟩
    · rintro i σ H7 _ ⟨v6, rfl, s7⟩
      refine ⟨_, rfl, _, rfl, t, _, 0, _, rfl, rfl, .inl (.inl (s7 _ _ htA)), rfl, _, _, rfl, rfl, _, rfl, ite2 (fun e1 => ⟨_, 0, rfl, rfl, _, rfl, ite2 (fun e2 => ?_) (fun _ => ite2 (fun e => absurd e (by decide)) (fun _ => ⟨_, rfl, s7⟩))⟩) (fun _ => ⟨_, rfl, ite2 (fun e => absurd e (by decide)) (fun _ => ite2 (fun e => absurd e (by decide)) (fun _ => ⟨_, rfl, s7⟩))⟩)⟩
      have e3 : jm m1 r1 m2 r2 < 1 + (i : Int) := of_decide_eq_true e1
      have e4 : 0 < jm m1 r1 m2 r2 := of_decide_eq_true e2
      have kp : 0 < 1 + (i : Int) := by omega
      refine ⟨_, rfl, e, rfl, ⟨_, .inl (.inl (s7 _ _ he))⟩, fun D3 nD3 => lc_list (xs := both.map V.int) (fun j H' => Same H7 H' ∧ H' D3 = some (.lst (((both.map fun z => z % (1 + (i : Int))).take j).map V.int))) ⟨same_upd nD3, upd_same⟩ (fun j H' _ z => .inl (.inl (z.1 _ _ (s7 _ _ he)))) ?_ ?_⟩
      · rintro j x H8 hx ⟨s8, hD3⟩
        rw [List.getElem?_map] at hx
        obtain ⟨z, hz, rfl⟩ := Option.map_eq_some_iff.mp hx
        refine ⟨rfl, _, rfl, .inl ⟨_, rfl, _, rfl, z, _, rfl, rfl, kp, _, hD3, ?_, same_put s8 nD3, ?_⟩⟩
        · rw [List.length_map, List.length_take, List.length_map]
          exact small1000 (by omega)
        · rw [upd_same, List.take_add_one, List.getElem?_map, hz, List.map_append]
          rfl
      · rintro H8 ⟨s8, hD3⟩
        rw [List.length_map, List.take_of_length_le (by rw [List.length_map]; exact Nat.le_refl _)] at hD3
        refine ⟨D3, _, rfl, .inl (.inl hD3), by rw [List.length_map]; omega, rfl, _, rfl, ite2 (fun e5 => ?_) (fun _ => ⟨_, rfl, s7.trans s8⟩)⟩
        have e6 : ((unlike (both.map fun z => z % (1 + (i : Int))) : Nat) : Int) = 1 := V.int.inj (of_decide_eq_true e5)
        have e7 := Int.le_of_dvd e4 (hone _ kp (by omega))
        omega
    rintro σ H7 ⟨v6, rfl, s7⟩
    refine ⟨fun σ' H' => σ' = [some (.ref a), some (.ref m), some (.ref p1), some (.ref p2), some (.ref t), some (.ref e), v6, none, none, none] ∧ Same G1 H', ?_, ?_⟩
    · refine ⟨_, rfl, t, _, 0, _, rfl, rfl, .inl (.inl (s7 _ _ htA)), rfl, rfl, _, rfl, ite2 (fun e1 => ?_) (fun e1 => ?_)⟩
      · have e2 : jm m1 r1 m2 r2 = 0 := V.int.inj (of_decide_eq_true e1)
        refine ⟨_, rfl, e, both, rfl, .inl (.inl (s7 _ _ he)), by omega, rfl, _, rfl, ite2 (fun e3 => ?_) (fun _ => ?_)⟩
        · rw [hzero e2] at e3
          exact absurd e3 (by decide)
        · refine ⟨_, rfl, t, _, 0, _, rfl, rfl, .inl (.inl (s7 _ _ htA)), rfl, _, 0, rfl, rfl, _, rfl, ite2 (fun e4 => ?_) (fun _ => ite2 (fun e => absurd e (by decide)) (fun _ => ⟨rfl, s7⟩))⟩
          have e5 : 0 < jm m1 r1 m2 r2 := of_decide_eq_true e4
          omega
      · refine ite2 (fun e => absurd e (by decide)) (fun _ => ?_)
        have e2 : jm m1 r1 m2 r2 ≠ 0 := fun z => e1 (decide_eq_true (congrArg V.int z))
        have e3 : 0 < jm m1 r1 m2 r2 := by omega
        have e4 := tj.2.2.2 e3
        refine ⟨_, rfl, t, _, 0, _, rfl, rfl, .inl (.inl (s7 _ _ htA)), rfl, _, 0, rfl, rfl, _, rfl, ite2 (fun _ => ?_) (fun _ => ite2 (fun e => absurd e (by decide)) (fun _ => ⟨rfl, s7⟩))⟩
        refine ⟨_, rfl, t, _, 1, _, rfl, rfl, .inl (.inl (s7 _ _ htA)), rfl, 0, _, rfl, rfl, _, rfl, ite2 (fun _ => ?_) (fun e5 => absurd (decide_eq_true e4.1) e5)⟩
        refine ⟨_, rfl, t, _, 0, _, rfl, rfl, .inl (.inl (s7 _ _ htA)), rfl, _, _, rfl, rfl, _, rfl, ?_⟩
        rw [show decide (jr m1 r1 m2 r2 < jm m1 r1 m2 r2) = true from decide_eq_true e4.2]
        exact ite2 (fun e => absurd e (by decide)) (fun _ => ⟨rfl, s7⟩)
    rintro σ' H8 ⟨rfl, s8⟩
    have sC := sA.trans s8
    have aC' := sC _ _ aC
    have mC' := sC _ _ mD
    have g1 := sC _ _ h1'
    have g2 := sC _ _ h2
    refine ⟨_, rfl, a, x3, c3, 9, rfl, aC', by decide, .of (k := 4) (by decide) (by decide), fun b' x4 c4 b0 b1 => ⟨1, b', rfl, rfl, by show 2 ≤ sizeLine; decide, fun q0 nq0 => ?_⟩⟩
    dsimp only at nq0 ⊢
    generalize hbb : 1 + b' = b at nq0 ⊢
    refine ⟨_, rfl, q0, _, 0, _, rfl, rfl, .inl (.inl upd_same), rfl, _, rfl, _, rfl, q0, _, 0, _, rfl, rfl, .inl (.inl upd_same), rfl, a, x4, c4, b, rfl, same_upd nq0 _ _ upd_same, by omega, .of (k := 5) (by omega) (by decide), fun s' x5 c5 s0 s1' => ⟨by show 2 ≤ sizeLine; decide, fun p8 np8 => ?_⟩⟩
    have kE : Kp a H8 _ := ((Kp.set (o := .lst [.int x4, .int c4])).trans (.same (same_upd (o := .tup [.int b, .int 0]) nq0))).trans ((Kp.set (o := .lst [.int x5, .int c5])).trans (.same (same_upd (o := .tup [.int b, .int s']) np8)))
    have aF := same_upd (o := .tup [.int b, .int s']) np8 _ _ (upd_same (H := upd (upd H8 a (.lst [.int x4, .int c4])) q0 (.tup [.int b, .int 0])) (a := a) (o := .lst [.int x5, .int c5]))
    have h8 : Tup2 (upd (upd (upd (upd H8 a (.lst [.int x4, .int c4])) q0 (.tup [.int b, .int 0])) a (.lst [.int x5, .int c5])) p8 (.tup [.int b, .int s'])) p8 b s' := upd_same
    generalize upd (upd (upd (upd H8 a (.lst [.int x4, .int c4])) q0 (.tup [.int b, .int 0])) a (.lst [.int x5, .int c5])) p8 (.tup [.int b, .int s']) = G3 at kE aF h8
    have p2a := Kp.ne aB np2
    have f1 := kE _ _ p1a g1
    have f2 := kE _ _ p2a g2
    have mF := kE _ _ hma mC'
    have kF := kD.trans ((Kp.same sC).trans kE)
    have b0' : 0 < b := by omega
    have b1' : b ≤ 9 := by omega
    refine ⟨_, rfl, _, rfl, _, rfl, m, dx, [], rfl, mF, rfl, _, rfl, _, rfl, m, p1, p2, m1, r1, m2, r2, 9, rfl, f1, f2, t1, t2, by decide, fun tt H9 s9 ht9 => ⟨by show 3 ≤ sizeLine; decide, fun T nT => ⟨T, rfl, ⟨_, .inl (.inl upd_same)⟩, ?_⟩⟩⟩
    have sD := s9.trans (same_upd (o := .tup [.ref p1, .ref p2, .ref tt]) nT)
    have hT : (upd H9 T (.tup [.ref p1, .ref p2, .ref tt])) T = some (.tup [.ref p1, .ref p2, .ref tt]) := upd_same
    have htt := same_upd (o := .tup [.ref p1, .ref p2, .ref tt]) nT _ _ ht9
    generalize upd H9 T (.tup [.ref p1, .ref p2, .ref tt]) = G4 at sD hT htt
    have wid : ∀ {u v : Int}, IsTag 9 u v → IsTag 36 u v := fun z => ⟨z.1, by have := z.2.1; omega, fun y => by have := z.2.2.1 y; omega, z.2.2.2⟩
    refine for_tup (K := K) (a := T) (xs := [.ref p1, .ref p2, .ref tt]) (fun _ σ H' => ∃ (v4 v8 : Option V), σ = [some (.ref a), some (.ref m), some (.ref p1), some (.ref p2), v4, some (.ref e), v6, some (.ref p8), v8, none] ∧ Same G4 H') ⟨_, _, rfl, Same.refl _⟩ (fun i σ H' _ ⟨_, _, _, z⟩ => .inl (.inl (z _ _ hT))) ?_ ?_
    · rintro i y σ H10 hi ⟨v4, v8, rfl, s10⟩
      obtain ⟨qq, mq, rq, rfl, hq, tq⟩ : ∃ (qq : Addr) (mq rq : Int), y = .ref qq ∧ Tup2 G4 qq mq rq ∧ IsTag 36 mq rq := by
        rcases List.mem_cons.mp (List.mem_of_getElem? hi) with rfl | z
        · exact ⟨p1, m1, r1, rfl, sD _ _ f1, wid t1⟩
        rcases List.mem_cons.mp z with rfl | z
        · exact ⟨p2, m2, r2, rfl, sD _ _ f2, wid t2⟩
        rcases List.mem_cons.mp z with rfl | z
        · exact ⟨tt, _, _, rfl, htt, tj⟩
        · cases z
      refine ⟨_, rfl, _, rfl, qq, mq, rq, -200, 400, 600, rfl, rfl, s10 _ _ hq, tq.1, by decide, by decide, by decide, fun L H11 s11 hL => ?_⟩
      have s12 := s10.trans s11
      have hml := mem_len (m := mq) (r := rq) (lo := -200) (j := 600)
      have hask := asked tq b0' b1' s0 s1'
      refine ⟨L, rfl, ⟨_, .inl (.inl hL)⟩, fun D5 nD5 => ?_⟩
      generalize mem mq rq (-200) 600 = M at hL hml hask
      refine lc_list (xs := M.map V.int) (fun j H' => Same H11 H' ∧ H' D5 = some (.lst (((M.take j).filter fun z => decide (z % b = s')).map V.int))) ⟨same_upd nD5, upd_same⟩ (fun j H' _ z => .inl (.inl (z.1 _ _ hL))) ?_ ?_
      · rintro j x H12 hx ⟨s13, hD5⟩
        rw [List.getElem?_map] at hx
        obtain ⟨z, hz, rfl⟩ := Option.map_eq_some_iff.mp hx
        have h8' := (sD.trans (s12.trans s13)) _ _ h8
        refine ⟨rfl, _, rfl, .inl ⟨_, rfl, _, rfl, p8, _, 0, _, rfl, rfl, .inl (.inl h8'), rfl, z, b, rfl, rfl, b0', _, rfl, p8, _, 1, _, rfl, rfl, .inl (.inl h8'), rfl, rfl, _, rfl, ?_⟩⟩
        rw [dec_eq]
        refine ite2 (fun e5 => ?_) (fun e5 => ?_)
        · refine ⟨_, rfl, _, hD5, ?_, same_put s13 nD5, ?_⟩
          · rw [List.length_map]
            exact small1000 (Nat.le_trans (List.length_filter_le ..) (by rw [List.length_take]; omega))
          · rw [upd_same, List.take_add_one, hz, List.filter_append, List.map_append]
            rw [show (some z).toList = [z] from rfl, List.filter_cons_of_pos (p := fun z => decide (z % b = s')) e5]
            rfl
        · refine ⟨s13, ?_⟩
          rw [List.take_add_one, hz, List.filter_append]
          rw [show (some z).toList = [z] from rfl, List.filter_cons_of_neg (p := fun z => decide (z % b = s')) e5, List.filter_nil, List.append_nil]
          exact hD5
      · rintro H12 ⟨s13, hD5⟩
        rw [List.length_map, List.take_of_length_le (Nat.le_refl _)] at hD5
        refine ⟨by show 0 ≤ sizeLine; decide, fun D6 n6 => ⟨D5, D6, _, rfl, rfl, .inl (.inl (same_upd n6 _ _ hD5)), .inl (.inl upd_same), ?_⟩⟩
        have s14 := s12.trans (s13.trans (same_upd (o := .lst []) n6))
        have e6 : (!((M.filter fun z => decide (z % b = s')).map V.int).isEmpty) = decide ((Int.gcd mq b : Int) ∣ rq - s') := by
          rw [Bool.eq_iff_iff, decide_eq_true_iff, ← hask]
          cases hM : M.filter fun z => decide (z % b = s') with
          | nil =>
            refine ⟨fun z => (nomatch z), fun ⟨z, hz, e7⟩ => ?_⟩
            have := List.mem_filter (p := fun z => decide (z % b = s')) |>.mpr ⟨hz, decide_eq_true e7⟩
            rw [hM] at this
            cases this
          | cons z zs =>
            refine ⟨fun _ => ?_, fun _ => rfl⟩
            have := hM ▸ List.mem_cons_self (a := z) (l := zs)
            obtain ⟨f1, f2⟩ := List.mem_filter.mp this
            exact ⟨z, f1, of_decide_eq_true f2⟩
        rw [e6]
        generalize upd H12 D6 (.lst []) = G5 at s14
        refine ⟨_, rfl, m, dx, [], rfl, (sD.trans s14) _ _ mF, rfl, _, rfl, _, rfl, m, qq, p8, mq, rq, b, s', 36, rfl, s14 _ _ hq, (sD.trans s14) _ _ h8, tq, b0', by omega, s0, s1', by decide, fun H13 s15 => ⟨_, rfl, rfl, _, rfl, ite2 (fun e => absurd e (by simp)) (fun _ => ⟨_, _, rfl, s14.trans s15⟩)⟩⟩
    · rintro σ H10 ⟨v4, v8, rfl, s10⟩
      have s11 := sD.trans s10
      exact q _ x5 c5 (kF.trans (.same s11)) (s11 _ _ aF)
end
end K13
set_option Elab.async false
set_option linter.all false
set_option maxRecDepth 100000
set_option maxHeartbeats 2000000
namespace K13
open PySem PySem.Spec PyProof.Rows L2 CM
section
variable {P : Program} {w : World} {K : PySem.W.Frag} {mg : Str → Option Value} {base : Heap}
def sidesOf (n : Nat) : List V := (List.range n).map fun i => V.int (if i < n / 2 then 0 else 1)
def spSides (K : PySem.W.Frag) (C : Addr) : Sp := fun vs H Q _ => ∃ (m dx l : Addr) (xs : List V), vs = [.ref m, .ref l] ∧ H m = some (.ins C dx []) ∧ SqL K H l xs ∧ xs.length ≤ 30 ∧
  ∀ (t : Addr) (H' : Hp), Same H H' → (SqL K H' t (sidesOf xs.length) ∨ SqT K H' t (sidesOf xs.length)) → Q (.ref t) H'
theorem cut_mem {xs : List V} {lo hi : Option Int} {v : V} (h : v ∈ cutV xs lo hi) : v ∈ xs := List.mem_of_mem_drop (List.mem_of_mem_take h)
def spLaw (K : PySem.W.Frag) : Sp := fun vs H Q _ => ∃ (a : Addr) (ns : List Int), vs = [.ref a] ∧ SqL K H a (ns.map V.int) ∧ ns.length ≤ 63 ∧ ∀ H', Q (.bl true) H'
theorem ok_law {f C : Addr} {fd : FuncData} {k : Nat} (F : FnP K "law" "law" s_law f fd) (m_range : mg "range" = none) (m_list : mg "list" = none) (M_C : MkO K C) (cl_C : Cls K C) (m_C : mg "Rests" = some (.ref C))
    (C_well : Cal P w K mg base CX0 "_law_well" k ["_law_cell"] spWell) (C_small : Cal P w K mg base CX0 "_law_small_right" k ["_law_well_here", "_law_made"] (spRight C)) (C_great : Cal P w K mg base CX0 "_law_great_right" k ["_law_well_here", "_law_made"] (spRight C))
    (D_sides : CalM P w K mg base CX0 C "sides" k ["self", "labels"] (spSides K C)) :
    FnOk P w K mg base CX0 (k + 1) f fd ["_law_script"] (spLaw K) := by
  obtain ⟨f_law_well, fd_law_well, G_law_well, b_law_well, m_law_well, k_law_well⟩ := C_well
  obtain ⟨f_law_small_right, fd_law_small_right, G_law_small_right, b_law_small_right, m_law_small_right, k_law_small_right⟩ := C_small
  obtain ⟨f_law_great_right, fd_law_great_right, G_law_great_right, b_law_great_right, m_law_great_right, k_law_great_right⟩ := C_great
  obtain ⟨f_sides, fd_sides, G_sides, b_sides, me_sides⟩ := D_sides
  refine F.ok sc_law (fun vs H Q E h => ?_) (fun cdv A outer s H vs Q E hr h => ?_)
  · obtain ⟨a, ns, rfl, _⟩ := h
    rfl
  · obtain ⟨a, ns, rfl, hS, hlen, q⟩ := h
    refine ⟨_, PSs.nox (pss_cons (ps_for PassesOwn.never rfl (pi_list (pe_op op_cat (pe_slice sl_list (pv 0) po_none (po_some pe_int)) (pe_lst (pa_cons pe_int pa_nil)))) (pg_name (i := 1) sc_law.nd rfl (.inl rfl))
      (pss_cons (ps_par (i := 2) (j := 3) rfl sc_law.nd rfl rfl (by decide) rfl rfl (pa_cons (pe_call G_law_well (hr.mono (by omega)) (by rfl) m_law_well k_law_well b_law_well .nil pass0 (pa_cons (pv 1) pa_nil)) (pa_cons (pe_make00 M_C (by rfl) m_C) pa_nil)) (by rfl))
      (pss_cons (ps_for PassesOwn.never rfl (pi_range1 (by rfl) m_range (pa_cons pe_int pa_nil)) (pg_name (i := 4) sc_law.nd rfl (.inl rfl))
        (pss_one (ps_if (PW.pt (pw_or (pt_not (pt_val (pe_call G_law_small_right (hr.mono (by omega)) (by rfl) m_law_small_right k_law_small_right b_law_small_right .nil pass0 (pa_cons (pv 2) (pa_cons (pv 3) pa_nil))))) (pw_or1 (pt_not (pt_val (pe_call G_law_great_right (hr.mono (by omega)) (by rfl) m_law_great_right k_law_great_right b_law_great_right .nil pass0 (pa_cons (pv 2) (pa_cons (pv 3) pa_nil)))))))) (pss_one (ps_ret pe_bl)) (pss_nil))))
      (pss_one (ps_if (pt_cmpR (op_neS hr.units) (pe_callTy call_list_of (by rfl) m_list (by decide +kernel) (pa_cons (pe_meth (pv 3) cl_C me_sides G_sides (hr.mono (by omega)) b_sides .nil pass0 (pa_cons (pe_lc (own := [("_law_k", 5)]) rfl sc_law.nd (pi_range1 (by rfl) m_range (pa_cons pe_int pa_nil)) (blkOk_by (N := n_law) (sc := defScope s_law) (by decide +kernel)) (fun _ _ _ _ _ => pg_name (i := 5) sc_law.nd rfl (.inl rfl)) (fun _ _ _ _ _ => pts_nil) (fun _ _ _ _ _ => (pe_tup (pa_cons pe_int (pa_cons (pv 5) pa_nil))))) pa_nil)) pa_nil)) (pe_lst (pa_cons pe_int (pa_cons pe_int (pa_cons pe_int (pa_cons pe_int (pa_cons pe_int pa_nil)))))) (nomark _)) (pss_one (ps_ret pe_bl)) (pss_nil))))))
    (pss_one (ps_ret pe_bl))), ?_⟩
    refine ⟨_, rfl, 4, rfl, a, _, rfl, hS, fun c nc => ⟨by show 1 ≤ sizeLine; decide, fun d nd => ?_⟩⟩
    have hc : (upd (upd H c (.lst (cutV (ns.map V.int) none (some 4)))) d (.lst [V.int 0])) c = some (.lst (cutV (ns.map V.int) none (some 4))) := by
      rw [upd_ne (ne_of_none upd_same nd), upd_same]
    have hl : (cutV (ns.map V.int) none (some 4)).length ≤ 63 := Nat.le_trans (cutV_length ..) (by rw [List.length_map]; exact hlen)
    refine ⟨c, d, _, _, rfl, rfl, hc, upd_same, Nat.le_of_lt (small1000 (by rw [List.length_singleton]; omega)), fun e ne => ?_⟩
    generalize hX : cutV (ns.map V.int) none (some 4) ++ [V.int 0] = X
    have hXi : ∀ v ∈ X, ∃ z : Int, v = .int z := fun v hv => by
      rw [← hX] at hv
      rcases List.mem_append.mp hv with h1 | h1
      · obtain ⟨z, _, rfl⟩ := List.mem_map.mp (cut_mem h1)
        exact ⟨z, rfl⟩
      · exact ⟨0, List.mem_singleton.mp h1⟩
    generalize upd (upd H c (.lst (cutV (ns.map V.int) none (some 4)))) d (.lst [V.int 0]) = H1 at ne
    refine ⟨e, rfl, ⟨X, .inl (.inl upd_same)⟩, for_list (K := K) (a := e) (xs := X) (fun i σ H' => ∃ v1 v2 v3 v4 : Option V, σ = [some (.ref a), v1, v2, v3, v4, none] ∧ H' e = some (.lst X))
      ⟨none, none, none, none, rfl, upd_same⟩ (fun i σ H' _ ⟨_, _, _, _, _, he⟩ => .inl (.inl he)) ?_ ?_⟩
    · rintro i y σ H2 hi ⟨v1, v2, v3, v4, rfl, he⟩
      obtain ⟨z, rfl⟩ := hXi y (List.mem_of_getElem? hi)
      refine ⟨_, rfl, z, rfl, fun p np => fun m dx nm ndx hne => ⟨_, _, rfl, ?_⟩⟩
      have hpm : p ≠ m := ne_of_none upd_same nm
      have hpd : p ≠ dx := ne_of_none upd_same ndx
      have hp : (upd (upd (upd H2 p (.lst [.int z, .int 0])) dx (.own m)) m (.ins C dx [])) p = some (.lst [.int z, .int 0]) := by
        rw [upd_ne hpm, upd_ne hpd, upd_same]
      have hm : (upd (upd (upd H2 p (.lst [.int z, .int 0])) dx (.own m)) m (.ins C dx [])) m = some (.ins C dx []) := upd_same
      have hpe : e ≠ p := ne_of_none he np
      have he2 : (upd (upd (upd H2 p (.lst [.int z, .int 0])) dx (.own m)) m (.ins C dx [])) e = some (.lst X) := by
        have q0 := same_upd (o := .lst [.int z, .int 0]) np _ _ he
        rw [upd_ne (ne_of_none q0 nm), upd_ne (ne_of_none q0 ndx)]
        exact q0
      generalize upd (upd (upd H2 p (.lst [.int z, .int 0])) dx (.own m)) m (.ins C dx []) = H3 at hp hm he2
      have hmp : m ≠ p := Ne.symm hpm
      refine ⟨_, rfl, by decide, by decide, for_range (n := 6) (fun _ σ H' => ∃ (v4 : Option V) (x' c' : Int), σ = [some (.ref a), some (.int z), some (.ref p), some (.ref m), v4, none] ∧ Kp p H3 H' ∧ H' p = some (.lst [.int x', .int c'])) ⟨_, _, _, rfl, fun _ _ _ e => e, hp⟩ ?_ ?_⟩
      · rintro j σ H4 _ ⟨v4, x', c', rfl, k4, hp4⟩
        refine ⟨_, rfl, _, rfl, p, m, dx, x', c', rfl, hp4, k4 _ _ hmp hm, fun H5 x2 c2 k5 hp5 => ⟨_, rfl, ite2 (fun e => absurd e (by decide)) (fun _ => ?_)⟩⟩
        refine ⟨_, rfl, _, rfl, p, m, dx, x2, c2, rfl, hp5, k5 _ _ hmp (k4 _ _ hmp hm), fun H6 x3 c3 k6 hp6 => ⟨_, rfl, ite2 (fun e => absurd e (by decide)) (fun _ => ?_)⟩⟩
        exact ⟨_, _, _, rfl, (k4.trans k5).trans k6, hp6⟩
      · rintro σ H4 ⟨v4, x', c', rfl, k4, hp4⟩
        have hm4 := k4 _ _ hmp hm
        have he4 := k4 _ _ hpe he2
        refine ⟨_, rfl, m, dx, [], rfl, hm4, rfl, _, rfl, by decide, by decide, fun D nD => ?_⟩
        refine lc_range (lo := 0) (n := 5) (fun j H' => Same H4 H' ∧ ∃ xs : List V, H' D = some (.lst xs) ∧ xs.length = j) ⟨same_upd nD, [], upd_same, rfl⟩ ?_ ?_
        · rintro j H5 hj ⟨s5, xs, hD, hx⟩
          refine ⟨rfl, _, rfl, by show 2 ≤ sizeLine; decide, fun T nT => ⟨_, same_upd nT _ _ hD, small1000 (by omega), same_put (s5.trans (same_upd nT)) nD, _, upd_same, ?_⟩⟩
          rw [List.length_append, hx]
          rfl
        · rintro H5 ⟨s5, xs, hD, hx⟩
          refine ⟨m, dx, D, xs, rfl, s5 _ _ hm4, .inl (.inl hD), by omega, fun t H6 s6 ht => ⟨t, _, rfl, ht, fun l nl => ?_⟩⟩
          have s7 := s6.trans (same_upd (o := .lst (sidesOf xs.length)) nl)
          have hlL : (upd H6 l (.lst (sidesOf xs.length))) l = some (.lst (sidesOf xs.length)) := upd_same
          generalize upd H6 l (.lst (sidesOf xs.length)) = H7 at s7 hlL
          rw [hx] at hlL
          refine ⟨by show 5 ≤ sizeLine; decide, fun l2 nl2 => ⟨l, l2, _, rfl, rfl, .inl (.inl (same_upd nl2 _ _ hlL)), .inl (.inl upd_same), fun v hv => ?_, _, rfl, ite2 (fun e => absurd e (by decide)) (fun _ => ⟨_, _, _, _, rfl, ?_⟩)⟩⟩
          · obtain ⟨i, _, rfl⟩ := List.mem_map.mp hv
            exact okV_int _
          · exact same_upd nl2 _ _ (s7 _ _ (s5 _ _ he4))
    · rintro σ H2 ⟨v1, v2, v3, v4, rfl, he⟩
      exact q _
end
end K13
set_option Elab.async false
set_option linter.all false
set_option maxRecDepth 100000
set_option maxHeartbeats 2000000
namespace K13
open PySem PySem.Spec PyProof.Rows L2 CM
section
variable {P : Program} {w : World} {K : PySem.W.Frag} {mg : Str → Option Value} {base : Heap}
/-! ### the methods -/
theorem fmod_small (u v : Int) (h : v ≠ 0) : (u.fmod v).natAbs < v.natAbs := by
  rcases Int.lt_or_gt_of_ne h with n | p
  · have e : u.fmod v = -((-u).fmod (-v)) := by
      rw [Int.neg_fmod_neg]
      omega
    have h1 := Int.fmod_nonneg_of_pos (-u) (show 0 < -v by omega)
    have h2 := Int.fmod_lt_of_pos (-u) (show 0 < -v by omega)
    rw [e]
    omega
  · have h1 := Int.fmod_nonneg_of_pos u p
    have h2 := Int.fmod_lt_of_pos u p
    omega
theorem gcd_fmod (u v : Int) : Int.gcd v (u.fmod v) = Int.gcd u v := by
  rw [Int.fmod_def, Int.gcd_sub_mul_left_right, Int.gcd_comm]
def spGcd : Sp := fun vs H Q _ => ∃ x y : Int, vs = [.int x, .int y] ∧ Q (.int (Int.gcd x y)) H
theorem ok_gcd {f : Addr} {fd : FuncData} {k : Nat} (F : FnP K "common_divisor" "common_divisor" s_common_divisor f fd) (m_abs : mg "abs" = none) : FnOk P w K mg base CX0 (k + 1) f fd ["one", "other"] spGcd := by
  refine F.ok sc_common_divisor (fun vs H Q E h => ?_) (fun cdv A outer s H vs Q E hr h => ?_)
  · obtain ⟨x, y, rfl, _⟩ := h
    rfl
  · obtain ⟨x, y, rfl, q⟩ := h
    refine ⟨_, PSs.nox (pss_cons (ps_while PassesOwn.never (pt_cmpR op_ne (pv 1) pe_int (nomark _)) (pss_one (ps_par (i := 0) (j := 1) rfl sc_common_divisor.nd rfl rfl (by decide) rfl rfl (pa_cons (pv 1) (pa_cons (pe_op op_modN (pv 0) (pv 1)) pa_nil)) (by rfl))))
    (pss_one (ps_ret (pe_callB call_abs (by rfl) m_abs (by decide +kernel) (pa_cons (pv 0) pa_nil))))), ?_⟩
    refine ⟨fun d σ H' => H' = H ∧ ∃ u v : Int, σ = [some (.int u), some (.int v)] ∧ v.natAbs = d ∧ Int.gcd u v = Int.gcd x y, ⟨_, rfl, x, y, rfl, rfl, rfl⟩, ?_⟩
    rintro d σ H1 ⟨rfl, u, v, rfl, hd, g⟩
    refine ⟨_, rfl, rfl, _, rfl, ite2 (fun e => ?_) (fun e => ?_)⟩
    · have e1 : v ≠ 0 := fun z => by
        rw [z] at e
        exact absurd e (by simp)
      refine ⟨fun σ' H' => H' = H1 ∧ σ' = [some (.int v), some (.int (u.fmod v))], ?_, ?_⟩
      · rintro σ' H' ⟨rfl, rfl⟩
        exact ⟨_, by rw [← hd]; exact fmod_small u v e1, rfl, v, u.fmod v, rfl, rfl, by rw [gcd_fmod]; exact g⟩
      · exact ⟨_, rfl, _, rfl, _, rfl, u, v, rfl, rfl, e1, _, _, rfl, rfl, rfl⟩
    · have e1 : v = 0 := by
        refine Classical.byContradiction fun z => e ?_
        have z2 : ¬ V.int v = V.int 0 := fun z3 => z (V.int.inj z3)
        simp [z2]
      subst e1
      rw [Int.gcd_zero_right] at g
      refine ⟨_, rfl, u, rfl, ?_⟩
      have ab : (if u < 0 then -u else u) = (u.natAbs : Int) := by
        split <;> omega
      first
        | (rw [ab, g]; exact q)
        | (rw [g]; exact q)
theorem ok_own {f : Addr} {fd : FuncData} {k : Nat} (F : FnP K "own" "Rests.own" s_Rests_own f fd) : FnOk P w K mg base CX0 (k + 1) f fd ["self", "key"] spOwn := by
  refine F.ok sc_Rests_own (fun vs H Q E h => ?_) (fun cdv A outer s H vs Q E hr h => ?_)
  · obtain ⟨m, n, rfl, _⟩ := h
    rfl
  · obtain ⟨m, n, rfl, q⟩ := h
    refine ⟨_, pss_one (ps_ret (pe_tup (pa_cons pe_int (pa_cons (pv 1) pa_nil)))), ?_⟩
    exact ⟨_, rfl, by show 2 ≤ sizeLine; decide, fun t nt => q t _ (same_upd nt) upd_same⟩
theorem ok_rest {f : Addr} {fd : FuncData} {k : Nat} (F : FnP K "common_rest" "common_rest" s_common_rest f fd) (C_common_divisor : Cal P w K mg base CX0 "common_divisor" k ["one", "other"] spGcd) :
    FnOk P w K mg base CX0 (k + 1) f fd ["one", "other"] (fun vs H Q _ => ∃ (p r : Addr) (a ra b rb : Int), vs = [.ref p, .ref r] ∧ Tup2 H p a ra ∧ Tup2 H r b rb ∧ ∀ (t : Addr) (H' : Hp), Same H H' → Tup2 H' t (jm a ra b rb) (jr a ra b rb) → Q (.ref t) H') := by
  obtain ⟨f_common_divisor, fd_common_divisor, G_common_divisor, b_common_divisor, m_common_divisor, k_common_divisor⟩ := C_common_divisor
  refine F.ok sc_common_rest (fun vs H Q E h => ?_) (fun cdv A outer s H vs Q E hr h => ?_)
  · obtain ⟨p, r, a, ra, b, rb, rfl, _⟩ := h
    rfl
  · obtain ⟨p, r, a, ra, b, rb, rfl, hp, hr2, q⟩ := h
    refine ⟨_, PSs.nox (pss_cons (ps_asg (pv 0) (pg_tup rfl (pgs_cons (pg_name (i := 2) sc_common_rest.nd rfl (.inl rfl)) (pgs_cons (pg_name (i := 3) sc_common_rest.nd rfl (.inl rfl)) (pgs_nil)))))
    (pss_cons (ps_set (i := 4) sc_common_rest.nd rfl (.inl rfl) (pe_call G_common_divisor (hr.mono (by omega)) (by rfl) m_common_divisor k_common_divisor b_common_divisor .nil pass0 (pa_cons (pe_call G_common_divisor (hr.mono (by omega)) (by rfl) m_common_divisor k_common_divisor b_common_divisor .nil pass0 (pa_cons (pv 2) (pa_cons (pe_ix ix_tup (pv 1) pe_int (fun _ _ => rfl)) pa_nil))) (pa_cons (pe_op op_sub (pv 3) (pe_ix ix_tup (pv 1) pe_int (fun _ _ => rfl))) pa_nil))))
    (pss_cons (ps_if (pt_cmpR op_eq (pv 4) pe_int (nomark _)) (pss_one (ps_ret (pe_tup (pa_cons pe_int (pa_cons (pv 3) pa_nil))))) (pss_nil))
    (pss_one (ps_ret (pe_tup (pa_cons (pv 4) (pa_cons (pe_op op_mod (pv 3) (pv 4)) pa_nil)))))))), ?_⟩
    refine ⟨_, rfl, p, _, rfl, .inl (.inl hp), rfl, _, _, rfl, _, _, rfl, rfl, ?_⟩
    refine ⟨_, rfl, _, rfl, r, _, 0, _, rfl, rfl, .inl (.inl hr2), rfl, a, b, rfl, ?_⟩
    refine ⟨_, rfl, _, rfl, r, _, 1, _, rfl, rfl, .inl (.inl hr2), rfl, ra, rb, rfl, rfl, _, _, rfl, ?_⟩
    refine ⟨_, rfl, rfl, _, rfl, ite2 (fun e => ?_) (fun e => ?_)⟩
    · have e1 : jm a ra b rb = 0 := V.int.inj (of_decide_eq_true e)
      refine ⟨_, rfl, by show 2 ≤ sizeLine; decide, fun t nt => q t _ (same_upd nt) ?_⟩
      unfold Tup2
      rw [upd_same, e1]
      unfold jr
      rw [if_pos e1]
    · have e1 : jm a ra b rb ≠ 0 := fun z => e (decide_eq_true (by rw [← z]; rfl))
      have e2 : 0 < jm a ra b rb := by
        have : 0 ≤ jm a ra b rb := Int.natCast_nonneg _
        omega
      refine ⟨_, rfl, _, rfl, _, rfl, ra, _, rfl, rfl, e2, by show 2 ≤ sizeLine; decide, fun t nt => q t _ (same_upd nt) ?_⟩
      unfold Tup2
      rw [upd_same]
      unfold jr
      rw [if_neg e1]
      rfl
theorem ok_join {f : Addr} {fd : FuncData} {k : Nat} (F : FnP K "join" "Rests.join" s_Rests_join f fd) (C_common_rest : Cal P w K mg base CX0 "common_rest" k ["one", "other"] (fun vs H Q _ => ∃ (p r : Addr) (a ra b rb : Int), vs = [.ref p, .ref r] ∧ Tup2 H p a ra ∧ Tup2 H r b rb ∧ ∀ (t : Addr) (H' : Hp), Same H H' → Tup2 H' t (jm a ra b rb) (jr a ra b rb) → Q (.ref t) H')) :
    FnOk P w K mg base CX0 (k + 1) f fd ["self", "one", "other"] spJoin := by
  obtain ⟨f_common_rest, fd_common_rest, G_common_rest, b_common_rest, m_common_rest, k_common_rest⟩ := C_common_rest
  refine F.ok sc_Rests_join (fun vs H Q E h => ?_) (fun cdv A outer s H vs Q E hr h => ?_)
  · obtain ⟨m, p, r, a, ra, b, rb, n, rfl, _⟩ := h
    rfl
  · obtain ⟨m, p, r, a, ra, b, rb, n, rfl, hp, hr2, _, _, _, q⟩ := h
    refine ⟨_, pss_one (ps_ret (pe_call G_common_rest (hr.mono (by omega)) (by rfl) m_common_rest k_common_rest b_common_rest .nil pass0 (pa_cons (pv 1) (pa_cons (pv 2) pa_nil)))), ?_⟩
    exact ⟨_, rfl, _, rfl, p, r, a, ra, b, rb, rfl, hp, hr2, q⟩
theorem ok_consistent {f : Addr} {fd : FuncData} {k : Nat} (F : FnP K "consistent" "Rests.consistent" s_Rests_consistent f fd) (C_common_divisor : Cal P w K mg base CX0 "common_divisor" k ["one", "other"] spGcd) :
    FnOk P w K mg base CX0 (k + 1) f fd ["self", "label", "question"] spCons := by
  obtain ⟨f_common_divisor, fd_common_divisor, G_common_divisor, b_common_divisor, m_common_divisor, k_common_divisor⟩ := C_common_divisor
  refine F.ok sc_Rests_consistent (fun vs H Q E h => ?_) (fun cdv A outer s H vs Q E hr h => ?_)
  · obtain ⟨m, p, r, a, ra, b, s, n, rfl, _⟩ := h
    rfl
  · obtain ⟨m, p, r, a, ra, b, s, n, rfl, hp, hr2, _, b0, _, _, _, _, q⟩ := h
    refine ⟨_, PSs.nox (pss_cons (ps_set (i := 3) sc_Rests_consistent.nd rfl (.inl rfl) (pe_call G_common_divisor (hr.mono (by omega)) (by rfl) m_common_divisor k_common_divisor b_common_divisor .nil pass0 (pa_cons (pe_ix ix_tup (pv 1) pe_int (fun _ _ => rfl)) (pa_cons (pe_ix ix_tup (pv 2) pe_int (fun _ _ => rfl)) pa_nil))))
    (pss_one (ps_ret (pe_cmpR op_eq (pe_op op_mod (pe_op op_sub (pe_ix ix_tup (pv 1) pe_int (fun _ _ => rfl)) (pe_ix ix_tup (pv 2) pe_int (fun _ _ => rfl))) (pv 3)) pe_int (nomark _))))), ?_⟩
    refine ⟨_, rfl, p, _, 0, _, rfl, rfl, .inl (.inl hp), rfl, _, rfl, r, _, 0, _, rfl, rfl, .inl (.inl hr2), rfl, a, b, rfl, ?_⟩
    have g0 : (0 : Int) < (Int.gcd a b : Int) := by
      have : 0 < Int.gcd a b := Int.gcd_pos_of_ne_zero_right a (by omega)
      omega
    refine ⟨_, rfl, p, _, 1, _, rfl, rfl, .inl (.inl hp), rfl, _, rfl, r, _, 1, _, rfl, rfl, .inl (.inl hr2), rfl, ra, s, rfl, rfl, _, rfl, ra - s, _, rfl, rfl, g0, rfl, ?_⟩
    have e : decide (V.int ((ra - s) % (Int.gcd a b : Int)) = V.int 0) = decide ((Int.gcd a b : Int) ∣ ra - s) :=
      decide_eq_decide.mpr ⟨fun z => Int.dvd_of_emod_eq_zero (V.int.inj z), fun z => by rw [Int.emod_eq_zero_of_dvd z]⟩
    have z := q H (Same.refl H)
    rw [← e] at z
    exact z
theorem ok_matches {f : Addr} {fd : FuncData} {k : Nat} (F : FnP K "matches" "Rests.matches" s_Rests_matches f fd) : FnOk P w K mg base CX0 (k + 1) f fd ["self", "key", "question"] spMat := by
  refine F.ok sc_Rests_matches (fun vs H Q E h => ?_) (fun cdv A outer s H vs Q E hr h => ?_)
  · obtain ⟨m, r, n, b, s, rfl, _⟩ := h
    rfl
  · obtain ⟨m, r, n, b, s, rfl, hr2, b0, _, _, q⟩ := h
    refine ⟨_, pss_one (ps_ret (pe_cmpR op_eq (pe_op op_mod (pv 1) (pe_ix ix_tup (pv 2) pe_int (fun _ _ => rfl))) (pe_ix ix_tup (pv 2) pe_int (fun _ _ => rfl)) (nomark _))), ?_⟩
    refine ⟨_, rfl, _, rfl, r, _, 0, _, rfl, rfl, .inl (.inl hr2), rfl, n, b, rfl, rfl, b0, _, rfl, r, _, 1, _, rfl, rfl, .inl (.inl hr2), rfl, rfl, ?_⟩
    have e : decide (V.int (n % b) = V.int s) = decide (n % b = s) := decide_eq_decide.mpr ⟨fun z => V.int.inj z, fun z => by rw [z]⟩
    have z := q H (Same.refl H)
    rw [← e] at z
    exact z
theorem ok_penalty {C f : Addr} {fd : FuncData} {k : Nat} (F : FnP K "penalty" "Rests.penalty" s_Rests_penalty f fd) (C_common_rest : Cal P w K mg base CX0 "common_rest" k ["one", "other"] (fun vs H Q _ => ∃ (p r : Addr) (a ra b rb : Int), vs = [.ref p, .ref r] ∧ Tup2 H p a ra ∧ Tup2 H r b rb ∧ ∀ (t : Addr) (H' : Hp), Same H H' → Tup2 H' t (jm a ra b rb) (jr a ra b rb) → Q (.ref t) H')) :
    FnOk P w K mg base CX0 (k + 1) f fd ["self", "label", "key"] (spPen C) := by
  obtain ⟨f_common_rest, fd_common_rest, G_common_rest, b_common_rest, m_common_rest, k_common_rest⟩ := C_common_rest
  refine F.ok sc_Rests_penalty (fun vs H Q E h => ?_) (fun cdv A outer s H vs Q E hr h => ?_)
  · obtain ⟨m, dx, p, a, ra, z, n, rfl, _⟩ := h
    rfl
  · obtain ⟨m, dx, p, a, ra, z, n, rfl, hm, hp, _, _, _, q⟩ := h
    refine ⟨_, pss_one (ps_ret (pe_ifExp (pt_cmpR (EQ.op_eqI2 hr.units) (pe_call G_common_rest (hr.mono (by omega)) (by rfl) m_common_rest k_common_rest b_common_rest .nil pass0 (pa_cons (pv 1) (pa_cons (pe_tup (pa_cons pe_int (pa_cons (pv 2) pa_nil))) pa_nil))) (pv 1) (nomark _)) pe_int pe_int)), ?_⟩
    refine ⟨_, rfl, _, rfl, by show 2 ≤ sizeLine; decide, fun t nt => ⟨p, t, a, ra, 0, z, rfl, same_upd nt _ _ hp, upd_same, fun u H2 s2 hu => ?_⟩⟩
    have s3 := (same_upd (o := .tup [V.int 0, V.int z]) nt).trans s2
    have z2 := q H2 s3
    refine ⟨_, rfl, u, p, _, _, _, _, rfl, rfl, .inl (.inl hu), .inl (.inl (s3 _ _ hp)), _, rfl, ite2 (fun e => ?_) (fun e => ?_)⟩
    · rw [if_pos (of_decide_eq_true e)] at z2
      exact z2
    · rw [if_neg (fun h => e (decide_eq_true h))] at z2
      exact z2
theorem sides_eq {n : Nat} (h : n ≤ 30) : (List.replicate (((n : Int) / 2).toNat) [V.int 0]).flatten ++ (List.replicate (((n : Int) - (n : Int) / 2).toNat) [V.int 1]).flatten = sidesOf n := by
  have all : ∀ i : Fin 31, (List.replicate (((i.val : Int) / 2).toNat) [V.int 0]).flatten ++ (List.replicate (((i.val : Int) - (i.val : Int) / 2).toNat) [V.int 1]).flatten = sidesOf i.val := by decide +kernel
  exact all ⟨n, by omega⟩
theorem ok_sides {C f : Addr} {fd : FuncData} {k : Nat} (F : FnP K "sides" "Kind.sides" s_Kind_sides f fd) (m_len : mg "len" = none) : FnOk P w K mg base CX0 (k + 1) f fd ["self", "labels"] (spSides K C) := by
  refine F.ok sc_Kind_sides (fun vs H Q E h => ?_) (fun cdv A outer s H vs Q E hr h => ?_)
  · obtain ⟨m, dx, l, xs, rfl, _⟩ := h
    rfl
  · obtain ⟨m, dx, l, xs, rfl, hm, hl, hn, q⟩ := h
    refine ⟨_, PSs.nox (pss_cons (ps_set (i := 2) sc_Kind_sides.nd rfl (.inl rfl) (pe_op op_fdiv (pe_callB call_len_seq (by rfl) m_len PySem.boot_len (pa_cons (pv 1) pa_nil)) pe_int))
    (pss_one (ps_ret (pe_op op_cat (pe_op op_rep (pe_lst (pa_cons pe_int pa_nil)) (pv 2)) (pe_op op_rep (pe_lst (pa_cons pe_int pa_nil)) (pe_op op_sub (pe_callB call_len_seq (by rfl) m_len PySem.boot_len (pa_cons (pv 1) pa_nil)) (pv 2))))))), ?_⟩
    have sz : ∀ {z : V} {i : Int}, i ≤ 30 → [z].length * i.toNat ≤ sizeLine := fun {z i} h => by
      rw [List.length_singleton, Nat.one_mul]
      exact Nat.le_of_lt (small1000 (by omega))
    refine ⟨_, rfl, l, xs, rfl, .inl hl, _, 2, rfl, rfl, ⟨by decide, by decide⟩, ?_⟩
    refine ⟨by show 1 ≤ sizeLine; decide, fun a na => ⟨_, rfl, a, _, [.int 0], rfl, rfl, upd_same, by omega, by omega, sz (by omega), fun b nb => ?_⟩⟩
    have s1 := (same_upd (o := .lst [.int 0]) na).trans (same_upd (o := .lst (List.replicate (((xs.length : Int) / 2).toNat) [V.int 0]).flatten) nb)
    have hb : (upd (upd H a (.lst [.int 0])) b (.lst (List.replicate (((xs.length : Int) / 2).toNat) [V.int 0]).flatten)) b = some (.lst (List.replicate (((xs.length : Int) / 2).toNat) [V.int 0]).flatten) := upd_same
    generalize upd (upd H a (.lst [.int 0])) b (.lst (List.replicate (((xs.length : Int) / 2).toNat) [V.int 0]).flatten) = G at s1 hb
    refine ⟨by show 1 ≤ sizeLine; decide, fun d nd => ⟨_, rfl, l, xs, rfl, .inl ((s1.trans (same_upd nd)).seq hl), _, rfl, _, _, rfl, rfl, d, _, [.int 1], rfl, rfl, upd_same, by omega, by omega, sz (by omega), fun g ng => ?_⟩⟩
    have s2 := (same_upd (o := .lst [.int 1]) nd).trans (same_upd (o := .lst (List.replicate (((xs.length : Int) - (xs.length : Int) / 2).toNat) [V.int 1]).flatten) ng)
    refine ⟨b, g, _, _, rfl, rfl, s2 _ _ hb, upd_same, ?_, fun t nt => q t _ (s1.trans (s2.trans (same_upd nt))) (.inl (.inl (.inl ?_)))⟩
    · have e := congrArg List.length (sides_eq hn)
      rw [List.length_append, sidesOf, List.length_map, List.length_range] at e
      rw [e]
      exact Nat.le_of_lt (small1000 (by omega))
    · rw [upd_same, sides_eq hn]
end
end K13
set_option Elab.async false
set_option linter.all false
set_option maxRecDepth 100000
set_option maxHeartbeats 2000000
namespace K13
open PySem PySem.Spec PyProof.Rows L2 CM
section
variable {P : Program} {w : World} {K : PySem.W.Frag} {mg : Str → Option Value} {base : Heap}
/-! ### the head -/
def d_Kind_sides : He.DefD := ⟨("Kind", some "sides"), "sides", "Kind.sides", defArgs s_Kind_sides, defBody s_Kind_sides, defScope s_Kind_sides, [], []⟩
def d_Rests_own : He.DefD := ⟨("Rests", some "own"), "own", "Rests.own", defArgs s_Rests_own, defBody s_Rests_own, defScope s_Rests_own, [], []⟩
def d_Rests_join : He.DefD := ⟨("Rests", some "join"), "join", "Rests.join", defArgs s_Rests_join, defBody s_Rests_join, defScope s_Rests_join, [], []⟩
def d_Rests_consistent : He.DefD := ⟨("Rests", some "consistent"), "consistent", "Rests.consistent", defArgs s_Rests_consistent, defBody s_Rests_consistent, defScope s_Rests_consistent, [], []⟩
def d_Rests_matches : He.DefD := ⟨("Rests", some "matches"), "matches", "Rests.matches", defArgs s_Rests_matches, defBody s_Rests_matches, defScope s_Rests_matches, [], []⟩
def d_Rests_penalty : He.DefD := ⟨("Rests", some "penalty"), "penalty", "Rests.penalty", defArgs s_Rests_penalty, defBody s_Rests_penalty, defScope s_Rests_penalty, [], []⟩
def d_common_rest : He.DefD := ⟨("common_rest", none), "common_rest", "common_rest", defArgs s_common_rest, defBody s_common_rest, defScope s_common_rest, [], []⟩
def d_common_divisor : He.DefD := ⟨("common_divisor", none), "common_divisor", "common_divisor", defArgs s_common_divisor, defBody s_common_divisor, defScope s_common_divisor, [], []⟩
def d_law_well : He.DefD := ⟨("_law_well", none), "_law_well", "_law_well", defArgs s_law_well, defBody s_law_well, defScope s_law_well, [], []⟩
def d_law_draw : He.DefD := ⟨("_law_draw", none), "_law_draw", "_law_draw", defArgs s_law_draw, defBody s_law_draw, defScope s_law_draw, [], []⟩
def d_law_one : He.DefD := ⟨("_law_one", none), "_law_one", "_law_one", defArgs s_law_one, defBody s_law_one, defScope s_law_one, [], []⟩
def d_law_divisor : He.DefD := ⟨("_law_divisor", none), "_law_divisor", "_law_divisor", defArgs s_law_divisor, defBody s_law_divisor, defScope s_law_divisor, [], []⟩
def d_law_holds : He.DefD := ⟨("_law_holds", none), "_law_holds", "_law_holds", defArgs s_law_holds, defBody s_law_holds, defScope s_law_holds, [], []⟩
def d_law_tag : He.DefD := ⟨("_law_tag", none), "_law_tag", "_law_tag", defArgs s_law_tag, defBody s_law_tag, defScope s_law_tag, [], []⟩
def d_law_members : He.DefD := ⟨("_law_members", none), "_law_members", "_law_members", defArgs s_law_members, defBody s_law_members, defScope s_law_members, [], []⟩
def d_law_small_right : He.DefD := ⟨("_law_small_right", none), "_law_small_right", "_law_small_right", defArgs s_law_small_right, defBody s_law_small_right, defScope s_law_small_right, [], []⟩
def d_law_great_right : He.DefD := ⟨("_law_great_right", none), "_law_great_right", "_law_great_right", defArgs s_law_great_right, defBody s_law_great_right, defScope s_law_great_right, [], []⟩
def d_law : He.DefD := ⟨("law", none), "law", "law", defArgs s_law, defBody s_law, defScope s_law, [], []⟩
def fn : List He.DefD := [d_Kind_sides, d_Rests_own, d_Rests_join, d_Rests_consistent, d_Rests_matches, d_Rests_penalty, d_common_rest, d_common_divisor, d_law_well, d_law_draw, d_law_one, d_law_divisor, d_law_holds, d_law_tag, d_law_members, d_law_small_right, d_law_great_right, d_law]
def fa : List He.Fa := [.glo "common_rest", .glo "common_divisor", .glo "_law_well", .glo "_law_draw", .glo "_law_one", .glo "_law_divisor", .glo "_law_holds", .glo "_law_tag", .glo "_law_members", .glo "_law_small_right", .glo "_law_great_right", .glo "law", .glo "Rests", .cls "Rests", .meth "Rests" "own", .meth "Rests" "join", .meth "Rests" "consistent", .meth "Rests" "matches", .meth "Rests" "penalty", .meth "Rests" "sides", .glo "Kind", .cls "Kind", .meth "Kind" "sides", .free "int", .free "len", .free "range", .free "abs", .free "list", .free "set", .free "super"]
def loose : List PySem.Str := ["GroveError", "NotGiven", "Kind", "Rests", "common_rest", "common_divisor", "_law_well", "_law_draw", "_law_one", "_law_divisor", "_law_holds", "_law_tag", "_law_members", "_law_small_right", "_law_great_right"]
def ex (K : PySem.W.Frag) : Bool := mkoB K (He.ga K "Rests") && SU.supB "/claim/cut.py" K (He.ga K "Rests") (He.ga K "Rests") (He.ma K (He.ga K "Kind") "sides") "sides" "labels"
abbrev R : PySem.W.OpenRow := PySem.W.OpenLaw.row PySem.Challenge.rw_kindgrove_k13_remainders
abbrev hk : PySem.W.Hook := OX.hookY 6 fa fn ex
def ob (s : PySem.W.SharedT) : He.AlX := OX.obsY 6 fa fn ex (HandSHeadRun.getT s)
theorem ob_eq (s : PySem.W.SharedT) : ob s = hk.obs s.abs := OX.obsY_eq (HandSHeadRun.getT_eq s)
theorem run (w : World) : HandSHeadRun.RunEq R (PySem.W.view R.prog [19]) hk ob 6000 loose w := by
  intro os
  kernel_rfl
theorem glo {h : Heap} (X : K.In h) (G : h.Ns mainGlobals mg) (c : He.SaysD fa fn K) {x : Str} (hx : He.Fa.glo x ∈ fa) : mg x = some (.ref (He.ga K x)) := He.glo_ok X G (c.facts hx)
theorem fre {h : Heap} (X : K.In h) (G : h.Ns mainGlobals mg) (c : He.SaysD fa fn K) {x : Str} (hx : He.Fa.free x ∈ fa) : mg x = none := He.free_ok X G (c.facts hx)
theorem cal {h : Heap} (X : K.In h) (G : h.Ns mainGlobals mg) (c : He.SaysD fa fn K) {x qn : Str} {st : Stmt} {fd : FuncData} {k : Nat} {ps : List Str} {sp : Sp} (F : FnP K x qn st (He.ga K x) fd)
    (hx : He.Fa.glo x ∈ fa) (ok : FnOk P w K mg base CX0 k (He.ga K x) fd ps sp)
    (hb : ∀ (kV doc pm : Value) (an : Option Addr) (cdv ct : Value) (us : List Value), us.length = ps.length → bindArgs (PySem.W.fnOf x qn (defArgs st) (defBody st) (defScope st) .none kV doc pm an cdv ct) ⟨us, []⟩ = pure (ps.zip us)) : Cal P w K mg base CX0 x k ps sp :=
  ⟨He.ga K x, fd, ok, F.bindsN hb, glo X G c hx, F.kp⟩
theorem calm (c : He.SaysD fa fn K) {C m qn : Str} {st : Stmt} {fd : FuncData} {k : Nat} {ps : List Str} {sp : Sp} (F : FnP K m qn st (He.ma K (He.ga K C) m) fd)
    (hx : He.Fa.meth C m ∈ fa) (ok : FnOk P w K mg base CX0 k (He.ma K (He.ga K C) m) fd ps sp)
    (hb : ∀ (kV doc pm : Value) (an : Option Addr) (cdv ct : Value) (us : List Value), us.length = ps.length → bindArgs (PySem.W.fnOf m qn (defArgs st) (defBody st) (defScope st) .none kV doc pm an cdv ct) ⟨us, []⟩ = pure (ps.zip us)) : CalM P w K mg base CX0 (He.ga K C) m k ps sp :=
  ⟨He.ma K (He.ga K C) m, fd, ok, F.bindsN hb, He.meth_ok (c.facts hx)⟩
theorem facts {h : Heap} {f : Addr} (X : K.In h) (G : h.Ns mainGlobals mg) (hfa : mg ("law" : Str) = some (.ref f)) (c : He.SaysD fa fn K) (m : ex K = true) (O : SU.SupOk "/claim/cut.py" P) :
    ∃ fd : FuncData, (∀ (s : Shared) (v : Value), BindsTo s fd ⟨[v], []⟩ [("_law_script", v)]) ∧ ∀ base : Heap, K.In base → base.Ns mainGlobals mg → FnOk P w K mg base CX0 9 f fd ["_law_script"] (spLaw K) := by
  obtain ⟨fd_law, F_law⟩ : ∃ fd, FnP K "law" "law" s_law (He.ga K "law") fd := c.def_ 17 (d := d_law) rfl
  obtain ⟨fd_law_well, F_law_well⟩ : ∃ fd, FnP K "_law_well" "_law_well" s_law_well (He.ga K "_law_well") fd := c.def_ 8 (d := d_law_well) rfl
  obtain ⟨fd_law_draw, F_law_draw⟩ : ∃ fd, FnP K "_law_draw" "_law_draw" s_law_draw (He.ga K "_law_draw") fd := c.def_ 9 (d := d_law_draw) rfl
  obtain ⟨fd_law_one, F_law_one⟩ : ∃ fd, FnP K "_law_one" "_law_one" s_law_one (He.ga K "_law_one") fd := c.def_ 10 (d := d_law_one) rfl
  obtain ⟨fd_law_divisor, F_law_divisor⟩ : ∃ fd, FnP K "_law_divisor" "_law_divisor" s_law_divisor (He.ga K "_law_divisor") fd := c.def_ 11 (d := d_law_divisor) rfl
  obtain ⟨fd_law_holds, F_law_holds⟩ : ∃ fd, FnP K "_law_holds" "_law_holds" s_law_holds (He.ga K "_law_holds") fd := c.def_ 12 (d := d_law_holds) rfl
  obtain ⟨fd_law_tag, F_law_tag⟩ : ∃ fd, FnP K "_law_tag" "_law_tag" s_law_tag (He.ga K "_law_tag") fd := c.def_ 13 (d := d_law_tag) rfl
  obtain ⟨fd_law_members, F_law_members⟩ : ∃ fd, FnP K "_law_members" "_law_members" s_law_members (He.ga K "_law_members") fd := c.def_ 14 (d := d_law_members) rfl
  obtain ⟨fd_law_small_right, F_law_small_right⟩ : ∃ fd, FnP K "_law_small_right" "_law_small_right" s_law_small_right (He.ga K "_law_small_right") fd := c.def_ 15 (d := d_law_small_right) rfl
  obtain ⟨fd_law_great_right, F_law_great_right⟩ : ∃ fd, FnP K "_law_great_right" "_law_great_right" s_law_great_right (He.ga K "_law_great_right") fd := c.def_ 16 (d := d_law_great_right) rfl
  obtain ⟨fd_Rests_own, F_Rests_own⟩ : ∃ fd, FnP K "own" "Rests.own" s_Rests_own (He.ma K (He.ga K "Rests") "own") fd := c.def_ 1 (d := d_Rests_own) rfl
  obtain ⟨fd_Rests_join, F_Rests_join⟩ : ∃ fd, FnP K "join" "Rests.join" s_Rests_join (He.ma K (He.ga K "Rests") "join") fd := c.def_ 2 (d := d_Rests_join) rfl
  obtain ⟨fd_Rests_consistent, F_Rests_consistent⟩ : ∃ fd, FnP K "consistent" "Rests.consistent" s_Rests_consistent (He.ma K (He.ga K "Rests") "consistent") fd := c.def_ 3 (d := d_Rests_consistent) rfl
  obtain ⟨fd_Rests_matches, F_Rests_matches⟩ : ∃ fd, FnP K "matches" "Rests.matches" s_Rests_matches (He.ma K (He.ga K "Rests") "matches") fd := c.def_ 4 (d := d_Rests_matches) rfl
  obtain ⟨fd_Rests_penalty, F_Rests_penalty⟩ : ∃ fd, FnP K "penalty" "Rests.penalty" s_Rests_penalty (He.ma K (He.ga K "Rests") "penalty") fd := c.def_ 5 (d := d_Rests_penalty) rfl
  obtain ⟨fd_Kind_sides, F_Kind_sides⟩ : ∃ fd, FnP K "sides" "Kind.sides" s_Kind_sides (He.ma K (He.ga K "Kind") "sides") fd := c.def_ 0 (d := d_Kind_sides) rfl
  obtain ⟨fd_common_rest, F_common_rest⟩ : ∃ fd, FnP K "common_rest" "common_rest" s_common_rest (He.ga K "common_rest") fd := c.def_ 6 (d := d_common_rest) rfl
  obtain ⟨fd_common_divisor, F_common_divisor⟩ : ∃ fd, FnP K "common_divisor" "common_divisor" s_common_divisor (He.ga K "common_divisor") fd := c.def_ 7 (d := d_common_divisor) rfl
  have e := hfa.symm.trans (glo X G c (x := "law") (List.mem_of_getElem? (i := 11) rfl))
  cases e
  have b := FunD.bindsA (ps := ["_law_script"]) F_law fun _ _ _ _ _ _ us hl => match us, hl with | [_], _ => rfl
  refine ⟨fd_law, fun s v => b s [v] rfl, fun base _ _ => ?_⟩
  have m_int := fre X G c (List.mem_of_getElem? (i := 23) rfl)
  have m_len := fre X G c (List.mem_of_getElem? (i := 24) rfl)
  have m_range := fre X G c (List.mem_of_getElem? (i := 25) rfl)
  have m_abs := fre X G c (List.mem_of_getElem? (i := 26) rfl)
  have m_list := fre X G c (List.mem_of_getElem? (i := 27) rfl)
  have m_set := fre X G c (List.mem_of_getElem? (i := 28) rfl)
  have m_super := fre X G c (List.mem_of_getElem? (i := 29) rfl)
  have cl := He.cls_ok (c.facts (List.mem_of_getElem? (i := 13) rfl))
  have C1 : ∀ k, Cal P w K mg base CX0 "_law_well" (k + 1) ["_law_cell"] spWell := fun k => (cal X G c F_law_well (List.mem_of_getElem? (i := 2) rfl) ((ok_well (k := 0) F_law_well m_int).mono (by omega)) fun _ _ _ _ _ _ us hl => match us, hl with | [_], _ => rfl)
  have C2 : ∀ k, Cal P w K mg base CX0 "_law_draw" (k + 1) ["_law_well_here", "_law_many"] spDraw := fun k => (cal X G c F_law_draw (List.mem_of_getElem? (i := 3) rfl) ((ok_draw (k := 0) F_law_draw m_int).mono (by omega)) fun _ _ _ _ _ _ us hl => match us, hl with | [_, _], _ => rfl)
  have C3 : ∀ k, Cal P w K mg base CX0 "_law_one" (k + 2) ["_law_well_here", "_law_some"] (spOne K) := fun k => (cal X G c F_law_one (List.mem_of_getElem? (i := 4) rfl) (ok_one F_law_one (C2 k) m_len) fun _ _ _ _ _ _ us hl => match us, hl with | [_, _], _ => rfl)
  have C4 : ∀ k, Cal P w K mg base CX0 "_law_tag" (k + 2) ["_law_well_here", "_law_size"] spTag := fun k => (cal X G c F_law_tag (List.mem_of_getElem? (i := 7) rfl) (ok_tag F_law_tag (C2 k)) fun _ _ _ _ _ _ us hl => match us, hl with | [_, _], _ => rfl)
  have C5 : ∀ k, Cal P w K mg base CX0 "_law_divisor" (k + 1) ["_law_one_here", "_law_two"] spDivisor := fun k => (cal X G c F_law_divisor (List.mem_of_getElem? (i := 5) rfl) ((ok_divisor (k := 0) F_law_divisor m_abs m_range m_int).mono (by omega)) fun _ _ _ _ _ _ us hl => match us, hl with | [_, _], _ => rfl)
  have C6 : ∀ k, Cal P w K mg base CX0 "_law_holds" (k + 1) ["_law_tag_here", "_law_number"] spHolds := fun k => (cal X G c F_law_holds (List.mem_of_getElem? (i := 6) rfl) ((ok_holds (k := 0) F_law_holds m_int).mono (by omega)) fun _ _ _ _ _ _ us hl => match us, hl with | [_, _], _ => rfl)
  have C7 : ∀ k, Cal P w K mg base CX0 "_law_members" (k + 2) ["_law_tag_here", "_law_low", "_law_high"] spMem := fun k => (cal X G c F_law_members (List.mem_of_getElem? (i := 8) rfl) (ok_members F_law_members m_range (C6 k)) fun _ _ _ _ _ _ us hl => match us, hl with | [_, _, _], _ => rfl)
  have CG : ∀ k, Cal P w K mg base CX0 "common_divisor" (k + 1) ["one", "other"] spGcd := fun k => (cal X G c F_common_divisor (List.mem_of_getElem? (i := 1) rfl) ((ok_gcd (k := 0) F_common_divisor m_abs).mono (by omega)) fun _ _ _ _ _ _ us hl => match us, hl with | [_, _], _ => rfl)
  have CR : ∀ k, Cal P w K mg base CX0 "common_rest" (k + 2) ["one", "other"] (fun vs H Q _ => ∃ (p r : Addr) (a ra b rb : Int), vs = [.ref p, .ref r] ∧ Tup2 H p a ra ∧ Tup2 H r b rb ∧ ∀ (t : Addr) (H' : Hp), Same H H' → Tup2 H' t (jm a ra b rb) (jr a ra b rb) → Q (.ref t) H') := fun k => (cal X G c F_common_rest (List.mem_of_getElem? (i := 0) rfl) (ok_rest F_common_rest (CG k)) fun _ _ _ _ _ _ us hl => match us, hl with | [_, _], _ => rfl)
  have D1 : CalM P w K mg base CX0 (He.ga K "Rests") "join" 7 ["self", "one", "other"] spJoin := (calm c F_Rests_join (List.mem_of_getElem? (i := 15) rfl) (ok_join F_Rests_join (CR 4)) fun _ _ _ _ _ _ us hl => match us, hl with | [_, _, _], _ => rfl)
  have D2 : CalM P w K mg base CX0 (He.ga K "Rests") "consistent" 7 ["self", "label", "question"] spCons := (calm c F_Rests_consistent (List.mem_of_getElem? (i := 16) rfl) (ok_consistent F_Rests_consistent (CG 5)) fun _ _ _ _ _ _ us hl => match us, hl with | [_, _, _], _ => rfl)
  obtain ⟨fd_si, G_si, b_si⟩ := SU.ok_supSides (P := P) (w := w) (mg := mg) (base := base) (He.ba m).2 O m_super (ok_sides (C := He.ga K "Rests") (k := 0) F_Kind_sides m_len) (F_Kind_sides.bindsN fun _ _ _ _ _ _ us hl => match us, hl with | [_, _], _ => rfl)
  have G_sj : FnOk P w K mg base CX0 2 (He.ma K (He.ga K "Rests") "sides") fd_si ["self", "labels"] (spSides K (He.ga K "Rests")) := FnOk.imp G_si fun vs H Q E h => by
    obtain ⟨m, dx, l, xs, rfl, hm, r⟩ := h
    exact ⟨m, _, dx, _, rfl, hm, m, dx, l, xs, rfl, hm, r⟩
  have D3 : CalM P w K mg base CX0 (He.ga K "Rests") "sides" 8 ["self", "labels"] (spSides K (He.ga K "Rests")) := ⟨_, fd_si, G_sj.mono (by omega), b_si, He.meth_ok (c.facts (List.mem_of_getElem? (i := 19) rfl))⟩
  have S : Cal P w K mg base CX0 "_law_small_right" 8 ["_law_well_here", "_law_made"] (spRight (He.ga K "Rests")) := (cal X G c F_law_small_right (List.mem_of_getElem? (i := 9) rfl) (ok_small F_law_small_right m_int m_range m_len m_set cl (C2 6) (C4 5) (C7 5) (C6 6) D1 D2) fun _ _ _ _ _ _ us hl => match us, hl with | [_, _], _ => rfl)
  have L : Cal P w K mg base CX0 "_law_great_right" 8 ["_law_well_here", "_law_made"] (spRight (He.ga K "Rests")) := (cal X G c F_law_great_right (List.mem_of_getElem? (i := 10) rfl) (ok_great F_law_great_right m_int cl (C2 6) (C3 5) (C4 5) (C5 6)
    (calm c F_Rests_own (List.mem_of_getElem? (i := 14) rfl) ((ok_own (k := 0) F_Rests_own).mono (by omega)) fun _ _ _ _ _ _ us hl => match us, hl with | [_, _], _ => rfl) D1 D2 (calm c F_Rests_matches (List.mem_of_getElem? (i := 17) rfl) ((ok_matches (k := 0) F_Rests_matches).mono (by omega)) fun _ _ _ _ _ _ us hl => match us, hl with | [_, _, _], _ => rfl) (calm c F_Rests_penalty (List.mem_of_getElem? (i := 18) rfl) ((ok_penalty (k := 6) F_Rests_penalty (CR 4))) fun _ _ _ _ _ _ us hl => match us, hl with | [_, _, _], _ => rfl)) fun _ _ _ _ _ _ us hl => match us, hl with | [_, _], _ => rfl)
  exact ok_law F_law m_range m_list (mkoB_ok (He.ba m).1) cl (glo X G c (List.mem_of_getElem? (i := 12) rfl)) (C1 7) S L D3
end
end K13
open PySem PySem.W PySem.Calls PyProof.Rows
set_option maxRecDepth 100000 in
set_option maxHeartbeats 0 in
theorem PySem.Challenge.cw_kindgrove_k13_remainders_holds : PySem.Challenge.rw_kindgrove_k13_remainders.Holds := by
  w_on; o_law
  refine HandSHeadRun.head_any (r := OpenLaw.row PySem.Challenge.rw_kindgrove_k13_remainders) (q := view (OpenLaw.row PySem.Challenge.rw_kindgrove_k13_remainders).prog [19]) (H := K13.hk) (ob := K13.ob) (M := 6000) (loose := K13.loose) (d := HandSHeadRun.topDef (OpenLaw.row PySem.Challenge.rw_kindgrove_k13_remainders).prog 19) (kwd := []) K13.ob_eq
    (by kernel_rfl) (fun s => by kernel_rfl) K13.run (by kernel_rfl) (by kernel_rfl) (by kernel_rfl) (by rfl) (by first | assumption | decide +kernel) (by decide +kernel) ⟨rfl, rfl, rfl, rfl, rfl, by decide +kernel⟩ ?hw ?hc
  case hw => w_witness2
  case hc =>
    refine L2.walk_ofE (l := PySem.Challenge.rw_kindgrove_k13_remainders) (n := 63) (k := 9) (x := "_law_script") (CX := L2.CX0) rfl (by decide) (by kernel_rfl) ⟨rfl, by decide, by decide⟩ ?F (fun _ _ _ _ z => z)
    intro w mg fa h Y G hmg0
    obtain ⟨K, KX, c⟩ := Y
    have hmg : mg ("law" : PySem.Str) = some (.ref fa) := by
      have e : (HandSHeadRun.topDef (OpenLaw.row PySem.Challenge.rw_kindgrove_k13_remainders).prog 19).name = ("law" : PySem.Str) := by kernel_rfl
      rw [← e]
      exact hmg0
    obtain ⟨fd, hb, hF⟩ := K13.facts (P := (PySem.Challenge.rw_kindgrove_k13_remainders).prog) (w := w) KX G hmg c.t.d c.more ⟨by kernel_rfl, by kernel_rfl⟩
    exact ⟨K, fd, K13.spLaw K, KX, hb, fun H a ns hl _ hS => ⟨a, ns, rfl, hS, hl, fun _ => rfl⟩, hF⟩
