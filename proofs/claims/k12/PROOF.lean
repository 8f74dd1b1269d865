import PyProof.Rows.All
import Wide.All
import OpenK.AllK
import Wide.FinOn
import HandS.ForMost
import HandS.HeadHook4
import HandS.Zip
import HandS.Defaults
import HandS.Wide
import HandS.IsInst
import HandS.NoneIn
import HandS.Style
import HandS.DeepEq
import HandS.Evl
import PyProof.NeKinds
import HandS.TupMul
import PyProof.StrBlock2
import KE.SortKeyHeap
import KE.SortData
import HandS.Lambda
import HandS.EndTab
import HandS.HeadWalk
import HandS.SortKw
import HandS.DictComp
import HandS.Conv
import PyProof.MaxThree
import HandS.Text
import KE.LtData
import PyProof.ReprRoads
import PyProof.ReprReads
import KE.DatumIndex
import HandS.ExcField
import HandS.ExcInit
import HandS.Property
import HandS.MakeKw
import HandS.ExcOwn
import HandS.MakeKwOnly
import HandS.Nested
import HandS.ClsMeth
import HandS.Star
import KE.KSuper
import HandS.WideBits
import KE.KRevSl
import HandS.Walk
import HandS.HeadNt
import HandS.Head0
import HandS.Head1
import HandS.Head2
import HandS.HeadEnd
import PySem.Challenge.RW_kindgrove_k12_boxes
set_option Elab.async false
set_option linter.all false
set_option maxRecDepth 100000
set_option maxHeartbeats 4000000
namespace CM
open PySem PySem.Spec PyProof.Rows L2
/-- a def of the text, by the module's name of it -/
structure Cal (P : Program) (w : World) (K : PySem.W.Frag) (mg : Str → Option Value) (base : Heap) (CX : CXT) (x : Str) (k : Nat) (ps : List Str) (sp : Sp) : Prop where
  ex : ∃ (f : Addr) (fd : FuncData), FnOk P w K mg base CX k f fd ps sp ∧ Binds K fd ps [] ∧ mg x = some (.ref f) ∧ PySem.W.keepIn K (.ref f) = true
/-- a method of the class at C -/
structure CalM (P : Program) (w : World) (K : PySem.W.Frag) (mg : Str → Option Value) (base : Heap) (CX : CXT) (C : Addr) (x : Str) (k : Nat) (ps : List Str) (sp : Sp) : Prop where
  ex : ∃ (f : Addr) (fd : FuncData), FnOk P w K mg base CX k f fd ps sp ∧ Binds K fd ps [] ∧ Meth K C x f
/-- a value that is equal to itself at once -/
def okV (v : V) : Prop := flatB v = true ∨ ∃ a, v = .ref a
theorem okV_ref (a : Addr) : okV (.ref a) := .inr ⟨a, rfl⟩
theorem okV_int (i : Int) : okV (.int i) := .inl rfl
theorem eqAt_ok {A : Around} {s : Shared} {v : V} {u u' : Value} (h : okV v) (r : RelV v u) (r' : RelV v u') : SeqAt.EqAt A s u u' true := by
  rcases h with f | ⟨a, rfl⟩
  · exact eqAt_same r r' f
  · cases (show u = Value.ref a from r)
    cases (show u' = Value.ref a from r')
    exact SeqAt.EqAt.same _
theorem vals_eqAt {A : Around} {s : Shared} : ∀ {xs : List V} {us ws : List Value}, (∀ v ∈ xs, okV v) → Vals xs us → Vals xs ws → ∀ j (h1 : j < us.length) (h2 : j < ws.length), SeqAt.EqAt A s us[j] ws[j] true
  | [], _, _, _, r1, _, j, h1, _ => by
    cases r1
    exact absurd h1 (Nat.not_lt_zero j)
  | v :: xs, _, _, ok, .cons a1 b1, .cons a2 b2, 0, _, _ => eqAt_ok (ok v (List.mem_cons_self ..)) a1 a2
  | v :: xs, _, _, ok, .cons a1 b1, .cons a2 b2, j + 1, h1, h2 => vals_eqAt (fun z hz => ok z (List.mem_cons_of_mem _ hz)) b1 b2 j (Nat.lt_of_succ_lt_succ h1) (Nat.lt_of_succ_lt_succ h2)
/-! ### what stays -/
theorem same_upd {H : Hp} {p : Addr} {o : HO} (h : H p = none) : Same H (upd H p o) := fun b x e => by
  rw [upd_ne (ne_of_none e h)]
  exact e
theorem same_put {A H : Hp} {p : Addr} {o : HO} (s : Same A H) (h : A p = none) : Same A (upd H p o) := fun b u e => by
  rw [upd_ne (ne_of_none e h)]
  exact s b u e
/-- all but the thing at a stays -/
def Kp (a : Addr) (H H' : Hp) : Prop := ∀ b o, b ≠ a → H b = some o → H' b = some o
theorem Kp.trans {a : Addr} {H H1 H2 : Hp} (x : Kp a H H1) (y : Kp a H1 H2) : Kp a H H2 := fun b o n e => y b o n (x b o n e)
theorem Kp.same {a : Addr} {H H1 : Hp} (s : Same H H1) : Kp a H H1 := fun b o _ e => s b o e
theorem Kp.set {a : Addr} {H : Hp} {o : HO} : Kp a H (upd H a o) := fun b u n e => by
  rw [upd_ne n]
  exact e
theorem Kp.ne {a p : Addr} {H : Hp} {o : HO} (h : H a = some o) (hp : H p = none) : p ≠ a := fun z => by
  rw [z, h] at hp
  cases hp
theorem max_if (i j : Int) : (if j > i then j else i) = max i j := by
  rw [Int.max_def]
  split <;> split <;> omega
theorem min_if (i j : Int) : (if j < i then j else i) = min i j := by
  rw [Int.min_def]
  split <;> split <;> omega
def Tup2 (H : Hp) (p : Addr) (lo hi : Int) : Prop := H p = some (.tup [.int lo, .int hi])
section
variable {X : Cx}
theorem pe_gref {x : Str} {C : Addr} {pos : Pos} (hg : Gl X x) (hm : X.mg x = some (.ref C)) (hdb : (x == ("__debug__" : Str)) = false := by decide) : PE X (.Name x pos) (tC (.ref C)) := pe_glob (v := .ref C) hg hm rfl hdb
/-- a != b of two lists of the very same items -/
def rNeS (K : PySem.W.Frag) : R2 := fun x y H Q => ∃ (a b : Addr) (xs : List V), x = .ref a ∧ y = .ref b ∧ SqL K H a xs ∧ SqL K H b xs ∧ (∀ v ∈ xs, okV v) ∧ Q (.bl false) H
theorem op_neS (hu : X.A.units + 64 < cLine) : OpR X (compareOp .NotEq) (rNeS X.K) := by
  intro pns s σ H x y v u Q I rx ry h
  obtain ⟨a, b, xs, rfl, rfl, ha, hb, ok, q⟩ := h
  cases (show v = Value.ref a from rx)
  cases (show u = Value.ref b from ry)
  obtain ⟨us, r1, p1, _⟩ := I.list ha
  obtain ⟨ws, r2, p2, _⟩ := I.list hb
  have hz : us.toArray.size = ws.toArray.size := by
    rw [List.size_toArray, List.size_toArray, ← r1.length, ← r2.length]
  refine SeqAt.RcNeAt.lists (e := fun _ => true) p1.isList p2.isList hz (by omega) (fun j h1 h2 => ?_) X.prog X.w X.xe _ ?_
  · have z := vals_eqAt (A := X.A.in1) (s := s) ok r1 r2 j (by simpa using h1) (by simpa using h2)
    simpa using z
  · rw [show ((List.range us.toArray.size).all fun _ => true) = true from List.all_eq_true.mpr fun _ _ => rfl]
    exact ⟨.bl false, H, I, rfl, q⟩
/-- a == (), a a tuple -/
def rEqNil (K : PySem.W.Frag) : R2 := fun x y H Q => ∃ (a b : Addr) (xs : List V), x = .ref a ∧ y = .ref b ∧ SqT K H a xs ∧ SqT K H b [] ∧ Q (.bl xs.isEmpty) H
theorem op_eqNil (hu : X.A.units + 64 < cLine) : OpR X (compareOp .Eq) (rEqNil X.K) := by
  intro pns s σ H x y v u Q I rx ry h
  obtain ⟨a, b, xs, rfl, rfl, ha, hb, q⟩ := h
  cases (show v = Value.ref a from rx)
  cases (show u = Value.ref b from ry)
  obtain ⟨us, r1, p1, _⟩ := I.tuple ha
  obtain ⟨ws, r2, p2, _⟩ := I.tuple hb
  cases r2
  refine SeqAt.eq_tupleAt (e := fun _ => true) p1 p2 (by omega) (fun j h1 h2 => absurd h2 (by simp)) ?_
  have e : ((List.range (min us.toArray.size (#[] : Array Value).size)).all (fun _ => true) && us.toArray.size == (#[] : Array Value).size) = xs.isEmpty := by
    rw [List.size_toArray, ← r1.length]
    cases xs <;> simp
  exact ⟨.bl _, H, I, rfl, by rw [e]; exact q⟩
def rStrMul : R2 := fun x y H Q => ∃ (z : Str) (n : Int), x = .str z ∧ y = .int n ∧ MulOk z n ∧ Q (.str (Txt.mul z n)) H
theorem op_strmul : OpR X (binaryOp .Mult) rStrMul := by
  intro pns s σ H x y v u Q I rx ry h
  obtain ⟨z, n, rfl, rfl, ok, q⟩ := h
  obtain ⟨t1, rfl⟩ := rx
  obtain ⟨t2, rfl⟩ := ry
  exact SB.mul ok fun t' k => ⟨.str _, H, I.tok k, ⟨t', rfl⟩, q⟩
/-- a tuple taken many times -/
def rRepM (K : PySem.W.Frag) : R2 := fun x y H Q => ∃ l k xs, x = .ref l ∧ y = .int k ∧ SqT K H l xs ∧ xs ≠ [] ∧ 2 ≤ k ∧ (xs.length : Int) * k ≤ 1000000 ∧ ∀ p, H p = none → Q (.ref p) (upd H p (.tup (List.replicate k.toNat xs).flatten))
theorem op_repM : OpR X (binaryOp .Mult) (rRepM X.K) := by
  intro pns s σ H x y v u Q I rx ry h
  obtain ⟨l, k, xs, rfl, rfl, hT, hne, hlo, hz, q⟩ := h
  cases (show v = Value.ref l from rx)
  obtain ⟨t, rfl⟩ := ry
  obtain ⟨us, r, ⟨⟨cl, di, da, slo⟩, ho, hc, n, hd⟩, hs⟩ := I.tuple hT
  dsimp only at hc hd
  subst hc
  subst hd
  have hle : us.length = xs.length := r.length.symm
  have h0 : us.toArray.isEmpty = false := by
    cases us with
    | nil =>
      cases xs with
      | nil => exact absurd rfl hne
      | cons => cases hle
    | cons _ _ => rfl
  have hsz : us.toArray.size = xs.length := by rw [List.size_toArray, hle]
  have pos : 1 ≤ xs.length := by
    cases xs with
    | nil => exact absurd rfl hne
    | cons => rw [List.length_cons]; omega
  have hk : k ≤ 1000000 := by
    have a1 : (1 : Int) * k ≤ (xs.length : Int) * k := Int.mul_le_mul_of_nonneg_right (by omega) (by omega)
    omega
  have hm : ((us.toArray.size : Nat) : Int) * k ≤ 1000000 := by rw [hsz]; exact hz
  have hflat : (List.replicate k.toNat us).flatten.length ≤ sizeLine := by
    rw [lm_len_rep_flat, hle, sizeLine_eq]
    have a2 : ((k.toNat * xs.length : Nat) : Int) = (xs.length : Int) * k := by
      rw [Int.natCast_mul, Int.toNat_of_nonneg (by omega), Int.mul_comm]
    omega
  have c0 : (decide (k < -(2 ^ 63)) || decide (k ≥ 2 ^ 63)) = false := by
    simp only [Bool.or_eq_false_iff, decide_eq_false_iff_not]
    omega
  have c1 : (us.toArray.isEmpty || k == 1) = false := by
    rw [h0, Bool.false_or, beq_eq_false_iff_ne]
    omega
  have c2 : (decide (k ≤ 0) || us.toArray.isEmpty) = false := by
    rw [h0, Bool.or_false, decide_eq_false_iff_not]
    omega
  have c4 : Builtin.Tuple.tupleTooMany (((us.toArray.size : Nat) : Int) * k) = false := by
    unfold Builtin.Tuple.tupleTooMany
    rw [sizeLine_eq, decide_eq_false_iff_not]
    omega
  have big : (List.foldl (fun x1 x2 => x1 ++ x2) #[] (List.replicate k.toNat us.toArray)).size ≤ sizeLine := by
    rw [size_rep, List.size_toArray]
    exact hflat
  have inner := tuple_mulW l us.toArray n di slo k t c0 c1 c2 (by omega) c4 big
  have outer := int_rmul_tuple k t l us.toArray n di slo
  refine wpAny_binaryOp_repeat_ref (T := "tuple") (U := "int") (by decide) ⟨_, ho, rfl⟩ (fun s1 => typeIs_int s1 k t) noFill_tuple_mul F.fills_int_mul F.slot_int_rmul repeat_tuple F.slot_int_index.lookup ?_
  refine call_meets F.slot_int_rmul (typeIs_int s k t) F.entry_int_rmul (F.args_int_rmul_2 _ _) outer ⟨ho, rfl, ⟨_, ho, rfl⟩, ?_⟩
  refine call_meets F.slot_tuple_mul ⟨_, ho, rfl⟩ F.entry_tuple_mul (F.args_tuple_mul_2 _ _) inner ⟨ho, ?_⟩
  rw [size_rep]
  have hnew : H s.heap.objs.size = none := I.hok.fresh (Nat.le_refl _)
  have hfl2 : (List.replicate k.toNat xs).flatten.length ≤ sizeLine := by
    have z := (r.rep k.toNat).length
    rw [z]
    exact hflat
  exact ⟨.ref s.heap.objs.size, _, I.laid (t' := s.toks) (o := .tup (List.replicate k.toNat xs).flatten) (fun b ob z => Heap.get?_push_of_some _ z) (Nat.le_refl _) ⟨hfl2, _, r.rep k.toNat, IsTup.new _ _⟩, rfl, q _ hnew⟩
/-- a != b of two tuples of the very same items -/
def rNeST (K : PySem.W.Frag) : R2 := fun x y H Q => ∃ (a b : Addr) (xs : List V), x = .ref a ∧ y = .ref b ∧ SqT K H a xs ∧ SqT K H b xs ∧ (∀ v ∈ xs, okV v) ∧ Q (.bl false) H
theorem op_neST (hu : X.A.units + 64 < cLine) : OpR X (compareOp .NotEq) (rNeST X.K) := by
  intro pns s σ H x y v u Q I rx ry h
  obtain ⟨a, b, xs, rfl, rfl, ha, hb, ok, q⟩ := h
  cases (show v = Value.ref a from rx)
  cases (show u = Value.ref b from ry)
  obtain ⟨us, r1, p1, _⟩ := I.tuple ha
  obtain ⟨ws, r2, p2, _⟩ := I.tuple hb
  have hz : us.toArray.size = ws.toArray.size := by
    rw [List.size_toArray, List.size_toArray, ← r1.length, ← r2.length]
  refine SeqAt.RcNeAt.tuples (e := fun _ => true) p1 p2 (by omega) (fun j h1 h2 => ?_) X.prog X.w X.xe _ ?_
  · have z := vals_eqAt (A := X.A.in1) (s := s) ok r1 r2 j (by simpa using h1) (by simpa using h2)
    simpa using z
  · rw [show ((List.range (min us.toArray.size ws.toArray.size)).all fun _ => true) = true from List.all_eq_true.mpr fun _ _ => rfl, hz]
    exact ⟨.bl _, H, I, rfl, by simpa using q⟩
/-- a != b, both of them pairs of ints -/
def rNeI2 (K : PySem.W.Frag) : R2 := fun x y H Q => ∃ (a b : Addr) (i j k l : Int), x = .ref a ∧ y = .ref b ∧ SqT K H a [.int i, .int j] ∧ SqT K H b [.int k, .int l] ∧ Q (.bl (!decide (i = k ∧ j = l))) H
theorem op_neI2 (hu : X.A.units + 64 < cLine) : OpR X (compareOp .NotEq) (rNeI2 X.K) := by
  intro pns s σ H x y v u Q I rx ry h
  obtain ⟨a, b, i, j, k, l, rfl, rfl, ha, hb, q⟩ := h
  cases (show v = Value.ref a from rx)
  cases (show u = Value.ref b from ry)
  obtain ⟨us, r1, p1, _⟩ := I.tuple ha
  obtain ⟨ws, r2, p2, _⟩ := I.tuple hb
  obtain ⟨u1, u2, rfl, ⟨t1, rfl⟩, ⟨t2, rfl⟩⟩ := vals2 r1
  obtain ⟨w1, w2, rfl, ⟨t3, rfl⟩, ⟨t4, rfl⟩⟩ := vals2 r2
  refine SeqAt.RcNeAt.tuples (e := fun n => if n = 0 then i == k else j == l) p1 p2 (by omega) (fun n h1 h2 => ?_) X.prog X.w X.xe _ ?_
  · match n, h1, h2 with
    | 0, _, _ => exact SeqAt.EqAt.int_int i t1 k t3
    | 1, _, _ => exact SeqAt.EqAt.int_int j t2 l t4
    | n + 2, h1, _ => exact absurd h1 (by simp)
  · have e : (!((List.range (min [Value.int i t1, Value.int j t2].toArray.size [Value.int k t3, Value.int l t4].toArray.size)).all (fun n => if n = 0 then i == k else j == l) && [Value.int i t1, Value.int j t2].toArray.size == [Value.int k t3, Value.int l t4].toArray.size)) = !decide (i = k ∧ j = l) := by
      show (!((List.range 2).all (fun n => if n = 0 then i == k else j == l) && true)) = _
      rw [show List.range 2 = [0, 1] from rfl]
      by_cases e1 : i = k <;> by_cases e2 : j = l <;> simp [e1, e2]
    rw [e]
    exact ⟨.bl _, H, I, rfl, q⟩
/-- a == b of two lists of the very same items -/
def rEqS (K : PySem.W.Frag) : R2 := fun x y H Q => ∃ (a b : Addr) (xs : List V), x = .ref a ∧ y = .ref b ∧ SqL K H a xs ∧ SqL K H b xs ∧ (∀ v ∈ xs, okV v) ∧ Q (.bl true) H
theorem op_eqS (hu : X.A.units + 64 < cLine) : OpR X (compareOp .Eq) (rEqS X.K) := by
  intro pns s σ H x y v u Q I rx ry h
  obtain ⟨a, b, xs, rfl, rfl, ha, hb, ok, q⟩ := h
  cases (show v = Value.ref a from rx)
  cases (show u = Value.ref b from ry)
  obtain ⟨us, r1, p1, _⟩ := I.list ha
  obtain ⟨ws, r2, p2, _⟩ := I.list hb
  have hz : us.toArray.size = ws.toArray.size := by
    rw [List.size_toArray, List.size_toArray, ← r1.length, ← r2.length]
  refine SeqAt.eq_listAt (e := fun _ => true) p1.isList p2.isList hz (by omega) (fun j h1 h2 => ?_) ?_
  · have z := vals_eqAt (A := X.A.in1) (s := s) ok r1 r2 j (by simpa using h1) (by simpa using h2)
    simpa using z
  · rw [show ((List.range us.toArray.size).all fun _ => true) = true from List.all_eq_true.mpr fun _ _ => rfl]
    exact ⟨.bl true, H, I, rfl, q⟩
/-- a != [], a a list -/
def rNeNil (K : PySem.W.Frag) : R2 := fun x y H Q => ∃ (a b : Addr) (xs : List V), x = .ref a ∧ y = .ref b ∧ SqL K H a xs ∧ SqL K H b [] ∧ Q (.bl (!xs.isEmpty)) H
theorem op_neNil (hu : X.A.units + 64 < cLine) : OpR X (compareOp .NotEq) (rNeNil X.K) := by
  intro pns s σ H x y v u Q I rx ry h
  obtain ⟨a, b, xs, rfl, rfl, ha, hb, q⟩ := h
  cases (show v = Value.ref a from rx)
  cases (show u = Value.ref b from ry)
  obtain ⟨us, r1, p1, _⟩ := I.list ha
  obtain ⟨ws, r2, p2, _⟩ := I.list hb
  cases r2
  cases r1 with
  | nil => exact SeqAt.RcNeAt.lists (e := fun _ => true) p1.isList p2.isList rfl (by omega) (fun j h1 h2 => absurd h2 (by simp)) X.prog X.w X.xe _ ⟨.bl false, H, I, rfl, q⟩
  | cons a1 b1 => exact SeqAt.RcNeAt.lists_lengths p1.isList p2.isList (by simp) (by omega) X.prog X.w X.xe _ ⟨.bl true, H, I, rfl, q⟩
/-- how many unlike ints a list has -/
def unlike (ns : List Int) : Nat := (firstMet (fun i => ns.getD i 0) ns.length).length
def tUnlike (K : PySem.W.Frag) (ta : TE) : TE := fun σ H Q => ta σ H fun x G => ∃ (l : Addr) (ns : List Int), x = .ref l ∧ SqL K G l (ns.map V.int) ∧ ns.length ≤ 4000 ∧ Q (.int (unlike ns : Nat)) G
theorem pe_unlike {e : Expr} {ta : TE} {p1 p2 p3 p4 : Pos} (hg : Gl X "len") (hm : X.mg "len" = none) (hg2 : Gl X "set") (hm2 : X.mg "set" = none) (ha : PE X e ta) (hc : X.calm = true := by rfl)
    (na : starEach [e] X.env = (false, eval e X.env) :: starEach [] X.env := by rfl) : PE X (.Call (.Name "len" p1) [.Call (.Name "set" p2) [e] [] p3] [] p4) (tUnlike X.K ta) := by
  refine ⟨fun pns s σ H Q I h => Call_ (ld_blt I hg hm PySem.boot_len (callWith_builtin1 (args_cons (Call_ (ld_blt I hg2 hm2 boot_set (callWith_type1 (args_cons (thn (ha.run pns s σ H _ I h) ?_) na) na rfl))) rfl) rfl rfl))⟩
  rintro v t ⟨x, G, J, r, l, ns, rfl, hq, hl, q⟩
  cases r
  obtain ⟨us, rv, pl, _⟩ := J.list hq
  have hz : us.toArray.size = ns.length := by rw [List.size_toArray, ← rv.length, List.length_map]
  refine args_nil (call_set_list (J.ok.hd hc) pl.isList (ns := ns) (by simpa using RZ.intsAre_vals rv) (by rw [hz]; unfold scanBound; omega) fun h' tk hS hk => args_nil ?_)
  rw [hz] at hS
  obtain ⟨o, es, ep, tb, ho, hex, hd, _, _, _, hf, hn⟩ := hS
  have hle := firstMet_length_le (fun i => ns.getD i 0) ns.length
  have J2 : Inv X pns σ G { t with heap := h', toks := tk } := J.kept fun b o e => hk b o (Heap.lt_size e) e
  exact call_len_set ho hex hd hf (by rw [hn]; omega) ⟨.int (unlike ns : Nat), G, J2.tok _, ⟨_, by rw [hn]; rfl⟩, q⟩
/-- a class without an __init__ -/
structure MkO (K : PySem.W.Frag) (C : Addr) : Prop where
  makes : PySem.W.makesIn K C = true
  init : PySem.W.findIn K (.ref C) "__init__" = some (some (.builtin "object.__init__"))
  kp : PySem.W.keepIn K (.ref C) = true
  ob : PySem.W.mroIn K C (.type "object") = some true
def mkoB (K : PySem.W.Frag) (C : Addr) : Bool := PySem.W.makesIn K C && (He.eqO (PySem.W.findIn K (.ref C) "__init__") (some (some (.builtin "object.__init__"))) && (PySem.W.keepIn K (.ref C) && decide (PySem.W.mroIn K C (.type "object") = some true)))
theorem mkoB_ok {K : PySem.W.Frag} {C : Addr} (h : mkoB K C = true) : MkO K C := by
  obtain ⟨h1, h⟩ := He.ba h
  obtain ⟨h2, h⟩ := He.ba h
  obtain ⟨h3, h4⟩ := He.ba h
  exact ⟨h1, He.eqO_ok h2, h3, of_decide_eq_true h4⟩
theorem pe_make00 {C : Addr} {x : Str} {p pos : Pos} (M : MkO X.K C) (hg : Gl X x) (hm : X.mg x = some (.ref C)) (hdb : (x == ("__debug__" : Str)) = false := by decide) :
    PE X (.Call (.Name x p) [] [] pos) (fun σ H Q => ∀ x dx, H x = none → H dx = none → dx ≠ x → Q (.ref x) (upd (upd H dx (.own x)) x (.ins C dx []))) := by
  refine ⟨fun pns s σ H Q I h => wpAny_Call_Name_kw (ld_glob I hg hm ?_ hdb)⟩
  refine PySem.W.callWith_K0 I.kIn M.kp ?_
  show wpAny _ _ (call (.ref C) []) _ _ _
  have hq := h (s.heap.objs.size + 1) s.heap.objs.size (I.hok.fresh (Nat.le_succ _)) (I.hok.fresh (Nat.le_refl _)) (Nat.ne_of_lt (Nat.lt_succ_self _))
  have J := Inv.made (C := C) I
  refine wpAny_call (make_map0 I.kIn M.makes M.init (fun me => PySem.W.Looks.of_pure (PySem.W.oi_bind me)) ?_)
  have ho : ((s.heap.push PySem.W.emptyDict).push (PySem.W.instObj C s.heap.objs.size)).get? (s.heap.objs.size + 1) = some (PySem.W.instObj C s.heap.objs.size) := by
    have z := Heap.get?_push_size (s.heap.push PySem.W.emptyDict) (o := PySem.W.instObj C s.heap.objs.size) rfl
    rw [Heap.size_push] at z
    exact z
  have t1 : PySem.W.Looks (model X.prog X.w) ((s.heap.push PySem.W.emptyDict).push (PySem.W.instObj C s.heap.objs.size)) (typeOf (.ref (s.heap.objs.size + 1))) (.ref C) := (PySem.W.Looks.ld ho).andThen .now
  have t2 : PySem.W.Looks (model X.prog X.w) ((s.heap.push PySem.W.emptyDict).push (PySem.W.instObj C s.heap.objs.size)) (isInstance (.ref (s.heap.objs.size + 1)) (.type "object")) true := t1.andThen (PySem.W.looks_mroIn J.kIn M.ob)
  refine codeAny_call_builtin PySem.W.oi_plain PySem.W.entry_oi (PySem.W.check_slot PySem.W.oi_kind PySem.W.oi_split t2 (PySem.W.oi_args (.ref (s.heap.objs.size + 1))) ?_)
  rw [PySem.W.oi_run]
  exact wpAny_pure ⟨rfl, ⟨V.ref (s.heap.objs.size + 1), _, J, rfl, hq⟩⟩
/-! ### within a comprehension: the written part by its name -/
theorem ix_listK {K : PySem.W.Frag} (h : X.K = K := by rfl) : IxR X (rIxL K) := by
  subst h
  exact ix_list
theorem ix_tupK {K : PySem.W.Frag} (h : X.K = K := by rfl) : IxR X (rIxT K) := by
  subst h
  exact ix_tup
theorem pg_tupK {K : PySem.W.Frag} {n : Nat} {es : List Expr} {k : Nat} {t : TGs} (hc : X.calm = true) (h : PGs X es t) (hK : X.K = K := by rfl)
    (hn : (assignEach es X.env).length = n := by rfl) (hst : (assignEach es X.env).findIdx? (·.1) = none := by rfl) : PG X (.Tuple es k pos) (gTup K n t) := by
  subst hK
  exact pg_tup hc h hn hst
theorem op_ltTK {K : PySem.W.Frag} (hu : X.A.units < cLine) (h : X.K = K := by rfl) : OpR X (compareOp .Lt) (rLtT K) := by
  subst h
  exact op_ltT hu
end
end CM
set_option Elab.async false
set_option linter.all false
set_option maxRecDepth 100000
set_option maxHeartbeats 4000000
namespace SL
open PySem PySem.Spec PyProof.Rows L2 CM LamX
/-! ### a def whose code object is told -/
section
variable {P : Program} {w : World} {K : PySem.W.Frag} {mg : Str → Option Value} {base : Heap} {x qual : Str} {params : Arguments} {body : List Stmt} {scope : Scope} {dvs : List V} {kws : List (Str × V)} {fd : FuncData}
theorem okC {CX : CXT} {N ps : List Str} {k : Nat} {sp : Sp} {p : He.Defn} (F : FunD K x qual params body scope dvs kws (He.fAd K p) fd) (S : FnScope N ps scope) (len : ∀ vs H Q E, sp vs H Q E → vs.length = ps.length)
    (hbody : ∀ (A : Around) (outer : List Env) (s : Shared) (H : Hp) (vs : List V) (Q : VK) (E : XK), Room k (A.deeper (envOfC qual scope s.heap.objs.size (He.fAd K p) (.ref (He.codeOf K p)))) → sp vs H Q E →
      ∃ t, PSs (cxOf CX P w K mg base N qual scope (He.fAd K p) (.ref (He.codeOf K p)) A outer s H E) body t ∧ t { nx := fun _ H' => Q .non H', rt := Q } (start N vs) H) : FnOk P w K mg base CX (k + 1) (He.fAd K p) fd ps sp := by
  obtain ⟨oc, od, dV, kV, doc, pm, an, cdv, ct, osl, rfl, lk, hcd, _, _⟩ := F.ex
  obtain ⟨c, rfl⟩ := He.codeIn_ref hcd
  have e : He.codeOf K p = c := He.codeOf_eq lk rfl
  rw [e] at hbody
  exact fn_of lk hcd S len hbody
end
/-! ### a lambda of one parameter, called: its key alone is asked, the heap grows -/
/-- one parameter of its own, captured names, globals -/
structure Lam1 (sc scope : Scope) (x : Str) : Prop where
  kind : scope.kind = .function
  co : scope.isCoroutine = false
  gen : scope.isGenerator = false
  par : scope.names.lookup x = some .local
  nocell : ∀ y ∈ scope.names, y.2 ≠ .cell
  free : ∀ y ∈ scope.names, y.2 = .free → sc.names.lookup y.1 = some .cell ∨ sc.names.lookup y.1 = some .free
def lam1B (sc scope : Scope) (x : Str) : Bool :=
  decide (scope.kind = .function) && (!scope.isCoroutine && (!scope.isGenerator && (decide (scope.names.lookup x = some .local) && ((scope.names.all fun y => !decide (y.2 = .cell)) && (scope.names.all fun y => !decide (y.2 = .free) || decide (sc.names.lookup y.1 = some .cell) || decide (sc.names.lookup y.1 = some .free))))))
theorem lam1_by {sc scope : Scope} {x : Str} (h : lam1B sc scope x = true) : Lam1 sc scope x := by
  unfold lam1B at h
  simp only [Bool.and_eq_true, Bool.or_eq_true, Bool.not_eq_true', decide_eq_true_eq, decide_eq_false_iff_not, List.all_eq_true] at h
  obtain ⟨h1, h2, h3, h4, h5, h6⟩ := h
  refine ⟨h1, h2, h3, h4, h5, fun y hy e => ?_⟩
  rcases h6 y hy with (z | z) | z
  · exact absurd e z
  · exact .inl z
  · exact .inr z
theorem Lam1.has {X : Cx} {scope : Scope} {x : Str} (L : Lam1 X.env.scope scope x) (ok : X.Ok) : ∀ y ∈ scope.names, y.2 = .free → ∃ c, X.env.cells.lookup y.1 = some c := fun y hy e =>
  (L.free y hy e).elim (fun z => ok.has _ (.inl z)) fun z => ok.has _ (.inr z)
section
variable {prog : Program} {w : World} {A : Around} {s : Shared}
theorem lam_call {sc : Scope} {f c' : Addr} {x : Str} {params : Arguments} {body : Expr} {scope : Scope} {cl : List (Str × Addr)} {pm ctv v : Value} {qual : Str} {k : PyData} (L : Lam1 sc scope x)
    (hroom : A.depth < recursionLimit) (hf : s.heap.get? f = some (PySem.W.kla_obj "<lambda>" qual params body scope cl pm c' ctv)) (hcd : s.heap.CodeRec (.ref c') qual) (lim : s.heap.NoLimit)
    (hbind : bindArgs (PySem.W.kla_fn "<lambda>" qual params body scope cl pm (.ref c') ctv) ⟨[v], []⟩ = pure [(x, v)])
    (h : ∀ (D : Addr) (g : Heap) (tk : Nat), (∀ b o, s.heap.get? b = some o → g.get? b = some o) → g.Ns D (fun y => [(x, v)].reverse.lookup y) →
      wpAny (model prog w) (A.deeper (PySem.W.envX qual scope D f (.ref c') cl)) (eval body (PySem.W.envX qual scope D f (.ref c') cl)) (PySem.W.KeyPure k { s with heap := g, toks := tk }) (fun _ _ => False) { s with heap := g, toks := tk }) :
    wpAny (model prog w) A (call (.ref f) [v]) (PySem.W.KeyPure k s) (fun _ _ => False) s := by
  refine wpAny_call (PySem.W.kla_callFunE hroom hf rfl L.co L.gen rfl hcd ?_)
  rw [hbind]
  refine wpAny_pure (wpAny_newFunctionEnv L.nocell (fun y hy => ?_) (fun g hns hsb => ⟨lim.fresh _ hsb, ?_⟩) L.kind)
  · rw [List.mem_singleton.mp hy]
    exact L.par
  · have up : ∀ b o, s.heap.get? b = some o → g.get? b = some o := fun b o e => hsb.extBut b o (Nat.ne_of_lt (Heap.lt_size e)) (Heap.get?_push_of_some _ e)
    refine PySem.W.kla_codeExpr (wpAny_mono (h _ g _ up hns) (fun u t ⟨g2, tk, e, up2, rd⟩ => ?_) fun _ _ z => z.elim)
    exact ⟨g2, tk, e, fun b o q => up2 b o (up b o q), rd⟩
end
/-! ### sorted(e, key=lambda x: body) -/
/-- what stands at the captured names: cells of the running frame, their values -/
def CapAt (X : Cx) (σ : L2.St) (g : Heap) (cl : List (Str × Addr)) : Prop := ∀ (i : Nat) (y : Str) (v : V), X.N[i]? = some y → σ[i]? = some (some v) → (∃ c, cl.lookup y = some c) → ∃ c u, cl.lookup y = some c ∧ RelV v u ∧ g.IsCell c (some u)
theorem capAt_of {X : Cx} {pins : List (Addr × Obj)} {σ : L2.St} {H : Hp} {s : Shared} {scope : Scope} {x : Str} (I : Inv X pins σ H s) (L : Lam1 X.env.scope scope x) : CapAt X σ s.heap (cloFrom X.env.cells scope.names []) := by
  intro i y v hi hv ⟨c, hc⟩
  have hm : (y, NameKind.free) ∈ scope.names := by
    rcases cloFrom_mem (PySem.mem_of_lookup hc) with hm | ⟨h1, _⟩
    · cases hm
    · exact h1
  have hk := L.free _ hm rfl
  obtain ⟨m, _, hl⟩ := I.loc
  obtain ⟨u, r, q⟩ := hl i y v hi hv (hk.elim (fun z => .inr (.inl z)) fun z => .inr (.inr z))
  rcases q with ⟨z, _⟩ | ⟨_, c2, hc2, cell⟩
  · have z : X.env.scope.names.lookup y = some .local := z
    rcases hk with k | k <;> rw [show X.env.scope.names.lookup y = _ from k] at z <;> cases z
  · refine ⟨c, u, hc, r, ?_⟩
    have hc' : (y, c) ∈ cloFrom X.env.cells scope.names [] := PySem.mem_of_lookup hc
    rcases cloFrom_mem hc' with hm | ⟨_, e⟩
    · cases hm
    · rw [e, hc2]
      exact cell
/-- the key's reckoning: k, for the item v, wherever the heap has grown -/
def KeyRun (X : Cx) (σ : L2.St) (body : Expr) (scope : Scope) (x : Str) (s : Shared) (H : Hp) (v : Value) (k : PyData) : Prop :=
  ∀ (A : Around) (qual : Str) (f c' D : Addr) (cl : List (Str × Addr)) (g : Heap) (tk : Nat), X.A.units ≤ A.units → (∀ b o, s.heap.get? b = some o → g.get? b = some o) → CapAt X σ g cl → (∀ y, scope.names.lookup y = some .free → ∃ c, cl.lookup y = some c) →
    g.Ns D (fun y => [(x, v)].reverse.lookup y) → wpAny (model X.prog X.w) A (eval body (PySem.W.envX qual scope D f (.ref c') cl)) (PySem.W.KeyPure k { s with heap := g, toks := tk }) (fun _ _ => False) { s with heap := g, toks := tk }
/-- the reading -/
def tSortL {β : Type} (X : Cx) (T : List (Addr × Str)) (body : Expr) (scope : Scope) (x : Str) (ta : TE) : TE := fun σ H Q => ta σ H fun u H1 => Tabs T H1 ∧ ∃ (l : Addr) (bs : List β) (vf : β → V) (kf : β → PyData), u = .ref l ∧ SqL X.K H1 l (bs.map vf) ∧
  (∀ b ∈ bs, ∀ d ∈ bs, PySem.W.alike (kf b) (kf d) = true) ∧ PySem.W.Sortable (bs.map kf) ∧ (∀ b ∈ bs, (kf b).depth ≤ 60) ∧
  (∀ (pins : List (Addr × Obj)) (s : Shared) (H2 : Hp) (b : β) (v : Value), Inv X pins σ H2 s → ExtN H1 H2 → b ∈ bs → RelV (vf b) v → KeyRun X σ body scope x s H2 v (kf b)) ∧
  ∀ (D : Addr) (H2 : Hp), ExtN H1 H2 → (∀ o, H1 D = some o → ∃ ps, o = .tbl ps) → Tabs T H2 → H2 D = some (.lst ((bs.mergeSort (PySem.W.dataLe false kf)).map vf)) → Q (.ref D) H2
theorem each_of_vals {β : Type} {vf : β → V} : ∀ {bs : List β} {us : List Value}, Vals (bs.map vf) us → PySem.W.EachIs (fun v b => RelV (vf b) v) us bs
  | [], _, .nil => .nil
  | b :: bs, _, .cons r t => .cons r (each_of_vals t)
theorem vals_of_each {β : Type} {vf : β → V} : ∀ {bs : List β} {us : List Value}, PySem.W.EachIs (fun v b => RelV (vf b) v) us bs → Vals (bs.map vf) us
  | [], _, .nil => .nil
  | b :: bs, _, .cons r t => .cons r (vals_of_each t)
section
variable {X : Cx}
theorem pe_sortL {β : Type} {T : List (Addr × Str)} {c P : Addr} {a : Expr} {ta : TE} {params : Arguments} {body : Expr} {scope : Scope} {x : Str} {k : Nat} {lpos kpos p1 pos : Pos} (hr : Room k X.A) (TB : TabB X.base X.mg c P) (hcode : X.env.code = .ref c)
    (hmT : (P, X.env.qual ++ "<lambda>") ∈ T) (hu : ∀ p ∈ T, p.1 = P → p.2 = X.env.qual ++ "<lambda>") (L : Lam1 X.env.scope scope x) (hdef : defaultsOf params X.env = ([], []))
    (hbind : ∀ (q : Str) (cl : List (Str × Addr)) (pm cv ctv v : Value), bindArgs (PySem.W.kla_fn "<lambda>" q params body scope cl pm cv ctv) ⟨[v], []⟩ = pure [(x, v)])
    (hg : Gl X "sorted") (hm : X.mg "sorted" = none) (ha : PE X a ta)
    (he : backTo pos (starEach [a] X.env) = (false, eval a X.env) :: backTo pos (starEach [] X.env) := by rfl) (hpl : (backTo pos (starEach [a] X.env)).any (·.1) = false := by rfl) :
    PE X (.Call (.Name "sorted" p1) [a] [⟨some "key", .Lambda params body scope lpos, kpos⟩] pos) (tSortL (β := β) X T body scope x ta) := by
  refine ⟨fun pins s σ H Q I h => ?_⟩
  refine wpAny_Call_Name_kw (ld_blt I hg hm (show bootBuiltins "sorted" = some (.builtin "sorted") by decide +kernel) ?_ (by decide) (by decide))
  refine PyProof.Rows.callWith_kw ?_ he hpl (by rfl) (by rfl)
  rw [he]
  refine Calls.spliced_cons (thn (ha.run pins s σ H _ I h) fun u s1 ⟨v0, H1, I1, r1, hT, l, bs, vf, kf, e0, hS, al, so, dp, kr, q⟩ => Calls.spliced_nil ?_)
  subst e0
  obtain rfl : u = Value.ref l := r1
  show wpAny _ _ (evalAll ((do let v ← eval (.Lambda params body scope lpos) X.env; standAt pos; pure v) :: [])) _ _ s1
  refine wpAny_evalAll_cons (wpAny_bind (lam_make2 I1 TB hcode hmT hu hT hdef (L.has I1.ok) fun f c' pm ctv H2 s2 I2 eN T2 hf hfn hfr hco => wpAny_bind (wpAny_standAt (wpAny_pure (wpAny_evalAll_nil ?_)))))
  show wpAny _ _ (call (.builtin "sorted") [.ref l] [(Str.ofString "key", .ref f)]) _ _ s2
  have hS2 : SqL X.K H2 l (bs.map vf) := by
    rcases hS with hS | hS
    · rcases hS with hS | ⟨o, hS⟩
      · exact .inl (.inl (eN _ _ hS fun ps z => by cases z))
      · exact .inl (.inr ⟨o, eN _ _ hS fun ps z => by cases z⟩)
    · exact .inr hS
  obtain ⟨its, rv, hl, hz⟩ := I2.list hS2
  rw [List.length_map] at hz
  have hcr := (show ∃ (oc : Obj) (vs : Array Value) (t : Tok), s2.heap.get? c' = some oc ∧ oc.data = .fields vs ∧ vs[1]? = some (.str (X.env.qual ++ "<lambda>") t) from (I2.hok c' _ hco).1)
  have ea := each_of_vals rv
  refine PySem.W.sorted_key_data (b := false) (bs := bs) (R := fun v b => RelV (vf b) v) kf hl.isList ea ?_ so hz (fun b hb => ?_) (PyProof.Rows.ksk_s1 _ _) (fun _ => PyProof.Rows.ksk_l1 _ _) (fun _ => PyProof.Rows.ksk_t1 _ _)
    (fun v b rb hb g tk up => ?_) fun out cc g tk up hD hD2 hlen eo => ?_
  · intro d hd e he
    obtain ⟨b, hb, rfl⟩ := List.mem_map.mp hd
    obtain ⟨b2, hb2, rfl⟩ := List.mem_map.mp he
    exact al b hb b2 hb2
  · have z1 := hr.units
    have z2 := dp b hb
    omega
  · have I3 : Inv X pins σ H2 { s2 with heap := g, toks := tk } := I2.kept up
    obtain ⟨oc, vs, t, h1, h2, h3⟩ := hcr
    refine lam_call L (by show X.A.depth < _; exact hr.depth) (up _ _ hf) ⟨c', oc, vs, t, rfl, up _ _ h1, h2, h3⟩ I3.nolimit (hbind _ _ _ _ _ _) fun D g2 tk2 up2 hns => ?_
    refine kr pins _ H2 b v I3 eN hb rb _ _ _ _ _ _ g2 tk2 (by show X.A.units ≤ X.A.units + 1 + 1 + 3; omega) up2 ?_ (fun y hy => ?_) hns
    · intro i y w hi hw hc
      obtain ⟨c0, u0, a1, a2, o, a3, a4⟩ := capAt_of I3 L i y w hi hw hc
      exact ⟨c0, u0, a1, a2, o, up2 _ _ a3, a4⟩
    · exact mem_lookup (cloFrom_has (cells := X.env.cells) (acc := []) (PySem.mem_of_lookup hy))
  · have hlen2 : ((bs.mergeSort (PySem.W.dataLe false kf)).map vf).length ≤ sizeLine := by
      rw [List.length_map, List.length_mergeSort]
      exact hz
    have hnew : H2 (s2.heap.objs.size + 1) = none := I2.hok.fresh (Nat.le_succ _)
    have vo := vals_of_each eo
    refine ⟨.ref (s2.heap.objs.size + 1), upd H2 (s2.heap.objs.size + 1) (.lst ((bs.mergeSort (PySem.W.dataLe false kf)).map vf)), I2.laid (t' := tk) up (Nat.le_succ _) ⟨hlen2, out, cc, vo, hD2⟩, rfl, ?_⟩
    refine q _ _ (fun b o e n => ?_) (fun o e1 => ?_) (T2.ext fun b o e => ?_) upd_same
    · rw [upd_ne (ne_of_none (eN _ _ e n) hnew)]
      exact eN _ _ e n
    · cases o with
      | tbl ps => exact ⟨ps, rfl⟩
      | _ =>
        rw [eN _ _ e1 (fun ps z => by cases z)] at hnew
        cases hnew
    · rw [upd_ne (ne_of_none e hnew)]
      exact e
end
end SL
set_option Elab.async false
set_option linter.all false
set_option maxRecDepth 100000
set_option maxHeartbeats 4000000
namespace SL
open PySem PySem.Spec PyProof.Rows L2 CM LamX
/-! ### tables stay -/
theorem Tabs.kp {T : List (Addr × Str)} {a : Addr} {xs : List V} {H H' : Hp} (t : Tabs T H) (ha : H a = some (.lst xs)) (k : Kp a H H') : Tabs T H' := fun p hp => by
  obtain ⟨ps, h1, h2, h3⟩ := t p hp
  have ne : ∀ {b : Addr} {o : HO}, H b = some o → (∀ ys, o ≠ .lst ys) → b ≠ a := fun {b o} e n z => by
    rw [z, ha] at e
    exact n xs (Option.some.inj e).symm
  refine ⟨ps, k _ _ (ne h1 fun ys z => by cases z) h1, h2, fun pos cv hc => ?_⟩
  obtain ⟨c, e1, e2⟩ := h3 pos cv hc
  exact ⟨c, e1, k _ _ (ne e2 fun ys z => by unfold CodeO at z; cases z) e2⟩
theorem Tabs.same {T : List (Addr × Str)} {H H' : Hp} (t : Tabs T H) (s : Same H H') : Tabs T H' := t.ext s
/-- all but the thing at a and the tables stays -/
def KpN (a : Addr) (H H' : Hp) : Prop := ∀ b o, b ≠ a → (∀ ps, o ≠ .tbl ps) → H b = some o → H' b = some o
theorem KpN.of {a : Addr} {H H' : Hp} (k : Kp a H H') : KpN a H H' := fun b o n _ e => k b o n e
theorem KpN.ext {a : Addr} {H H' : Hp} (k : ExtN H H') : KpN a H H' := fun b o _ n e => k b o e n
theorem KpN.trans {a : Addr} {H H1 H2 : Hp} (x : KpN a H H1) (y : KpN a H1 H2) : KpN a H H2 := fun b o n m e => y b o n m (x b o n m e)
theorem ExtN.of_same {H H' : Hp} (s : Same H H') : ExtN H H' := fun b o e _ => s b o e
theorem ExtN.seqL {K : PySem.W.Frag} {H H' : Hp} {a : Addr} {xs : List V} (e : ExtN H H') (h : SqL K H a xs) : SqL K H' a xs := by
  rcases h with (h | ⟨o, h⟩) | h
  · exact .inl (.inl (e _ _ h fun ps z => by cases z))
  · exact .inl (.inr ⟨o, e _ _ h fun ps z => by cases z⟩)
  · exact .inr h
theorem one_tab {P P' : Addr} {q q' : Str} (e : q = q') : ∀ p ∈ [(P', q)], p.1 = P → p.2 = q' := fun p hp _ => by rw [List.mem_singleton.mp hp]; exact e
/-! ### the key (m[x], x) -/
/-- a leaf as data -/
inductive LeafD : V → PyData → Prop where
  | int (i : Int) : LeafD (.int i) (.int i)
  | str (z : Str) : LeafD (.str z) (.str z)
theorem LeafD.reads {w : V} {d : PyData} {u : Value} {h : Heap} (l : LeafD w d) (r : RelV w u) : Reads h u d [] := by
  cases l with
  | int i =>
    obtain ⟨t, rfl⟩ := r
    exact .int i t
  | str z =>
    obtain ⟨t, rfl⟩ := r
    exact .str z t
theorem ns_one {x : Str} {v : Value} : [(x, v)].reverse.lookup x = some v := by simp [List.lookup]
theorem kr_pair {X : Cx} {pins : List (Addr × Obj)} {σ : L2.St} {H : Hp} {s : Shared} {scope : Scope} {m x : Str} {i b : Nat} {l : Addr} {items : List V} {w : V} {d : PyData} {v : Value} {ctx : Nat} {p1 p2 p3 p4 p5 : Pos} (I : Inv X pins σ H s)
    (kind : scope.kind = .function) (hm : scope.names.lookup m = some .free) (hx : scope.names.lookup x = some .local) (hN : X.N[i]? = some m) (hs : σ[i]? = some (some (.ref l))) (hl : SqL X.K H l items) (hb : items[b]? = some w) (ld : LeafD w d) (rv : RelV (.int (b : Int)) v)
    (dm : (m == ("__debug__" : Str)) = false := by decide) (dx : (x == ("__debug__" : Str)) = false := by decide) (cm : (m == ("__classdict__" : Str)) = false := by decide) :
    KeyRun X σ (.Tuple [.Subscript (.Name m p1) (.Name x p2) p3, .Name x p4] ctx p5) scope x s H v (.tuple [d, .int (b : Int)]) := by
  intro A qual f c' D cl g tk hu up cap has hns
  obtain ⟨its, rvs, pl, hz⟩ := I.list hl
  obtain ⟨c0, u0, hc0, r0, cell⟩ := cap i m (.ref l) hN hs (has m hm)
  cases (show u0 = Value.ref l from r0)
  obtain ⟨t, rfl⟩ := rv
  obtain ⟨w', ew, rw'⟩ := rvs.get hb
  have hlen := (List.getElem?_eq_some_iff.mp hb).1
  have hl63 := line63
  refine wpAny_Tuple_spliced ?_
  show wpAny _ _ (spliced ((false, eval (.Subscript (.Name m p1) (.Name x p2) p3) (PySem.W.envX qual scope D f (.ref c') cl)) :: (false, eval (.Name x p4) (PySem.W.envX qual scope D f (.ref c') cl)) :: [])) _ _ _
  refine Calls.spliced_cons (Subscript_ (wpAny_Name (wpAny_loadName_free kind hm hc0 cell ?_ cm) dm))
  refine wpAny_Name (wpAny_loadName_local kind hx hns ns_one ?_) dx
  have pl2 : g.IsList l its.toArray := by
    obtain ⟨o, h1, h2, n, h3⟩ := pl.isList
    exact ⟨o, up _ _ h1, h2, n, h3⟩
  refine item_listR (x := w') pl2 (by omega) (by omega) (by rw [Int.toNat_natCast]; simpa using ew) ?_ (by rfl)
  refine Calls.spliced_cons (wpAny_Name (wpAny_loadName_local kind hx hns ns_one (Calls.spliced_nil ⟨by show 2 ≤ sizeLine; decide, ?_⟩)) dx)
  refine ⟨_, _, rfl, fun b o e => Heap.get?_push_of_some _ e, ?_⟩
  exact Reads.tuple (as := [] ++ ([] ++ [])) (Heap.get?_push_size _ rfl) rfl rfl (.cons (ld.reads rw') (.cons (.int _ t) .nil))
/-! ### {k: v for x in a list} -/
theorem dc_list {K : PySem.W.Frag} {a : Addr} {xs : List V} {g : TG} {tt : TT} {tk tv : TE} {vs : List Nat} {σ : L2.St} {H1 : Hp} {D : Addr} {Qd : Hp → Prop} (Pv : Nat → Hp → Prop) (h0 : Pv 0 (upd H1 D (.dK []))) (hl : ∀ i H, i ≤ xs.length → Pv i H → SqL K H a xs)
    (hs : ∀ i x H, xs[i]? = some x → Pv i H → g x (wipe σ vs) H fun σ2 H2 => wipe σ2 vs = wipe σ vs ∧ tt σ2 H2 fun b H3 =>
      if b = true then tk σ2 H3 fun y H4 => tv σ2 H4 fun z H5 => ∃ kvs k, y = kV k ∧ H5 D = some (.dK kvs) ∧ kvs.length < sizeLine ∧ Pv (i + 1) (upd H5 D (.dK (putK kvs k z))) else Pv (i + 1) H3) (hd : ∀ H, Pv xs.length H → Qd H) :
    ∃ W : Nat → Nat → Hp → Prop, (∃ m, W 0 m (upd H1 D (.dK []))) ∧ ∀ i m H, W i m H →
      ((Itl K a).stop i H ∧ Qd H) ∨ ((Itl K a).go i H ∧ ∃ Nx : Hp → Prop, (∀ H', Nx H' → ∃ m', m' < m ∧ W (i + 1) m' H') ∧ ∀ x H', (Itl K a).yld i H x H' → g x (wipe σ vs) H' fun σ2 H2 => wipe σ2 vs = wipe σ vs ∧ tt σ2 H2 fun b H3 =>
        if b = true then tk σ2 H3 fun y H4 => tv σ2 H4 fun z H5 => ∃ kvs k, y = kV k ∧ H5 D = some (.dK kvs) ∧ kvs.length < sizeLine ∧ Nx (upd H5 D (.dK (putK kvs k z))) else Nx H3) := by
  refine ⟨fun i m H => m + i = xs.length ∧ Pv i H, ⟨xs.length, rfl, h0⟩, fun i m H ⟨e, p⟩ => ?_⟩
  have q := hl i H (by omega) p
  cases m with
  | zero =>
    have e : i = xs.length := by omega
    subst e
    exact .inl ⟨⟨xs, q, Nat.le_refl _⟩, hd H p⟩
  | succ m =>
    have hlt : i < xs.length := by omega
    refine .inr ⟨⟨xs, xs[i], q, List.getElem?_eq_getElem hlt⟩, Pv (i + 1), fun H' p' => ⟨m, Nat.lt_succ_self m, by omega, p'⟩, fun x H' y => ?_⟩
    obtain ⟨rfl, y⟩ := y
    exact hs i x _ (y xs q) p
/-! ### the first half of a sorted row -/
theorem count_take {α : Type} [BEq α] {lt : α → α → Bool} (irr : ∀ a, lt a a = false) (asy : ∀ a b, lt a b = true → lt b a = false) : ∀ {xs : List α} {h : Nat} {x : α}, xs.Pairwise (fun a b => lt a b = true) → x ∈ xs → (x ∈ xs.take h ↔ (xs.filter fun y => lt y x).length < h)
  | [], _, _, _, hx => by cases hx
  | a :: as, 0, x, _, _ => by
    simp
  | a :: as, h + 1, x, hp, hx => by
    obtain ⟨h1, h2⟩ := List.pairwise_cons.mp hp
    rw [List.take_succ_cons, List.mem_cons, List.filter_cons]
    by_cases e : x = a
    · subst e
      have f : as.filter (fun y => lt y x) = [] := by
        rw [List.filter_eq_nil_iff]
        intro y hy z
        rw [asy _ _ (h1 y hy)] at z
        cases z
      rw [irr, f]
      simp
    · have hx2 : x ∈ as := (List.mem_cons.mp hx).resolve_left e
      have ih := count_take (h := h) irr asy h2 hx2
      rw [h1 x hx2]
      simp only [e, false_or, if_true, List.length_cons]
      rw [ih]
      omega
/-- the numbers below n that a strict order puts ahead of i -/
def aheadN (lt : Nat → Nat → Bool) (n i : Nat) : Nat := ((List.range n).filter fun k => lt k i).length
theorem in_half {lt : Nat → Nat → Bool} (irr : ∀ a, lt a a = false) (tr : ∀ a b c, lt a b = true → lt b c = true → lt a c = true) (tot : ∀ a b, a ≠ b → lt a b = true ∨ lt b a = true) {le : Nat → Nat → Bool} (hle : ∀ a b, le a b = !lt b a) {n h i : Nat} (hi : i < n) :
    i ∈ ((List.range n).mergeSort le).take h ↔ aheadN lt n i < h := by
  have asy : ∀ a b, lt a b = true → lt b a = false := fun a b e => by
    cases q : lt b a with
    | false => rfl
    | true =>
      have z := tr a b a e q
      rw [irr] at z
      cases z
  have perm := List.mergeSort_perm (List.range n) le
  have nd : ((List.range n).mergeSort le).Nodup := perm.nodup_iff.mpr List.nodup_range
  have pw := List.pairwise_mergeSort (le := le) (fun a b c h1 h2 => by
    rw [hle] at h1 h2 ⊢
    simp only [Bool.not_eq_true'] at h1 h2 ⊢
    cases q : lt c a with
    | false => rfl
    | true =>
      by_cases e1 : a = b
      · subst e1
        rw [q] at h2
        cases h2
      · rcases tot a b e1 with z | z
        · rw [tr c a b q z] at h2
          cases h2
        · rw [h1] at z
          cases z) (fun a b => by
    rw [hle, hle]
    cases q : lt b a with
    | false => rfl
    | true => rw [asy _ _ q]; rfl) (List.range n)
  have ps : ((List.range n).mergeSort le).Pairwise (fun a b => lt a b = true) := by
    have both := pw.and nd
    refine both.imp fun {a b} ⟨h1, h2⟩ => ?_
    rw [hle] at h1
    simp only [Bool.not_eq_true'] at h1
    rcases tot a b h2 with z | z
    · exact z
    · rw [h1] at z
      cases z
  have hm : i ∈ (List.range n).mergeSort le := perm.mem_iff.mpr (List.mem_range.mpr hi)
  rw [count_take irr asy ps hm]
  unfold aheadN
  rw [(perm.filter _).length_eq]
/-! ### max of three -/
theorem call_max3 {X : Cx} (hc : X.calm = true) : CallR X (.builtin "max") (fun xs H Q => ∃ i j k, xs = [.int i, .int j, .int k] ∧ Q (.int (max (max i j) k)) H) := by
  intro pins s σ H xs us Q I r h
  obtain ⟨i, j, k, rfl, q⟩ := h
  obtain ⟨u, us2, rfl, r2⟩ : ∃ u us2, us = u :: us2 ∧ Vals [.int j, .int k] us2 ∧ RelV (.int i) u := by
    cases r with
    | cons a b => exact ⟨_, _, rfl, b, a⟩
  obtain ⟨v, w, rfl, ⟨t2, rfl⟩, ⟨t3, rfl⟩⟩ := vals2 r2.1
  obtain ⟨t1, rfl⟩ := r2.2
  refine max_three_ints (I.ok.hd hc) fun h' tk kp => ⟨_, H, I.kept kp, ?_, q⟩
  by_cases h1 : j > i <;> by_cases h2 : k > j <;> by_cases h3 : k > i <;> simp only [h1, h2, h3, if_true, if_false]
  all_goals first
    | (rw [show max (max i j) k = k by omega]; exact ⟨_, rfl⟩)
    | (rw [show max (max i j) k = j by omega]; exact ⟨_, rfl⟩)
    | (rw [show max (max i j) k = i by omega]; exact ⟨_, rfl⟩)
/-! ### marks that are ints, in their order -/
def ltI (ns : List Int) (a b : Nat) : Bool := decide (ns.getD a 0 < ns.getD b 0 ∨ (ns.getD a 0 = ns.getD b 0 ∧ a < b))
theorem ltI_irr (ns : List Int) (a : Nat) : ltI ns a a = false := decide_eq_false (by omega)
theorem ltI_tr (ns : List Int) (a b c : Nat) (h1 : ltI ns a b = true) (h2 : ltI ns b c = true) : ltI ns a c = true := by
  have h1 := of_decide_eq_true h1
  have h2 := of_decide_eq_true h2
  exact decide_eq_true (by omega)
theorem ltI_tot (ns : List Int) (a b : Nat) (h : a ≠ b) : ltI ns a b = true ∨ ltI ns b a = true := by
  by_cases q : ns.getD a 0 < ns.getD b 0 ∨ (ns.getD a 0 = ns.getD b 0 ∧ a < b)
  · exact .inl (decide_eq_true q)
  · exact .inr (decide_eq_true (by omega))
def keyI (ns : List Int) (b : Nat) : PyData := .tuple [.int (ns.getD b 0), .int (b : Int)]
theorem leI (ns : List Int) : PySem.W.dataLe false (keyI ns) = fun a b => !ltI ns b a := by
  have z := PySem.W.dataLe_ii (β := Nat) (fun b => ns.getD b 0) (fun b => (b : Int))
  have z2 : PySem.W.dataLe false (keyI ns) = fun p q => decide (ns.getD p 0 < ns.getD q 0 ∨ (ns.getD p 0 = ns.getD q 0 ∧ (p : Int) ≤ (q : Int))) := z
  rw [z2]
  funext p q
  unfold ltI
  by_cases h : ns.getD q 0 < ns.getD p 0 ∨ (ns.getD q 0 = ns.getD p 0 ∧ q < p)
  · rw [decide_eq_true h, decide_eq_false (by omega)]
    rfl
  · rw [decide_eq_false h, decide_eq_true (by omega)]
    rfl
/-- what halves_by tells of marks in a strict order -/
def halvesL (lt : Nat → Nat → Bool) (n : Nat) : List V := (List.range n).map fun i => V.int (if aheadN lt n i < n / 2 then 0 else 1)
theorem cut_half {ord : List Nat} {ms : List V} {n : Nat} (lo : ord.length = n) (lm : ms.length = n) : cutV (ord.map fun b : Nat => V.int (b : Int)) none (some ((ms.length : Int) / 2)) = (ord.take (n / 2)).map fun b : Nat => V.int (b : Int) := by
  have l1 : (ord.map fun b : Nat => V.int (b : Int)).length = n := by rw [List.length_map, lo]
  have e : HT.sIx n n (some ((n : Int) / 2)) = n / 2 := by
    rw [show (n : Int) / 2 = ((n / 2 : Nat) : Int) by omega, HT.sIx_nat]
    omega
  have e0 : HT.sIx n 0 none = 0 := rfl
  unfold cutV
  rw [lm, l1, e, e0, List.drop_zero, Nat.sub_zero, List.map_take]
theorem halvesL_at {lt : Nat → Nat → Bool} {n j : Nat} (h : j < n) : (halvesL lt n)[j]? = some (V.int (if aheadN lt n j < n / 2 then 0 else 1)) := by
  unfold halvesL
  rw [List.getElem?_map, List.getElem?_range h]
  rfl
end SL
set_option Elab.async false
set_option linter.all false
set_option maxRecDepth 100000
set_option maxHeartbeats 4000000
namespace WD
open PySem PySem.Spec PyProof.Rows L2 CM LamX
/-! ### texts as lists of signs -/
abbrev cs (z : Str) : List Nat := z.cps.toList
theorem len_cs (z : Str) : z.length = (cs z).length := (Array.length_toList).symm
theorem str_ext {a b : Str} (h : cs a = cs b) : a = b := by
  cases a with
  | mk x => cases b with
    | mk y => exact congrArg Str.mk (Array.toList_inj.mp h)
theorem cs_mk (l : List Nat) : cs ⟨l.toArray⟩ = l := rfl
theorem cs_one (c : Nat) : cs ⟨#[c]⟩ = [c] := rfl
theorem cs_add (a b : Str) : cs (a ++ b) = cs a ++ cs b := by
  show (a.cps ++ b.cps).toList = _
  rw [Array.toList_append]
/-- how many signs two rows share at their beginning -/
def cpl : List Nat → List Nat → Nat
  | a :: as, b :: bs => if a = b then cpl as bs + 1 else 0
  | _, _ => 0
theorem cpl_of : ∀ {a b : List Nat} {k : Nat}, k ≤ a.length → k ≤ b.length → a.take k = b.take k → (∀ x y, a[k]? = some x → b[k]? = some y → x ≠ y) → cpl a b = k
  | [], b, k, h1, _, _, _ => by
    have : k = 0 := by simpa using h1
    subst this
    cases b <;> rfl
  | a :: as, [], k, _, h2, _, _ => by
    have : k = 0 := by simpa using h2
    subst this
    rfl
  | a :: as, b :: bs, 0, _, _, _, hd => by
    show (if a = b then cpl as bs + 1 else 0) = 0
    rw [if_neg (hd a b rfl rfl)]
  | a :: as, b :: bs, k + 1, h1, h2, ht, hd => by
    rw [List.take_succ_cons, List.take_succ_cons] at ht
    have e1 := (List.cons.inj ht).1
    have e2 := (List.cons.inj ht).2
    show (if a = b then cpl as bs + 1 else 0) = k + 1
    rw [if_pos e1, cpl_of (by simpa using h1) (by simpa using h2) e2 (fun x y hx hy => hd x y (by simpa using hx) (by simpa using hy))]
/-- the longest text with which both begin -/
def com (a b : Str) : Str := ⟨((cs a).take (cpl (cs a) (cs b))).toArray⟩
theorem com_of {a b : Str} {k : Nat} (h1 : k ≤ (cs a).length) (h2 : k ≤ (cs b).length) (ht : (cs a).take k = (cs b).take k) (hd : ∀ x y, (cs a)[k]? = some x → (cs b)[k]? = some y → x ≠ y) {z : Str} (hz : cs z = (cs a).take k) : z = com a b := by
  refine str_ext ?_
  show cs z = (cs a).take (cpl (cs a) (cs b))
  rw [hz, cpl_of h1 h2 ht hd]
/-- b at the beginning of a -/
def isPre (b a : Str) : Bool := decide ((cs a).take (cs b).length = cs b)
theorem starts (a b : Str) : Txt.startswith a b = isPre b a := by
  unfold Txt.startswith isPre
  have e : (Builtin.Str.subAt a b 0) = decide ((cs a).take (cs b).length = cs b) := by
    unfold Builtin.Str.subAt
    rw [Nat.zero_add, len_cs b]
    have e1 : (a.cps.extract 0 (cs b).length).toList = (cs a).take (cs b).length := by simp
    by_cases h : (cs a).take (cs b).length = cs b
    · have e2 : a.cps.extract 0 (cs b).length = b.cps := Array.toList_inj.mp (e1.trans h)
      rw [e2, decide_eq_true h]
      simp
    · rw [decide_eq_false h]
      refine beq_eq_false_iff_ne.mpr fun e2 => h ?_
      rw [← e1, e2]
  rw [e, Nat.zero_add]
  by_cases h : (cs a).take (cs b).length = cs b
  · have l := congrArg List.length h
    rw [List.length_take] at l
    rw [decide_eq_true h, len_cs a, len_cs b, decide_eq_true (by omega)]
    rfl
  · rw [decide_eq_false h, Bool.and_false]
theorem isPre_long {a b : Str} (h : (cs a).length < (cs b).length) : isPre b a = false := by
  refine decide_eq_false fun e => ?_
  have l := congrArg List.length e
  rw [List.length_take] at l
  omega
/-- the places below j at which the two differ -/
def diffs (a b : List Nat) (j : Nat) : List Nat := (List.range j).filter fun k => !decide (a.getD k 0 = b.getD k 0)
theorem diffs_succ (a b : List Nat) (j : Nat) : diffs a b (j + 1) = if (!decide (a.getD j 0 = b.getD j 0)) = true then diffs a b j ++ [j] else diffs a b j := by
  unfold diffs
  rw [List.range_succ, List.filter_append]
  by_cases h : (!decide (a.getD j 0 = b.getD j 0)) = true
  · rw [if_pos h, List.filter_cons_of_pos (p := fun k => !decide (a.getD k 0 = b.getD k 0)) h]
    rfl
  · rw [if_neg h, List.filter_cons_of_neg (p := fun k => !decide (a.getD k 0 = b.getD k 0)) h]
    exact List.append_nil _
theorem diffs_nil {a b : List Nat} : ∀ {j : Nat}, j ≤ a.length → j ≤ b.length → ((diffs a b j).isEmpty = true ↔ a.take j = b.take j)
  | 0, _, _ => by simp [diffs]
  | j + 1, h1, h2 => by
    have ih := diffs_nil (a := a) (b := b) (j := j) (by omega) (by omega)
    unfold diffs at ih ⊢
    rw [List.range_succ, List.filter_append, List.take_add_one, List.take_add_one, List.getElem?_eq_getElem (show j < a.length by omega), List.getElem?_eq_getElem (show j < b.length by omega)]
    have g1 : a.getD j 0 = a[j] := by rw [List.getD_eq_getElem?_getD, List.getElem?_eq_getElem (show j < a.length by omega)]; rfl
    have g2 : b.getD j 0 = b[j] := by rw [List.getD_eq_getElem?_getD, List.getElem?_eq_getElem (show j < b.length by omega)]; rfl
    by_cases e : a[j] = b[j]
    · have f : [j].filter (fun k => !decide (a.getD k 0 = b.getD k 0)) = [] := by
        rw [List.filter_cons_of_neg (by rw [g1, g2, e]; simp)]
        rfl
      rw [f, List.append_nil, ih, e]
      exact ⟨fun z => by rw [z], fun z => (List.append_inj' z rfl).1⟩
    · have f : [j].filter (fun k => !decide (a.getD k 0 = b.getD k 0)) = [j] := by
        rw [List.filter_cons_of_pos (by rw [g1, g2]; simp [e])]
        rfl
      rw [f]
      constructor
      · intro z
        simp at z
      · intro z
        have l : (a.take j).length = (b.take j).length := by rw [List.length_take, List.length_take]; omega
        have z2 := (List.append_inj z l).2
        exact absurd (by simpa using z2) e
theorem diffs_pre {a b : Str} (h : (cs b).length ≤ (cs a).length) : (diffs (cs a) (cs b) (cs b).length).isEmpty = isPre b a := by
  have z := diffs_nil (a := cs a) (b := cs b) h (Nat.le_refl _)
  rw [List.take_length] at z
  unfold isPre
  cases e : (diffs (cs a) (cs b) (cs b).length).isEmpty with
  | true => rw [decide_eq_true (z.mp e)]
  | false => rw [decide_eq_false fun q => by rw [z.mpr q] at e; cases e]
/-! ### marks that are texts, in their order -/
def ltS (zs : List Str) (a b : Nat) : Bool := decide (cs (zs.getD a Str.empty) < cs (zs.getD b Str.empty) ∨ (cs (zs.getD a Str.empty) = cs (zs.getD b Str.empty) ∧ a < b))
theorem ltS_irr (zs : List Str) (a : Nat) : ltS zs a a = false := decide_eq_false fun h => by
  rcases h with h | ⟨_, h⟩
  · exact absurd h (List.lt_irrefl _)
  · omega
theorem ltS_tr (zs : List Str) (a b c : Nat) (h1 : ltS zs a b = true) (h2 : ltS zs b c = true) : ltS zs a c = true := by
  have h1 := of_decide_eq_true h1
  have h2 := of_decide_eq_true h2
  refine decide_eq_true ?_
  rcases h1 with h1 | ⟨h1, l1⟩
  · rcases h2 with h2 | ⟨h2, l2⟩
    · exact .inl (List.lt_trans h1 h2)
    · exact .inl (by rw [← h2]; exact h1)
  · rcases h2 with h2 | ⟨h2, l2⟩
    · exact .inl (by rw [h1]; exact h2)
    · exact .inr ⟨h1.trans h2, by omega⟩
theorem ltS_tot (zs : List Str) (a b : Nat) (h : a ≠ b) : ltS zs a b = true ∨ ltS zs b a = true := by
  unfold ltS
  generalize cs (zs.getD a Str.empty) = x
  generalize cs (zs.getD b Str.empty) = y
  by_cases e : x = y
  · by_cases l : a < b
    · exact .inl (decide_eq_true (.inr ⟨e, l⟩))
    · exact .inr (decide_eq_true (.inr ⟨e.symm, by omega⟩))
  · by_cases l : x < y
    · exact .inl (decide_eq_true (.inl l))
    · exact .inr (decide_eq_true (.inl (by
        have l2 : y ≤ x := List.not_lt.mp l
        rcases List.le_iff_lt_or_eq.mp l2 with z | z
        · exact z
        · exact absurd z.symm e)))
def keyS (zs : List Str) (b : Nat) : PyData := .tuple [.str (zs.getD b Str.empty), .int (b : Int)]
theorem dataLt_si (x : Str) (i : Int) (y : Str) (j : Int) : PySem.W.dataLt (.tuple [.str x, .int i]) (.tuple [.str y, .int j]) = decide (cs x < cs y ∨ (cs x = cs y ∧ i < j)) := by
  rw [PySem.W.dataLt_pair (by simp [PySem.W.alike]) (by simp [PySem.W.alike]), PySem.W.dataLt_int, PySem.W.dataLt_str]
  by_cases e : x = y
  · subst e
    have n : ¬ cs x < cs x := List.lt_irrefl _
    rw [if_pos (show PyData.eqv (.str x) (.str x) = true by simp [PyData.eqv])]
    by_cases e2 : i = j
    · rw [if_pos (show PyData.eqv (.int i) (.int j) = true by simp [PyData.eqv, e2])]
      exact (decide_eq_false fun h => h.elim n fun z => by omega).symm
    · rw [if_neg (show ¬ PyData.eqv (.int i) (.int j) = true by simp [PyData.eqv, e2])]
      exact decide_eq_decide.mpr ⟨fun h => .inr ⟨rfl, h⟩, fun h => h.elim (fun z => absurd z n) fun z => z.2⟩
  · have e3 : ¬ cs x = cs y := fun z => e (str_ext z)
    rw [if_neg (show ¬ PyData.eqv (.str x) (.str y) = true by simp [PyData.eqv, e])]
    exact decide_eq_decide.mpr ⟨.inl, fun h => h.elim id fun z => absurd z.1 e3⟩
theorem leS (zs : List Str) : PySem.W.dataLe false (keyS zs) = fun a b => !ltS zs b a := by
  rw [PySem.W.dataLe_eq]
  funext a b
  show (!PySem.W.dataLt (keyS zs b) (keyS zs a)) = _
  unfold keyS ltS
  rw [dataLt_si]
  refine congrArg (fun q : Bool => !q) (decide_eq_decide.mpr ⟨fun h => ?_, fun h => ?_⟩)
  · exact h.imp id fun z => ⟨z.1, by omega⟩
  · exact h.imp id fun z => ⟨z.1, by omega⟩
/-! ### (text, int) < (text, int) -/
def rLtSI (K : PySem.W.Frag) : R2 := fun x y H Q => ∃ (a b : Addr) (z w : Str) (i j : Int), x = .ref a ∧ y = .ref b ∧ SqT K H a [.str z, .int i] ∧ SqT K H b [.str w, .int j] ∧ Q (.bl (decide (cs z < cs w ∨ (cs z = cs w ∧ i < j)))) H
theorem op_ltSI {X : Cx} {K : PySem.W.Frag} (hu : X.A.units + 64 < cLine) (hK : X.K = K := by rfl) : OpR X (compareOp .Lt) (rLtSI K) := by
  subst hK
  intro pins s σ H x y v u Q I rx ry h
  obtain ⟨a, b, z, w, i, j, rfl, rfl, ha, hb, q⟩ := h
  cases rx
  cases ry
  obtain ⟨us, r1, p1, _⟩ := I.tuple ha
  obtain ⟨ws, r2, p2, _⟩ := I.tuple hb
  have rd : ∀ {c : Addr} {us : List Value} {z : Str} {i : Int}, Vals [V.str z, V.int i] us → IsTup s.heap c us.toArray → Reads s.heap (.ref c) (.tuple [.str z, .int i]) [] := fun {c us z i} r p => by
    obtain ⟨u1, u2, rfl, ⟨t1, rfl⟩, ⟨t2, rfl⟩⟩ := vals2 r
    obtain ⟨o, h1, h2, n, h3⟩ := p
    exact Reads.tuple (as := [] ++ ([] ++ [])) h1 h2 h3 (.cons (.str z t1) (.cons (.int i t2) .nil))
  have e := PySem.W.rcLt_alike (.tuple [.str z, .int i]) (.tuple [.str w, .int j]) X.A s (.ref a) (.ref b) [] [] (rd r1 p1) (rd r2 p2) (by simp [PySem.W.alike, PySem.W.alikeAll]) (fun z => by cases z) (by
    have : min (PyData.tuple [.str z, .int i]).depth (PyData.tuple [.str w, .int j]).depth ≤ 64 := Nat.le_trans (Nat.min_le_left _ _) (by show 1 ≤ 64; decide)
    omega)
  rw [dataLt_si] at e
  exact e X.prog X.w X.xe _ ⟨.bl _, H, I, rfl, q⟩
/-! ### a == [] of a list -/
def rEqNilL (K : PySem.W.Frag) : R2 := fun x y H Q => ∃ (a b : Addr) (xs : List V), x = .ref a ∧ y = .ref b ∧ SqL K H a xs ∧ SqL K H b [] ∧ Q (.bl xs.isEmpty) H
theorem op_eqNilL {X : Cx} {K : PySem.W.Frag} (hu : X.A.units + 64 < cLine) (hK : X.K = K := by rfl) : OpR X (compareOp .Eq) (rEqNilL K) := by
  subst hK
  intro pns s σ H x y v u Q I rx ry h
  obtain ⟨a, b, xs, rfl, rfl, ha, hb, q⟩ := h
  cases (show v = Value.ref a from rx)
  cases (show u = Value.ref b from ry)
  obtain ⟨us, r1, p1, _⟩ := I.list ha
  obtain ⟨ws, r2, p2, _⟩ := I.list hb
  cases r2
  cases r1 with
  | nil =>
    exact SeqAt.eq_listAt (e := fun _ => true) p1.isList p2.isList rfl (by omega) (fun j h1 h2 => absurd h2 (by simp)) ⟨.bl true, H, I, rfl, q⟩
  | cons a1 b1 => exact SeqAt.eq_list_lengthsAt p1.isList p2.isList (by simp) (by omega) ⟨.bl false, H, I, rfl, q⟩
end WD
set_option Elab.async false
set_option linter.all false
set_option maxRecDepth 100000
set_option maxHeartbeats 4000000
namespace GD
open PySem PySem.Spec PyProof.Rows L2 CM LamX
/-! ### promises of defs that are called where no repr runs -/
structure FnG (P : Program) (w : World) (K : PySem.W.Frag) (mg : Str → Option Value) (base : Heap) (CX : CXT) (k : Nat) (f : Addr) (fd : FuncData) (ps : List Str) (sp : Sp) : Prop where
  len : ∀ vs H Q E, sp vs H Q E → vs.length = ps.length
  run : ∀ (A : Around) (outer : List Env) (s : Shared) (H : Hp) (args : Args) (us : List Value) (vs : List V) (Q : VK) (E : XK), Room k A → A.guards = some [] → Env0 P w K mg base A outer s H →
    BindsTo s fd args (ps.zip us) → Vals vs us → sp vs H Q E → codeAny (model P w) A (.call (.ref f) args) (CR CX outer P w H s Q E) s
section
variable {P : Program} {w : World} {K : PySem.W.Frag} {mg : Str → Option Value} {base : Heap} {CX : CXT} {k j : Nat} {f : Addr} {fd : FuncData} {ps : List Str} {sp : Sp}
theorem FnG.of (F : FnOk P w K mg base CX k f fd ps sp) : FnG P w K mg base CX k f fd ps sp := ⟨F.len, fun A outer s H args us vs Q E hr _ => F.run A outer s H args us vs Q E hr⟩
theorem FnG.mono (F : FnG P w K mg base CX j f fd ps sp) (h : j ≤ k) : FnG P w K mg base CX k f fd ps sp := ⟨F.len, fun A outer s H args us vs Q E hr => F.run A outer s H args us vs Q E (hr.mono h)⟩
variable {x qual : Str} {params : Arguments} {body : List Stmt} {scope : Scope} {dvs : List V} {kws : List (Str × V)}
theorem okG {N : List Str} (F : FunD K x qual params body scope dvs kws f fd) (S : FnScope N ps scope) (len : ∀ vs H Q E, sp vs H Q E → vs.length = ps.length)
    (hbody : ∀ (cdv : Value) (A : Around) (outer : List Env) (s : Shared) (H : Hp) (vs : List V) (Q : VK) (E : XK), Room k (A.deeper (envOfC qual scope s.heap.objs.size f cdv)) → A.guards = some [] → sp vs H Q E →
      ∃ t, PSs (cxOf CX P w K mg base N qual scope f cdv A outer s H E) body t ∧ t { nx := fun _ H' => Q .non H', rt := Q } (start N vs) H) : FnG P w K mg base CX (k + 1) f fd ps sp := by
  obtain ⟨oc, od, dV, kV, doc, pm, an, cdv, ct, osl, hfd, lk, hcd, _, _⟩ := F.ex
  subst hfd
  refine ⟨len, fun A outer s0 H args us vs Q E room gd e0 bt rv asked => ?_⟩
  have old : ∀ b o, base.get? b = some o → s0.heap.get? b = some o := fun b o e => (e0.bs b o e).1
  refine codeAny_call_function room.depth (e0.mod.kin.keeps old _ _ lk) rfl S.co S.gen rfl (PySem.W.codeRec_of (e0.mod.kin.keeps old) hcd) (bt _ _ _ _ (wpAny_newFunctionEnv_cells S.kind (fun y hy => ?_) fun env he t x => ?_))
  · exact (S.par y.1 (List.of_mem_zip (show (y.1, y.2) ∈ ps.zip us from hy)).1).elim .inl fun q => .inr ⟨q, PySem.W.cellsFrom_some _ _ _ (.inl q)⟩
  · subst he
    obtain ⟨tt, ht, rd⟩ := hbody cdv A outer s0 H vs Q E (room.deeper _) gd asked
    have J : Inv (cxOf CX P w K mg base N qual scope f cdv A outer s0 H E) [] (start N vs) H t := inv_start S room.hd e0 (len _ _ _ _ asked) rv x
    refine ⟨(e0.mod.nolimit.keeps old).keeps x.toInCall.keep, codeAny_func (wpAny_mono (ht.run [] t (start N vs) H _ J rd) (fun fl t2 got => ?_) fun _ _ got => got)⟩
    cases fl with
    | ret u => obtain ⟨v, σ2, H2, J2, r2, q2⟩ := got; exact ⟨v, H2, J2.os, J2.bare, J2.base, J2.hok, r2, q2⟩
    | next => obtain ⟨σ2, H2, J2, q2⟩ := got; exact ⟨V.non, H2, J2.os, J2.bare, J2.base, J2.hok, rfl, q2⟩
    | brk =>
      obtain ⟨_, _, _, z⟩ := got
      exact False.elim z
    | cont =>
      obtain ⟨_, _, _, z⟩ := got
      exact False.elim z
end
/-! ### calls of such defs -/
section
variable {X : Cx} {CX : CXT} {k : Nat} {f : Addr} {fd : FuncData} {ps : List Str} {sp : Sp} {dvs : List V} {ds : List Value} {E : XK} {x : Str} {e : Expr} {es : List Expr} {t : TA} {p pos : Pos}
theorem run_fnG {pins : List (Addr × Obj)} {σ : L2.St} {H : Hp} {s : Shared} {Q : VK} {us : List Value} {vs : List V} (F : FnG X.prog X.w X.K X.mg X.base CX k f fd ps sp) (hr : Room k X.A) (gd : X.A.guards = some []) (hb : Binds X.K fd ps ds) (hd : Vals dvs ds) (hx : Passes CX X E)
    (I : Inv X pins σ H s) (r : Vals vs us) (h : sp (vs ++ dvs) H Q E) : wpAny (model X.prog X.w) X.A (call (.ref f) us) (EP X pins σ Q) X.xe s := by
  have rr := r.append hd
  refine wpAny_call (codeAny_mono (F.run X.A X.stack s H ⟨us, []⟩ (us ++ ds) (vs ++ dvs) Q E hr gd I.env0 (hb s us I.kIn (rr.length.symm.trans (F.len _ _ _ _ h))) rr h) fun res s2 got => ?_)
  match res, got with
  | .error er, got => exact hx pins σ H s er s2 I got
  | .ok (.ret u), got => exact I.after got
  | .ok .next, got => exact False.elim got
  | .ok .brk, got => exact False.elim got
  | .ok .cont, got => exact False.elim got
theorem pe_callG (F : FnG X.prog X.w X.K X.mg X.base CX k f fd ps sp) (hr : Room k X.A) (gd : X.A.guards = some []) (hg : Gl X x) (hm : X.mg x = some (.ref f)) (hk : PySem.W.keepIn X.K (.ref f) = true) (hb : Binds X.K fd ps ds) (hd : Vals dvs ds) (hx : Passes CX X E)
    (ha : PA X (e :: es) t) (hdb : (x == ("__debug__" : Str)) = false := by decide) (he : starEach (e :: es) X.env = (false, eval e X.env) :: starEach es X.env := by rfl) (hpl : (backTo pos (starEach es X.env)).any (·.1) = false := by rfl) :
    PE X (.Call (.Name x p) (e :: es) [] pos) (tCall sp dvs E t) :=
  ⟨fun pins s σ H Q I h => wpAny_Call_Name_kw (ld_glob I hg hm (PySem.W.callWith_K (h₀ := X.base) I.ok.mod.kin hk (thn (ha.run pos pins s σ H _ I h) fun us s1 ⟨vs, H1, I1, r, q⟩ => ⟨I1.kIn, run_fnG F hr gd hb hd hx I1 r q⟩) he hpl) hdb)⟩
theorem pe_callG0 (F : FnG X.prog X.w X.K X.mg X.base CX k f fd ps sp) (hr : Room k X.A) (gd : X.A.guards = some []) (hg : Gl X x) (hm : X.mg x = some (.ref f)) (hk : PySem.W.keepIn X.K (.ref f) = true) (hb : Binds X.K fd ps ds) (hd : Vals dvs ds) (hx : Passes CX X E)
    (hdb : (x == ("__debug__" : Str)) = false := by decide) : PE X (.Call (.Name x p) [] [] pos) (tCall sp dvs E tNil) :=
  ⟨fun pins s σ H Q I h => wpAny_Call_Name_kw (ld_glob I hg hm (PySem.W.callWith_K0 I.kIn hk (run_fnG (us := []) F hr gd hb hd hx I .nil h)) hdb)⟩
end
/-- such a def of the text, by the module's name of it -/
structure CalG (P : Program) (w : World) (K : PySem.W.Frag) (mg : Str → Option Value) (base : Heap) (CX : CXT) (x : Str) (k : Nat) (ps : List Str) (sp : Sp) : Prop where
  ex : ∃ (f : Addr) (fd : FuncData), FnG P w K mg base CX k f fd ps sp ∧ Binds K fd ps [] ∧ mg x = some (.ref f) ∧ PySem.W.keepIn K (.ref f) = true
/-! ### the end -/
section
variable {P : Program} {w : World} {K : PySem.W.Frag} {mg mb : Str → Option Value} {CX : CXT} {k : Nat} {fa a : Addr} {cs : List (Addr × Addr)} {fd : FuncData} {x : Str} {sp : Sp} {g : Shared} {vs : List Value} {ns : List Int}
/-- what is tracked when the law is called: the script, unless it is written, and the tables -/
def H0 (K : PySem.W.Frag) (a : Addr) (ob : Obj) (xs : List V) (T : List Addr) : Hp := fun b => if b ∈ T then some (.tbl #[]) else if b = a ∧ K.lookup a = none then some (.frz ob (.lst xs)) else none
theorem H0_cases {ob : Obj} {xs : List V} {T : List Addr} {b : Addr} {u : HO} (e : H0 K a ob xs T b = some u) : (b ∈ T ∧ u = .tbl #[]) ∨ (b ∉ T ∧ b = a ∧ K.lookup a = none ∧ u = .frz ob (.lst xs)) := by
  unfold H0 at e
  by_cases h : b ∈ T
  · rw [if_pos h] at e
    exact .inl ⟨h, (Option.some.inj e).symm⟩
  · rw [if_neg h] at e
    by_cases h2 : b = a ∧ K.lookup a = none
    · rw [if_pos h2] at e
      exact .inr ⟨h, h2.1, h2.2, (Option.some.inj e).symm⟩
    · rw [if_neg h2] at e
      cases e
theorem law_callG (KX : K.In g.heap) (hns : g.heap.Ns mainGlobals mg) (hb : g.heap.Ns builtinsNs mb) (hbb : ∀ y : Str, y ≠ "__name__" → mb y = bootBuiltins y) (lim : g.heap.NoLimit) (gens : g.gens = #[])
    (hT : ∀ p ∈ cs, g.heap.get? p.2 = some { cls := .none, data := .fields #[] }) (nT : ∀ p ∈ cs, K.lookup p.2 = none) (hC : ∀ p ∈ cs, PySem.W.CodeHd g.heap p.1 p.2)
    (bm : ∃ (bm : Addr) (ob : Obj), mg "__builtins__" = some (.ref bm) ∧ bm ≠ builtinsNs ∧ g.heap.get? bm = some ob ∧ ob.cls = .type "module" ∧ ob.dict = some builtinsNs ∧ ob.data = .plain)
    (ha : g.heap.get? a = some { cls := .type "list", data := .seq vs.toArray }) (hi : IntsAre vs ns) (hl : ns.length ≤ sizeLine) (room : Room k callerA)
    (F : ∀ base : Heap, K.In base → base.Ns mainGlobals mg → (∀ p ∈ cs, TabB base mg p.1 p.2) → FnG P w K mg base CX k fa fd [x] sp) (bind : ∀ (s : Shared) (u : Value), BindsTo s fd ⟨[u], []⟩ [(x, u)])
    (asked : ∀ H : Hp, (∀ p ∈ cs, H p.2 = some (.tbl #[])) → SqL K H a (ns.map V.int) → sp [.ref a] H (fun v _ => v = .bl true) fun _ _ _ => False)
    (noX : ∀ H e s2, CX [] H g (fun _ _ _ => False) e s2 → False) :
    codeAny (model P w) callerA (.call (.ref fa) ⟨[.ref a], []⟩) (fun r s2 => r = .ok (.ret (.bool true)) ∧ OldK g.heap s2.heap ∧ s2.os = g.os ∧ AllBare s2.gens) g := by
  have rv := vals_ints hi
  have lv := hi.length
  generalize hTs : cs.map (·.2) = T
  have tabAt : ∀ b ∈ T, g.heap.get? b = some { cls := .none, data := .fields #[] } ∧ K.lookup b = none := fun b m => by
    rw [← hTs] at m
    obtain ⟨p, hp, rfl⟩ := List.mem_map.mp m
    exact ⟨hT p hp, nT p hp⟩
  have inT : ∀ p ∈ cs, p.2 ∈ T := fun p hp => hTs ▸ List.mem_map.mpr ⟨p, hp, rfl⟩
  have aT : a ∉ T := fun m => by
    have z := (tabAt a m).1
    rw [ha] at z
    cases z
  generalize hH : H0 K a { cls := .type "list", data := .seq vs.toArray } (ns.map V.int) T = H
  have cse : ∀ {b : Addr} {u : HO}, H b = some u → (b ∈ T ∧ u = .tbl #[]) ∨ (b ∉ T ∧ b = a ∧ K.lookup a = none ∧ u = .frz { cls := .type "list", data := .seq vs.toArray } (.lst (ns.map V.int))) := fun e => H0_cases (by rw [hH]; exact e)
  have tbl : ∀ p ∈ cs, H p.2 = some (.tbl #[]) := fun p hp => by
    rw [← hH]
    exact if_pos (inT p hp)
  have lsz : (ns.map V.int).length ≤ sizeLine := by rw [List.length_map]; exact hl
  have ok : HOk P w H g.heap := fun b u e => by
    rcases cse e with ⟨m, rfl⟩ | ⟨_, rfl, _, rfl⟩
    · exact (tabAt b m).1
    · exact ⟨ha, lsz, vs, _, rv, ha⟩
  have sq : SqL K H a (ns.map V.int) := by
    cases kl : K.lookup a with
    | none =>
      refine .inl (.inr ⟨{ cls := .type "list", data := .seq vs.toArray }, ?_⟩)
      rw [← hH]
      exact (if_neg aT).trans (if_pos ⟨rfl, kl⟩)
    | some o =>
      have z := KX a o kl
      rw [ha] at z
      cases z
      exact .inr ⟨_, vs.toArray, _, kl, rfl, rfl, rfl, by rw [List.size_toArray, lv]; exact hl, by simpa using rv⟩
  -- what is neither a table nor the script stands in the base
  have un : ∀ {b : Addr} {o : Obj}, g.heap.get? b = some o → (∀ its n, o.data ≠ .seq its n) → o.data ≠ .fields #[] → H b = none := fun {b o} e n1 n2 => by
    cases q : H b with
    | none => rfl
    | some u =>
      rcases cse q with ⟨m, _⟩ | ⟨_, rfl, _, _⟩
      · rw [(tabAt b m).1] at e
        cases e
        exact absurd rfl n2
      · rw [ha] at e
        cases e
        exact absurd rfl (n1 _ _)
  have unD : ∀ {b : Addr} {o : Obj} {es : Array DictEntry} {ep : Nat}, g.heap.get? b = some o → o.data = .dict es ep → H b = none := fun e d => un e (fun its n z => by rw [d] at z; cases z) fun z => by rw [d] at z; cases z
  have nsB : ∀ {b : Addr} {m : Str → Option Value}, g.heap.Ns b m → (hidT g.heap H).Ns b m := fun ⟨o, es, ep, e, d, r⟩ => ⟨o, es, ep, hidT_get e (unD e d), d, r⟩
  have kB : K.In (hidT g.heap H) := fun b o e => hidT_get (KX b o e) (by
    cases q : H b with
    | none => rfl
    | some u =>
      rcases cse q with ⟨m, _⟩ | ⟨_, rfl, z, _⟩
      · rw [(tabAt b m).2] at e
        cases e
      · rw [z] at e
        cases e)
  have md : L2.Mod K mg (hidT g.heap H) := ⟨kB, nsB hns, ⟨mb, nsB hb, hbb⟩, by
    obtain ⟨mc, h1, h2⟩ := lim
    exact ⟨mc, nsB h1, h2⟩⟩
  have tb : ∀ p ∈ cs, TabB (hidT g.heap H) mg p.1 p.2 := fun p hp => by
    have tp := hT p hp
    have gG : mainGlobals ≠ p.2 := fun z => by
      obtain ⟨o, es, ep, e, d, _⟩ := hns
      rw [z, tp] at e
      cases e
      cases d
    refine ⟨?_, ?_, gG⟩
    · obtain ⟨o, us, file, tf, flags, tg, inF, text, tt, e1, r1, r2, r3, r4, r5, r6, r7, r8, ne⟩ := hC p hp
      have e2 : H p.1 = none := un e1 (fun its n z => by rw [r2] at z; cases z) fun z => by
        rw [r2] at z
        cases z
        simp at r3
      exact ⟨o, us, file, tf, flags, tg, inF, text, tt, hidT_get e1 e2, r1, r2, r3, r4, r5, r6, r7, r8, ne⟩
    · obtain ⟨bmA, ob, b1, b2, b3, b4, b5, b6⟩ := bm
      have nG : bmA ≠ mainGlobals := fun z => by
        obtain ⟨o, es, ep, e, d, _⟩ := hns
        rw [z, e] at b3
        cases b3
        rw [d] at b6
        cases b6
      have nP : bmA ≠ p.2 := fun z => by
        rw [z, tp] at b3
        cases b3
        cases b6
      exact ⟨bmA, ob, b1, b2, nG, nP, hidT_get b3 (un b3 (fun its n z => by rw [b6] at z; cases z) fun z => by rw [b6] at z; cases z), b4, b5, b6⟩
  have en : Env0 P w K mg (hidT g.heap H) callerA [] g H := ⟨rfl, md, fun b o e => of_hidT e, Nat.le_of_eq (hidT_size _ _), trivial, fun b m => absurd (show b ∈ ([] : List Addr) from m) (by simp), ok, .of_eq gens⟩
  refine codeAny_mono ((F _ kB (nsB hns) tb).run callerA [] g H ⟨[.ref a], []⟩ [.ref a] [.ref a] _ _ room rfl en (bind g (.ref a)) (.cons rfl .nil) (asked H tbl sq)) fun res s2 got => ?_
  match res, got with
  | .error er, got => exact (noX H er s2 got).elim
  | .ok .next, got => exact False.elim got
  | .ok .brk, got => exact False.elim got
  | .ok .cont, got => exact False.elim got
  | .ok (.ret u), ⟨v, H2, os, bare, kept, ok2, ru, (q : v = .bl true)⟩ =>
    subst q
    obtain rfl : u = Value.bool true := ru
    have key : ∀ b o, b ∉ T → g.heap.get? b = some o → s2.heap.get? b = some o := fun b o nb e => by
      cases q : H b with
      | none => exact kept.keep b o e q (fun m => absurd (show b ∈ ([] : List Addr) from m) (by simp)) (by simp)
      | some u =>
        rcases cse q with ⟨m, _⟩ | ⟨_, rfl, _, rfl⟩
        · exact absurd m nb
        · obtain ⟨z, _⟩ := ok2 b _ (kept.frzs b _ _ q)
          rw [ha] at e
          cases e
          exact z
    refine ⟨rfl, ⟨fun b o e => ?_, fun b o e => ?_⟩, os, bare⟩
    · by_cases m : b ∈ T
      · rw [← hTs] at m
        obtain ⟨p, hp, rfl⟩ := List.mem_map.mp m
        obtain ⟨more, z⟩ := kept.tbls p.2 #[] (tbl p hp)
        rw [hT p hp] at e
        cases e
        exact .inr (.inl ⟨((hC p hp).tab (hT p hp)).isCodeTable, rfl, #[], more, rfl, ok2 p.2 _ z⟩)
      · exact .inl (key b o m e)
    · by_cases m : b ∈ T
      · rw [← hTs] at m
        obtain ⟨p, hp, rfl⟩ := List.mem_map.mp m
        obtain ⟨more, z⟩ := kept.tbls p.2 #[] (tbl p hp)
        exact ⟨_, ok2 p.2 _ z⟩
      · exact ⟨o, key b o m e⟩
end
/-- a law by the promise of its def -/
def LawG (l : PySem.W.OpenLaw) (w : World) (K : PySem.W.Frag) (CX : CXT) (k n : Nat) (x : Str) (mg : Str → Option Value) (fa : Addr) (h : Heap) : Prop :=
  ∃ (fd : FuncData) (cs : List (Addr × Addr)) (sp : Sp), (∀ p ∈ cs, h.get? p.2 = some { cls := .none, data := .fields #[] } ∧ K.lookup p.2 = none ∧ PySem.W.CodeHd h p.1 p.2) ∧ (∀ (s : Shared) (u : Value), BindsTo s fd ⟨[u], []⟩ [(x, u)]) ∧
    (∀ (H : Hp) (a : Addr) (ns : List Int), ns.length ≤ n → (∀ p ∈ cs, H p.2 = some (.tbl #[])) → SqL K H a (ns.map V.int) → sp [.ref a] H (fun v _ => v = .bl true) fun _ _ _ => False) ∧
    ∀ base : Heap, K.In base → base.Ns mainGlobals mg → (∀ p ∈ cs, TabB base mg p.1 p.2) → FnG l.prog w K mg base CX k fa fd [x] sp
theorem walk_G {l : PySem.W.OpenLaw} {n k : Nat} {q : Program} {loose : List Str} {XP : (Str → Option Value) → Heap → Prop} {YP : World → Heap → Prop} {d : DefRec} {CX : World → CXT} {x : Str}
    (most : l.most = some n) (n2 : n ≤ sizeLine) (plain : d.params.defaults = []) (room : Room k callerA)
    (F : ∀ (w : World) (mg : Str → Option Value) (fa : Addr) (h : Heap), YP w h → h.Ns mainGlobals mg → mg d.name = some (.ref fa) → ∃ K : PySem.W.Frag, K.In h ∧ LawG l w K (CX w) k n x mg fa h)
    (noX : ∀ (w : World) (H : Hp) (s : Shared) (e : Value) (s2 : Shared), CX w [] H s (fun _ _ _ => False) e s2 → False) :
    PySem.W.WalkO q loose XP YP l.row.toRowW d [] (fun f vs => PySem.call f vs) := by
  refine Att.attach_callB most plain fun w s0 g mg mb fa o pm cd doc a vs ns G Y ho hd hcd hmg hobj hints hlen hbits hg => ?_
  obtain ⟨K, KX, fd, cs, sp, hT, hb, asked, hF⟩ := F w mg fa _ Y G.T.g hmg
  exact law_callG KX G.T.g G.T.b G.T.builtins G.T.nolimit hg (fun p hp => (hT p hp).1) (fun p hp => (hT p hp).2.1) (fun p hp => (hT p hp).2.2) G.T.bmain hobj hints (Nat.le_trans hlen n2) room hF hb (fun H hH hS => asked H a ns hlen hH hS) fun H e s2 => noX w H g e s2
end GD
set_option Elab.async false
set_option linter.all false
set_option maxRecDepth 100000
set_option maxHeartbeats 4000000
namespace RZ
open PySem PySem.Spec PyProof.Rows L2 CM LamX
/-! ### what a value shows -/
mutual
inductive Shw (H : Hp) : V → PyData → Prop
  | non : Shw H .non .none
  | bl (b : Bool) : Shw H (.bl b) (.bool b)
  | int (i : Int) : Shw H (.int i) (.int i)
  | str (z : Str) : Shw H (.str z) (.str z)
  | lst {a : Addr} {xs : List V} {ds : List PyData} : H a = some (.lst xs) → ShwAll H xs ds → Shw H (.ref a) (.list ds)
  | tup {a : Addr} {xs : List V} {ds : List PyData} : H a = some (.tup xs) → ShwAll H xs ds → Shw H (.ref a) (.tuple ds)
inductive ShwAll (H : Hp) : List V → List PyData → Prop
  | nil : ShwAll H [] []
  | cons {v : V} {vs : List V} {d : PyData} {ds : List PyData} : Shw H v d → ShwAll H vs ds → ShwAll H (v :: vs) (d :: ds)
end
mutual
theorem Shw.noDict {H : Hp} : ∀ {v : V} {d : PyData}, Shw H v d → d.hasDict = false
  | _, _, .non => by simp only [PyData.hasDict]
  | _, _, .bl _ => by simp only [PyData.hasDict]
  | _, _, .int _ => by simp only [PyData.hasDict]
  | _, _, .str _ => by simp only [PyData.hasDict]
  | _, _, .lst _ h => by
    simp only [PyData.hasDict]
    exact h.noDict
  | _, _, .tup _ h => by
    simp only [PyData.hasDict]
    exact h.noDict
theorem ShwAll.noDict {H : Hp} : ∀ {vs : List V} {ds : List PyData}, ShwAll H vs ds → PyData.hasDictAll ds = false
  | _, _, .nil => by simp only [PyData.hasDictAll]
  | _, _, .cons h t => by simp only [PyData.hasDictAll, h.noDict, t.noDict, Bool.or_self]
end
mutual
theorem Shw.reads {P : Program} {w : World} {H : Hp} {h : Heap} (ok : HOk P w H h) : ∀ {v : V} {d : PyData}, Shw H v d → ∀ {u : Value}, RelV v u → ∃ as, Reads h u d as
  | _, _, .non, u, r => by
    obtain rfl : u = Value.none := r
    exact ⟨_, .none⟩
  | _, _, .bl b, u, r => by
    obtain rfl : u = Value.bool b := r
    exact ⟨_, .bool b⟩
  | _, _, .int i, u, r => by
    obtain ⟨t, rfl⟩ := r
    exact ⟨_, .int i t⟩
  | _, _, .str z, u, r => by
    obtain ⟨t, rfl⟩ := r
    exact ⟨_, .str z t⟩
  | _, _, .lst (a := a) e hs, u, r => by
    obtain rfl : u = Value.ref a := r
    obtain ⟨_, its, n, rv, g⟩ := (show ObjOk P w H h a (.lst _) from ok a _ e)
    obtain ⟨as, ra⟩ := hs.reads ok rv
    exact ⟨_, .list g rfl rfl (by simpa using ra)⟩
  | _, _, .tup (a := a) e hs, u, r => by
    obtain rfl : u = Value.ref a := r
    obtain ⟨_, its, rv, o, g, hc, n, hd⟩ := (show ObjOk P w H h a (.tup _) from ok a _ e)
    obtain ⟨as, ra⟩ := hs.reads ok rv
    exact ⟨_, .tuple g hc hd (by simpa using ra)⟩
theorem ShwAll.reads {P : Program} {w : World} {H : Hp} {h : Heap} (ok : HOk P w H h) : ∀ {vs : List V} {ds : List PyData}, ShwAll H vs ds → ∀ {us : List Value}, Vals vs us → ∃ as, ReadsAll h us ds as
  | _, _, .nil, _, .nil => ⟨_, .nil⟩
  | _, _, .cons h1 t1, _, .cons r1 r2 => by
    obtain ⟨a1, e1⟩ := h1.reads ok r1
    obtain ⟨a2, e2⟩ := t1.reads ok r2
    exact ⟨_, .cons e1 e2⟩
end
/-- what repr tells of it -/
def Says (H : Hp) (v : V) (d : PyData) : Prop := Shw H v d ∨ ∃ a, v = .ref a ∧ H a = some (.dK []) ∧ d = .dict []
section
variable {X : Cx}
theorem call_reprD (gd : X.A.guards = some []) (hu : X.A.units + 90 < cLine) : CallR X (.builtin "repr") (fun xs H Q => ∃ v d, xs = [v] ∧ Says H v d ∧ d.showable = true ∧ d.depth ≤ 80 ∧ d.shown.length ≤ sizeLine ∧ Q (.str d.shown) H) := by
  intro pins s σ H xs us Q I r h
  obtain ⟨v, d, rfl, hs, hz, hd, hl, q⟩ := h
  obtain ⟨u, rfl, ru⟩ : ∃ u, us = [u] ∧ RelV v u := by
    cases r with
    | cons a b =>
      cases b
      exact ⟨_, rfl, a⟩
  obtain ⟨as, ra, hsm⟩ : ∃ as, Reads s.heap u d as ∧ (d.hasDict = true → sysModules ∉ as) := by
    rcases hs with hs | ⟨a, rfl, ha, rfl⟩
    · obtain ⟨as, ra⟩ := hs.reads I.hok ru
      exact ⟨as, ra, PyData.noDict_hsm hs.noDict⟩
    · obtain rfl : u = Value.ref a := ru
      obtain ⟨_, hn, vs, kv, ho⟩ := (show ObjOk X.prog X.w H s.heap a (.dK []) from I.hok a _ ha)
      cases kv
      obtain ⟨o, es, ep, g, hc, hd1, _, he, _⟩ := ho
      refine ⟨_, .dict (as := []) (bs := []) g hc.1 hd1 ?_ ?_, fun _ m => ?_⟩
      · have e0 : es.toList = [] := by
          generalize es.toList = l at he
          cases he
          rfl
        rw [e0]
        exact .nil
      · have e0 : es.toList = [] := by
          generalize es.toList = l at he
          cases he
          rfl
        rw [e0]
        exact .nil
      · have e1 : sysModules = a := by simpa using m
        rw [← e1] at hn
        simp at hn
  have fin : ∀ h' uu tk, (∀ b o, s.heap.get? b = some o → h'.get? b = some o) → EP X pins σ Q (.str d.shown uu) { s with heap := h', toks := tk } := fun h' uu tk k => ⟨.str d.shown, H, I.kept k, ⟨_, rfl⟩, q⟩
  cases ra with
  | none =>
    simp only [PyData.shown] at fin
    exact PySem.P.repr_of_none (fin s.heap _ _ fun _ _ e => e)
  | bool b =>
    simp only [PyData.shown] at fin
    exact PySem.P.repr_of_bool (fin s.heap _ _ fun _ _ e => e)
  | int i t =>
    simp only [PyData.shown] at fin
    exact PySem.P.repr_of_int (by simpa [PyData.showable] using hz) (fin s.heap _ _ fun _ _ e => e)
  | str x t =>
    simp only [PyData.shown] at fin
    exact PySem.P.repr_of_str (fin s.heap _ _ fun _ _ e => e) (by simpa only [PyData.shown] using hl)
  | list h1 h2 h3 h4 => exact repr_of_reads' (.list h1 h2 h3 h4) hz hsm gd (by omega) (fun _ _ e => e) (fun h' uu tk k => fin h' uu tk k) hl
  | tuple h1 h2 h3 h4 => exact repr_of_reads' (.tuple h1 h2 h3 h4) hz hsm gd (by omega) (fun _ _ e => e) (fun h' uu tk k => fin h' uu tk k) hl
  | dict h1 h2 h3 h4 h5 => exact repr_of_reads' (.dict h1 h2 h3 h4 h5) hz hsm gd (by omega) (fun _ _ e => e) (fun h' uu tk k => fin h' uu tk k) hl
/-! ### C(e, ..) in a try: __init__ may raise -/
def tMakeS (C : Addr) (sp : Sp) (E : L2.St → XK) (ta : TA) : TE := fun σ H Q => ta σ H fun vs H1 => ∀ x dx, H1 x = none → H1 dx = none → dx ≠ x → sp (.ref x :: vs) (upd (upd H1 dx (.own x)) x (.ins C dx [])) (fun v H2 => v = .non ∧ Q (.ref x) H2) (E σ)
end
section
variable {X : Cx} {CX : CXT} {k : Nat} {f C : Addr} {fd : FuncData} {ps : List Str} {sp : Sp} {E : L2.St → XK} {x : Str} {p pos : Pos} {e : Expr} {es : List Expr} {t : TA}
theorem pe_makeS (M : Mk X.K C f) (F : FnOk X.prog X.w X.K X.mg X.base CX k f fd ps sp) (hr : Room (k + 1) X.A) (hg : Gl X x) (hm : X.mg x = some (.ref C)) (hb : Binds X.K fd ps []) (hx : ∀ σ, PassesAt CX X σ (E σ)) (ha : PA X (e :: es) t)
    (hdb : (x == ("__debug__" : Str)) = false := by decide) (he : starEach (e :: es) X.env = (false, eval e X.env) :: starEach es X.env := by rfl) (hpl : (backTo pos (starEach es X.env)).any (·.1) = false := by rfl) :
    PE X (.Call (.Name x p) (e :: es) [] pos) (tMakeS C sp E t) := by
  refine ⟨fun pins s σ H Q I h => ?_⟩
  refine wpAny_Call_Name_kw (ld_glob I hg hm ?_ hdb)
  refine PySem.W.callWith_K (h₀ := X.base) I.ok.mod.kin M.kp (thn (ha.run pos pins s σ H _ I h) fun us s1 ⟨vs, H1, I1, r, q⟩ => ⟨I1.kIn, ?_⟩) he hpl
  have hq := q (s1.heap.objs.size + 1) s1.heap.objs.size (I1.hok.fresh (Nat.le_succ _)) (I1.hok.fresh (Nat.le_refl _)) (Nat.ne_of_lt (Nat.lt_succ_self _))
  have I2 := Inv.made (C := C) I1
  have r2 : Vals (V.ref (s1.heap.objs.size + 1) :: vs) (Value.ref (s1.heap.objs.size + 1) :: us) := .cons rfl r
  have hl : (Value.ref (s1.heap.objs.size + 1) :: us ++ []).length = ps.length := by
    have e := r2.length
    rw [F.len _ _ _ _ hq] at e
    rw [List.append_nil]
    exact e.symm
  have bb := hb _ (Value.ref (s1.heap.objs.size + 1) :: us) I2.kIn hl
  rw [List.append_nil] at bb
  refine wpAny_call (make_map (f := f) I1.kIn M.makes M.init (beq_iff_eq.mp M.fn) (codeAny_mono (F.run _ X.stack _ _ ⟨Value.ref (s1.heap.objs.size + 1) :: us, []⟩ (Value.ref (s1.heap.objs.size + 1) :: us) _ _ (E σ) (hr.make C us [])
    (I2.env0.make C us []) bb r2 hq) fun r s' hq' => ?_))
  cases r with
  | error e => exact hx σ pins _ _ e s' I2 hq'
  | ok fl =>
    cases fl with
    | ret u =>
      obtain ⟨v, H', I3, rv, ev, q3⟩ := I2.after hq'
      subst ev
      exact ⟨rv, ⟨V.ref (s1.heap.objs.size + 1), H', I3, rfl, q3⟩⟩
    | next => exact False.elim hq'
    | brk => exact False.elim hq'
    | cont => exact False.elim hq'
end
end RZ
set_option Elab.async false
set_option linter.all false
set_option maxRecDepth 100000
set_option maxHeartbeats 4000000
namespace SU
open PySem PySem.Spec PySem.Calls PyProof.Rows L2 CM LamX NdefX ClX
/-- what stands of a method of the class at C whose text says super().m(..), D the class of that text, f2 the def above -/
structure SupF (P : Program) (K : PySem.W.Frag) (C D f f2 : Addr) (m : Str) (F : NF) (fd : FuncData) : Prop where
  ex : ∃ (oc : Value) (od : Option Addr) (doc pm ct : Value) (osl : Array (Option Value)) (cc : Addr) (ccl : Value) (cdd : Option Addr) (vs : Array Value) (file : Str) (tf : Tok) (ccs : Array (Option Value)) (cl : Value) (cld : Option Addr) (csl : Array (Option Value)) (cdD cd : ClassData),
    fd = F.fd doc pm ct ∧ K.lookup f = some ⟨oc, od, .func (F.fd doc pm ct), osl⟩ ∧ F.cl = [(("__class__" : Str), cc)] ∧ PySem.W.codeIn K (.ref F.c) F.qual = true ∧ K.lookup F.c = some ⟨ccl, cdd, .fields vs, ccs⟩ ∧ vs[2]? = some (.str file tf) ∧ ((P.main.file : Str) == file) = true ∧
    K.lookup cc = some ⟨cl, cld, .cell (some (.ref D)), csl⟩ ∧ PySem.W.clsIn K D = some cdD ∧ PySem.W.mroIn K C (.ref D) = some true ∧ PySem.W.clsIn K C = some cd ∧ PySem.W.alongIn K m ((cd.mro.dropWhile (· != .ref D)).drop 1) = some (some (.ref f2)) ∧
    PySem.W.typeIn K (.ref f2) = some (.type "function") ∧ PySem.W.nsIn K cStatics "thirdparty.any" = some none ∧ PySem.W.fnIn K f2 = true
section
variable {P : Program} {w : World} {K : PySem.W.Frag} {mg : Str → Option Value} {base : Heap} {CX : CXT} {k : Nat}
theorem fnR_of {f : Addr} {fd : FuncData} {ps : List Str} {sp : Sp} (F : FnOk P w K mg base CX k f fd ps sp) (hb : Binds K fd ps []) : FnR P w K mg base CX k f sp := fun A outer s H us vs Q E hr e0 r h => by
  have hl : us.length = ps.length := by rw [← r.length]; exact F.len _ _ _ _ h
  have b := hb s us (e0.mod.kin.keeps fun b o e => (e0.bs b o e).1) (by rw [List.append_nil]; exact hl)
  rw [List.append_nil] at b
  exact F.run A outer s H ⟨us, []⟩ us vs Q E hr e0 b r h
def spSup (N ps : List Str) (C : Addr) (t : TA) (sp : Sp) : Sp := fun vs H Q E => vs.length = ps.length ∧ ∃ a dx fs, vs[0]? = some (.ref a) ∧ H a = some (.ins C dx fs) ∧ t (startF N vs [none]) H (fun ws H1 => sp (.ref a :: ws) H1 Q E)
theorem ok_super {C D f f2 : Addr} {m : Str} {F : NF} {fd : FuncData} {N ps ps' : List Str} {sp : Sp} {t : TA} {ar : Arg} {p0 p1 apos pos rp : Pos} {e : Expr} {es : List Expr} (S : NScope N ps ["__class__"] F.scope) (Z : SupF P K C D f f2 m F fd)
    (hps : ps = ar.arg :: ps') (hp : (F.params.posonlyargs ++ F.params.args).head? = some ar) (hks : F.scope.names.lookup ("super" : Str) = some .globalImplicit)
    (hbody : F.body = [.Return (some (.Call (.Attribute (.Call (.Name "super" p0) [] [] p1) m apos) (e :: es) [] pos)) rp])
    (htop : (P.main.scope.names.lookup ("super" : Str)).isSome = false) (msup : mg "super" = none) (hn : (m == ("__class__" : Str)) = false) (G : FnR P w K mg base CX k f2 sp)
    (ha : ∀ (g : Addr) (A : Around) (outer : List Env) (s : Shared) (H : Hp) (E : XK), PA (ncx CX P w K mg base N F g A outer s H E) (e :: es) t) (hx : ∀ (g : Addr) (A : Around) (outer : List Env) (s : Shared) (H : Hp) (E : XK), Passes CX (ncx CX P w K mg base N F g A outer s H E) E)
    (hst : ∀ env : Env, starEach (e :: es) env = (false, eval e env) :: starEach es env) (hpl : ∀ env : Env, (backTo pos (starEach es env)).any (·.1) = false)
    {pl : Env → Sem Bool} (hev : ∀ env : Env, eval (.Call (.Attribute (.Call (.Name "super" p0) [] [] p1) m apos) (e :: es) [] pos) env = (do
      let ov ← attributeBase (.Call (.Name "super" p0) [] [] p1) m env (eval (.Call (.Name "super" p0) [] [] p1) env)
      standAt apos.atName
      let (f, first) ← holding [ov] (getMethod ov m (pl env))
      callWith pos f first (backTo pos (starEach (e :: es) env)) [])) :
    FnOk P w K mg base CX (k + 1) f fd ps (spSup N ps C t sp) := by
  obtain ⟨oc, od, doc, pm, ct, osl, cc, ccl, cdd, cvs, file, tf, ccs, cl, cld, csl, cdD, cd, rfl, lk, hcl, hcd, hcode, hvs, hfile, hcell, hD, hsub, hC, hal, hty, hno, hfn⟩ := Z.ex
  refine ⟨fun vs H Q E h => h.1, fun A outer s H args us vs Q E hr e0 bt r h => ?_⟩
  obtain ⟨hl, a, dx, fs, h0, hi, hq⟩ := h
  have old : ∀ b o, base.get? b = some o → s.heap.get? b = some o := fun b o e => (e0.bs b o e).1
  have X0 : K.In s.heap := e0.mod.kin.keeps old
  have hH : ∀ {b : Addr} {o : Obj}, K.lookup b = some o → H b = none := fun {b o} e => (e0.bs b o (e0.mod.kin b o e)).2
  have Cl : CellsAt F.cl ["__class__"] [none] s.heap H := by
    refine ⟨rfl, fun y c z => ?_, fun x y c z1 z2 => ?_, fun i y z => ?_⟩
    · rw [hcl] at z
      have e1 : cc = c := by
        simp only [List.lookup] at z
        split at z
        · exact Option.some.inj z
        · cases z
      subst e1
      exact ⟨hH hcell, _, _, X0 _ _ hcell, rfl⟩
    · rw [hcl] at z1 z2
      simp only [List.lookup] at z1 z2
      split at z1
      · rename_i q1
        split at z2
        · rename_i q2
          rw [beq_iff_eq.mp q1, beq_iff_eq.mp q2]
        · cases z2
      · cases z1
    · cases i with
      | zero =>
        have e1 : "__class__" = y := Option.some.inj z
        subst e1
        exact ⟨cc, by rw [hcl]; rfl, fun v q => by cases q⟩
      | succ i => cases z
  refine PySem.ks_codeAny_call_defAt (fd := F.fd doc pm ct) (body := F.body) (binds := ps.zip us) hr.depth (X0 _ _ lk) rfl (e0.mod.nolimit.keeps old) (PySem.W.codeRec_of X0 hcd) rfl bt S.nocell (fun y hy => S.par _ (List.of_mem_zip (show (y.1, y.2) ∈ ps.zip us from hy)).1) (fun h₁ hns kp => ?_) S.co S.gen S.kind
  have I : Inv (ncx CX P w K mg base N F f A outer s H E) [] (startF N vs [none]) H { s with heap := h₁, toks := s.toks + (ps.zip us).length } := inv_startN S hr.hd e0 hl r Cl hns kp
  have hEnv : PySem.callEnv (F.fd doc pm ct) s.heap.objs.size f = envF F f s.heap.objs.size := rfl
  rw [hEnv]
  generalize hs1 : ({ s with heap := h₁, toks := s.toks + (ps.zip us).length } : Shared) = s1 at I ⊢
  have hs1h : s1.heap = h₁ := by rw [← hs1]
  rw [hbody]
  refine PySem.ks_wpAt_execs_cons (PySem.ks_wpAt_Return_some (PySem.ks_wpAt_MethodCall (pl := pl (envF F f s.heap.objs.size)) ?_ (hev _)))
  have lk1 := I.kIn _ _ lk
  have hk : (envF F f s.heap.objs.size).scope.kind = .function := S.kind
  have hfr : F.scope.names.lookup ("__class__" : Str) = some .free := S.frk _ (List.mem_singleton.mpr rfl)
  refine PySem.ks_wpAt_super_base (env := envF F f s.heap.objs.size) hks hfr hn rfl lk1 rfl hp rfl (I.kIn _ _ hcode) rfl hvs hfile htop ?_
  obtain ⟨mb, hmb, hbb⟩ := I.mod.blt
  refine PySem.W.ks_loadName_global hk hks (loadGlobal_builtin (env := envF F f s.heap.objs.size) (I.mod.glob.keeps I.bk) msup (hmb.keeps I.bk) ((hbb _ (by decide +kernel)).trans (by rfl)) ⟨rfl, ?_⟩)
  refine wpAny_loadName_free hk hfr (by rw [show (envF F f s.heap.objs.size).cells = F.cl from rfl, hcl]; rfl) ⟨_, I.kIn _ _ hcell, rfl⟩ ?_
  obtain ⟨us0, ut, rfl⟩ : ∃ u0 ut, us = u0 :: ut := by
    cases us with
    | nil =>
      have z := r.length
      rw [hl, hps] at z
      cases z
    | cons u0 ut => exact ⟨_, _, rfl⟩
  have ru : us0 = Value.ref a := by
    cases r with
    | cons rv rt =>
      have e1 := Option.some.inj h0
      subst e1
      exact rv
  subst ru
  refine wpAny_loadName_local hk (S.par _ (by rw [hps]; exact List.mem_cons_self)) (hs1h ▸ hns) (v := .ref a) (zip_look (i := 0) ?nd ?p0 rfl) ?_
  case nd =>
    have q := S.nd.sublist (List.take_sublist (ps.length + 1) N)
    rw [show N.take (ps.length + 1) = ps ++ [("__class__" : Str)] from S.pre] at q
    exact (List.nodup_append.mp q).1
  case p0 => rw [hps]; rfl
  have X1 : K.In s1.heap := I.kIn
  obtain ⟨hh, g, dr, tk, os⟩ := s1
  obtain ⟨oD, hD1, hD2⟩ : ∃ oD, hh.get? D = some oD ∧ oD.data = .cls cdD := by
    unfold PySem.W.clsIn at hD
    split at hD
    · rename_i c d cd' sl ho
      cases hD
      exact ⟨_, X1 _ _ ho, rfl⟩
    · cases hD
  obtain ⟨mA, O, _⟩ := ins_get I.hok hi
  obtain ⟨odi, J, _⟩ := O.look
  refine PySem.ks_wpAny_isType_cls hD1 hD2 ⟨rfl, ?_⟩
  refine PySem.ks_wpAny_call_super hD1 hD2 J.at_ J.cls (fun c e => by cases e) (PySem.W.looks_mroIn X1 hsub) (fun h' eso k => ?_)
  have I1 : Inv (ncx CX P w K mg base N F f A outer s H E) [] (startF N vs [none]) H ⟨h', g, dr, tk, os⟩ := I.kept (t' := tk) k
  have X2 : K.In h' := I1.kIn
  obtain ⟨of, hof, hofc⟩ : ∃ of, h'.get? f2 = some of ∧ of.cls = .type "function" := by
    have ht' : (K.lookup f2).map (·.cls) = some (.type "function") := hty
    cases z : K.lookup f2 with
    | none => rw [z] at ht'; cases ht'
    | some of => rw [z] at ht'; exact ⟨of, X2 _ _ z, Option.some.inj ht'⟩
  obtain ⟨mA1, O1, _⟩ := ins_get I1.hok hi
  obtain ⟨odi1, J1, _⟩ := O1.look
  refine PySem.ks_wpAny_getMethod_super eso (PySem.W.looks_opaque X2 hno) (l₀ := cd.mro) (fun A Q E s k q => wpAny_bind ((PySem.W.looks_clsIn X2 hC) A _ E s k (wpAny_pure q))) rfl X2 hal hof hofc (PySem.W.ks_ne X2 J1 hC) hn ?_
  have I2 := met_new (g := f2) (C := a) I1
  have hb2 : (ncx CX P w K mg base N F f A outer s H E).base.get? h'.objs.size = none := base_none I1 (Nat.le_refl _)
  refine wpAny_mono (callwith_cm (X := ncx CX P w K mg base N F f A outer s H E) I2 hb2 hfn (thn ((ha f A outer s H E).run pos _ _ _ _ _ I2 hq) fun ws s3 ⟨zs, H2, I3, rv, q2⟩ => ⟨⟨pin_at I3, I3.kIn⟩, run_cm G (hr.deeper _) (hx f A outer s H E) I3 rv q2⟩) (hst _) (hpl _)) (fun u s' hs => ?_) fun e s' hs => hs
  obtain ⟨v, H', J, rv, qv⟩ := hs
  exact ⟨v, H', J.os, J.bare, J.base, J.hok, rv, qv⟩
end
end SU
set_option Elab.async false
set_option linter.all false
set_option maxRecDepth 100000
set_option maxHeartbeats 4000000
namespace SU
open PySem PySem.Spec PySem.Calls PyProof.Rows L2 CM LamX NdefX ClX
/-- super().m(x), alone in the text: the name, the method, the argument -/
def supSt : List Stmt → Option (Str × Str × Str)
  | [.Return (some (.Call (.Attribute (.Call (.Name s _) [] [] _) m p) [.Name x _] [] q)) _] => if p.endLine == q.line then some (s, m, x) else none
  | _ => none
theorem supSt_ok {b : List Stmt} {s m x : Str} (h : supSt b = some (s, m, x)) : ∃ p0 p1 p2 p3 p4 p5 : Pos, b = [.Return (some (.Call (.Attribute (.Call (.Name s p0) [] [] p1) m p2) [.Name x p3] [] p4)) p5] ∧ (p2.endLine == p4.line) = true := by
  unfold supSt at h
  split at h
  · split at h
    · rename_i q
      cases h
      exact ⟨_, _, _, _, _, _, rfl, q⟩
    · cases h
  · cases h
theorem sup_ev {p0 p1 p2 p3 p4 : Pos} {m x : Str} (hl : (p2.endLine == p4.line) = true) (env : Env) : eval (.Call (.Attribute (.Call (.Name "super" p0) [] [] p1) m p2) [.Name x p3] [] p4) env = (do
      let ov ← attributeBase (.Call (.Name "super" p0) [] [] p1) m env (eval (.Call (.Name "super" p0) [] [] p1) env)
      standAt p2.atName
      let (f, first) ← holding [ov] (getMethod ov m (do return (← importBound (.Call (.Name "super" p0) [] [] p1) env).getD true))
      callWith p4 f first (backTo p4 (starEach [.Name x p3] env)) []) := by
  have hpos : ∀ o : Expr, methodCallPos true o env p2 p4 = pure p4 := fun o => by
    unfold methodCallPos
    simp [hl]
  conv => lhs; unfold eval
  show (do
      let ov ← attributeBase (.Call (.Name "super" p0) [] [] p1) m env (eval (.Call (.Name "super" p0) [] [] p1) env)
      standAt p2.atName
      let (f, first) ← holding [ov] (calleeOf true (.Call (.Name "super" p0) [] [] p1) env ov m)
      let callPos ← methodCallPos true (.Call (.Name "super" p0) [] [] p1) env p2 p4
      callWith callPos f first (backTo p4 (starEach [.Name x p3] env)) (backToKw p4 (keywordEach [] env))) = _
  simp only [hpos]
  rfl
def supAr (p : Arguments) : Option (Str × Str) := match p with
  | ⟨[], [⟨a, none, _⟩, ⟨b, none, _⟩], none, [], [], none, []⟩ => some (a, b)
  | _ => none
theorem supAr_ok {p : Arguments} {a b : Str} (h : supAr p = some (a, b)) : ∃ q0 q1 : Pos, p = ⟨[], [⟨a, none, q0⟩, ⟨b, none, q1⟩], none, [], [], none, []⟩ := by
  unfold supAr at h
  split at h
  · cases h
    exact ⟨_, _, rfl⟩
  · cases h
def fnAt (K : PySem.W.Frag) (f : Addr) : Option FuncData := match K.lookup f with
  | some ⟨_, _, .func fd, _⟩ => some fd
  | _ => none
theorem fnAt_ok {K : PySem.W.Frag} {f : Addr} {fd : FuncData} (h : fnAt K f = some fd) : ∃ oc od osl, K.lookup f = some ⟨oc, od, .func fd, osl⟩ := by
  unfold fnAt at h
  split at h
  · rename_i e
    cases h
    exact ⟨_, _, _, e⟩
  · cases h
def fileAt (K : PySem.W.Frag) (c : Addr) : Option Str := match K.lookup c with
  | some ⟨_, _, .fields vs, _⟩ => (match (vs[2]? : Option Value) with
    | some (.str z _) => some z
    | _ => none)
  | _ => none
theorem fileAt_ok {K : PySem.W.Frag} {c : Addr} {z : Str} (h : fileAt K c = some z) : ∃ oc od vs osl t, K.lookup c = some ⟨oc, od, .fields vs, osl⟩ ∧ vs[2]? = some (.str z t) := by
  unfold fileAt at h
  split at h
  · rename_i e
    split at h
    · rename_i e2
      cases h
      exact ⟨_, _, _, _, _, e, e2⟩
    · cases h
  · cases h
def cellAt (K : PySem.W.Frag) (c : Addr) : Option Addr := match K.lookup c with
  | some ⟨_, _, .cell (some (.ref D)), _⟩ => some D
  | _ => none
theorem cellAt_ok {K : PySem.W.Frag} {c D : Addr} (h : cellAt K c = some D) : ∃ oc od osl, K.lookup c = some ⟨oc, od, .cell (some (.ref D)), osl⟩ := by
  unfold cellAt at h
  split at h
  · rename_i e
    cases h
    exact ⟨_, _, _, e⟩
  · cases h
/-- how the def ends: its cell, its code object, what else must be nothing -/
def supEnd (fd : FuncData) : Option (Addr × Addr) := match fd with
  | ⟨_, _, _, _, _, g, [(x, cc)], .none, .none, _, _, none, .ref c, _, b⟩ => if decide (x = ("__class__" : Str)) && (decide (g = mainGlobals) && decide (b = builtinsNs)) then some (cc, c) else none
  | _ => none
def bodyOf (fd : FuncData) : List Stmt := match fd.body with
  | .stmts b => b
  | _ => []
theorem supEnd_ok {fd : FuncData} {cc c : Addr} (h : supEnd fd = some (cc, c)) (hb : bodyOf fd ≠ []) : ∃ doc pm ct, fd = PySem.W.fnX fd.name fd.qualname fd.params (bodyOf fd) fd.scope [(("__class__" : Str), cc)] .none .none doc pm none (.ref c) ct := by
  unfold supEnd at h
  split at h
  · split at h
    · rename_i q
      simp only [Bool.and_eq_true, decide_eq_true_eq] at q
      obtain ⟨rfl, rfl, rfl⟩ := q
      cases h
      rename_i bd _ _ _ _
      unfold bodyOf at hb ⊢
      first
        | (cases bd with
          | stmts b => exact ⟨_, _, _, rfl⟩
          | _ => exact absurd rfl hb)
    · cases h
  · cases h
/-- the whole word: C's own m(self, x) says super().m(x), D is the class of the text, f2 the def that is meant -/
def supB (F0 : Str) (K : PySem.W.Frag) (C D f2 : Addr) (m x : Str) : Bool := match fnAt K (He.ma K C m) with
  | some fd => (match supEnd fd with
    | some (cc, c) => decide (supSt (bodyOf fd) = some (("super" : Str), m, x)) && (decide (supAr fd.params = some (("self" : Str), x)) && (nscB ["self", x, "__class__"] ["self", x] ["__class__"] fd.scope && (decide (fd.scope.names.lookup ("super" : Str) = some .globalImplicit) &&
      (PySem.W.codeIn K (.ref c) fd.qualname && (decide (fileAt K c = some F0) && (decide (cellAt K cc = some D) && ((PySem.W.clsIn K D).isSome && (decide (PySem.W.mroIn K C (.ref D) = some true) && ((match PySem.W.clsIn K C with
        | some cd => decide (PySem.W.alongIn K m ((cd.mro.dropWhile (· != .ref D)).drop 1) = some (some (.ref f2)))
        | none => false) && (decide (PySem.W.typeIn K (.ref f2) = some (.type "function")) && (decide (PySem.W.nsIn K cStatics "thirdparty.any" = some none) && PySem.W.fnIn K f2)))))))))))
    | none => false)
  | none => false
structure SupOk (F0 : Str) (P : Program) : Prop where
  file : ((P.main.file : Str) == F0) = true
  top : (P.main.scope.names.lookup ("super" : Str)).isSome = false
section
variable {P : Program} {w : World} {K : PySem.W.Frag} {mg : Str → Option Value} {base : Heap} {CX : CXT} {k : Nat}
theorem supB_ok {F0 : Str} {C D f2 : Addr} {m x : Str} (h : supB F0 K C D f2 m x = true) (O : SupOk F0 P) : ∃ (F : NF) (fd : FuncData) (p0 p1 p2 p3 p4 p5 q0 q1 : Pos), SupF P K C D (He.ma K C m) f2 m F fd ∧
    F.body = [.Return (some (.Call (.Attribute (.Call (.Name "super" p0) [] [] p1) m p2) [.Name x p3] [] p4)) p5] ∧ (p2.endLine == p4.line) = true ∧ F.params = ⟨[], [⟨"self", none, q0⟩, ⟨x, none, q1⟩], none, [], [], none, []⟩ ∧ NScope ["self", x, "__class__"] ["self", x] ["__class__"] F.scope ∧ F.scope.names.lookup ("super" : Str) = some .globalImplicit := by
  unfold supB at h
  split at h
  · rename_i fd e
    split at h
    · rename_i cc c e2
      simp only [Bool.and_eq_true, decide_eq_true_eq] at h
      obtain ⟨h1, h2, h3, h4, h5, h6, h7, h8, h9, h10, h11, h12, h13⟩ := h
      obtain ⟨p0, p1, p2, p3, p4, p5, eb, el⟩ := supSt_ok h1
      obtain ⟨q0, q1, ep⟩ := supAr_ok h2
      obtain ⟨doc, pm, ct, ef⟩ := supEnd_ok e2 (by rw [eb]; exact List.cons_ne_nil _ _)
      obtain ⟨oc, od, osl, lk⟩ := fnAt_ok e
      obtain ⟨ccl, cdd, vs, ccs, tf, lc, hv⟩ := fileAt_ok h6
      obtain ⟨cl, cld, csl, lcell⟩ := cellAt_ok h7
      obtain ⟨cdD, hD⟩ := Option.isSome_iff_exists.mp h8
      split at h10
      · rename_i cd hC
        have h10 := of_decide_eq_true h10
        refine ⟨⟨fd.name, fd.qualname, fd.params, bodyOf fd, fd.scope, [("__class__", cc)], c⟩, fd, p0, p1, p2, p3, p4, p5, q0, q1, ⟨oc, od, doc, pm, ct, osl, cc, ccl, cdd, vs, F0, tf, ccs, cl, cld, csl, cdD, cd, ef, ?_, rfl, h5, lc, hv, O.file, lcell, hD, h9, hC, h10, h11, h12, h13⟩, eb, el, ep, nscope_by h3, h4⟩
        rw [lk]
        exact congrArg some (congrArg (fun z => (⟨oc, od, .func z, osl⟩ : Obj)) ef)
      · cases h10
    · cases h
  · cases h
end
section
variable {P : Program} {w : World} {K : PySem.W.Frag} {mg : Str → Option Value} {base : Heap} {k : Nat}
/-- sides(self, labels), as the class above tells them -/
def spSides (C : Addr) (sp : Sp) : Sp := fun vs H Q E => ∃ a v dx fs, vs = [.ref a, v] ∧ H a = some (.ins C dx fs) ∧ sp [.ref a, v] H Q E
theorem ok_supSides {F0 : Str} {C D f2 : Addr} {fd2 : FuncData} {sp : Sp} (h : supB F0 K C D f2 "sides" "labels" = true) (O : SupOk F0 P) (msup : mg "super" = none) (G : FnOk P w K mg base CX0 k f2 fd2 ["self", "labels"] sp) (hb2 : Binds K fd2 ["self", "labels"] []) :
    ∃ fd, FnOk P w K mg base CX0 (k + 1) (He.ma K C "sides") fd ["self", "labels"] (spSides C sp) ∧ Binds K fd ["self", "labels"] [] := by
  obtain ⟨F, fd, p0, p1, p2, p3, p4, p5, q0, q1, Z, hb, he, hp, S, hs⟩ := supB_ok h O
  refine ⟨fd, FnOk.imp (ok_super (t := tCons (tVar 1) tNil) (ps' := ["labels"]) S Z rfl (by rw [hp]; rfl) hs hb O.top msup (by decide +kernel) (fnR_of G hb2) (fun g A outer s H E => pa_cons (pe_var (i := 1) rfl (.inl (S.par _ (by decide +kernel)))) pa_nil) (fun _ _ _ _ _ _ => pass0) (fun _ => rfl) (fun _ => rfl) (sup_ev he)) (fun vs H Q E hh => ?_), ?_⟩
  · obtain ⟨a, v, dx, fs, rfl, hi, q⟩ := hh
    exact ⟨rfl, a, dx, fs, rfl, hi, v, rfl, q⟩
  · obtain ⟨oc, od, doc, pm, ct, osl, cc, ccl, cdd, cvs, file, tf, ccs, cl, cld, csl, cdD, cd, rfl, lk, _⟩ := Z.ex
    refine Binds.all fun us hl => ?_
    match us, hl with
    | [u0, u1], _ =>
      obtain ⟨nm, qual, params, body, scope, cl, c⟩ := F
      dsimp only at hp
      subst hp
      rfl
end
end SU
set_option Elab.async false
set_option linter.all false
set_option maxRecDepth 100000
set_option maxHeartbeats 4000000
namespace PR
open PySem PySem.Spec PySem.Calls PyProof.Rows L2 CM SU
/-- return x.f -/
def getSt : List Stmt → Option (Str × Str)
  | [.Return (some (.Attribute (.Name x _) f _)) _] => some (x, f)
  | _ => none
theorem getSt_ok {b : List Stmt} {x f : Str} (h : getSt b = some (x, f)) : ∃ p1 p2 p3 : Pos, b = [.Return (some (.Attribute (.Name x p1) f p2)) p3] := by
  unfold getSt at h
  split at h
  · cases h
    exact ⟨_, _, _, rfl⟩
  · cases h
def oneAr (p : Arguments) : Option Str := match p with
  | ⟨[], [⟨a, none, _⟩], none, [], [], none, []⟩ => some a
  | _ => none
theorem oneAr_ok {p : Arguments} {a : Str} (h : oneAr p = some a) : ∃ q0 : Pos, p = ⟨[], [⟨a, none, q0⟩], none, [], [], none, []⟩ := by
  unfold oneAr at h
  split at h
  · cases h
    exact ⟨_, rfl⟩
  · cases h
def flatEnd (fd : FuncData) : Bool := match fd with
  | ⟨_, _, _, _, _, g, [], .none, .none, _, _, _, _, _, b⟩ => decide (g = mainGlobals) && decide (b = builtinsNs)
  | _ => false
theorem flatEnd_ok {fd : FuncData} (h : flatEnd fd = true) (hb : bodyOf fd ≠ []) : ∃ doc pm an ct, fd = PySem.W.fnOf fd.name fd.qualname fd.params (bodyOf fd) fd.scope .none .none doc pm an fd.code ct := by
  unfold flatEnd at h
  split at h
  · simp only [Bool.and_eq_true, decide_eq_true_eq] at h
    obtain ⟨rfl, rfl⟩ := h
    rename_i bd _ _ _ _ _ _
    unfold bodyOf at hb ⊢
    first
      | (cases bd with
        | stmts b => exact ⟨_, _, _, _, rfl⟩
        | _ => exact absurd rfl hb)
  · cases h
def fscB (N ps : List Str) (sc : Scope) : Bool := decide (sc.kind = .function) && (!sc.isCoroutine && (!sc.isGenerator && (decide N.Nodup && (decide (N.take ps.length = ps) && (ps.all (fun x => decide (sc.names.lookup x = some .local)) && sc.names.all (fun y => !decide (y.2 = .free)))))))
theorem fscB_ok {N ps : List Str} {sc : Scope} (h : fscB N ps sc = true) : FnScope N ps sc := by
  unfold fscB at h
  simp only [Bool.and_eq_true, Bool.not_eq_true', decide_eq_true_eq, List.all_eq_true, decide_eq_false_iff_not] at h
  obtain ⟨h1, h2, h3, h4, h5, h6, h7⟩ := h
  exact ⟨h1, h2, h3, h4, h5, fun x hx => .inl (h6 x hx), h7⟩
/-- the class at C has f as a property whose getter returns self.g -/
def propB (K : PySem.W.Frag) (C : Addr) (f g : Str) : Bool := match PySem.W.findIn K (.ref C) f with
  | some (some (.ref p)) => He.eqO (PySem.W.specialIn K (.ref p) "__get__") (some (some (.builtin "property.__get__"))) && (decide (PySem.W.takesIn K (.ref p) = some true) && (match PySem.W.recIn K p "property" with
    | some (.ref q :: _) => (match fnAt K q with
      | some fd => decide (getSt (bodyOf fd) = some (("self" : Str), g)) && (decide (oneAr fd.params = some ("self" : Str)) && (flatEnd fd && (fscB ["self"] ["self"] fd.scope && PySem.W.codeIn K fd.code fd.qualname)))
      | none => false)
    | _ => false))
  | _ => false
section
variable {P : Program} {w : World} {K : PySem.W.Frag} {mg : Str → Option Value} {base : Heap} {CX : CXT}
theorem propB_ok {C : Addr} {f g : Str} (h : propB K C f g = true) (c : Cls K C) (n : NoAttr K C g) : ∃ (p q : Addr) (fd : FuncData), PropOf K C f p q ∧ FnOk P w K mg base CX 1 q fd ["self"] (getSp C g) ∧ Binds K fd ["self"] [] := by
  unfold propB at h
  split at h
  · rename_i p e
    obtain ⟨h1, h⟩ := He.ba h
    obtain ⟨h2, h⟩ := He.ba h
    split at h
    · rename_i q rest e2
      split at h
      · rename_i fd e3
        simp only [Bool.and_eq_true, decide_eq_true_eq] at h
        obtain ⟨h3, h4, h5, h6, h7⟩ := h
        obtain ⟨p1, p2, p3, eb⟩ := getSt_ok h3
        obtain ⟨q0, ep⟩ := oneAr_ok h4
        obtain ⟨doc, pm, an, ct, ef⟩ := flatEnd_ok h5 (by rw [eb]; exact List.cons_ne_nil _ _)
        obtain ⟨oc, od, osl, lk⟩ := fnAt_ok e3
        rw [ef] at lk
        refine ⟨p, q, _, ⟨e, He.eqO_ok h1, of_decide_eq_true (by simpa using h2), ⟨rest, e2⟩⟩, fn_getter lk h7 (fscB_ok h6) rfl eb c n, ?_⟩
        refine Binds.all fun us hl => ?_
        match us, hl with
        | [u0], _ =>
          rw [ep]
          rfl
      · cases h
    · cases h
  · cases h
end
end PR
set_option Elab.async false
set_option linter.all false
set_option maxRecDepth 100000
set_option maxHeartbeats 4000000
namespace BI
open PySem PySem.Spec PySem.Calls PyProof.Rows L2 CM
/-! ### t[::-1], a tuple -/
section
variable {prog : Program} {w : World} {A : Around} {E : Value → Shared → Prop} {s : Shared}
theorem adjust_rev (n : Nat) : Builtin.Slice.sliceAdjust none none (-1) (n : Int) = ((n : Int) - 1, -1) := by
  first
  | rfl
  | (unfold Builtin.Slice.sliceAdjust; simp)
theorem places_rev (n : Nat) : Builtin.Slice.slicePlaces ((n : Int) - 1) (-1) (-1) = n := by
  unfold Builtin.Slice.slicePlaces
  rw [if_neg (by decide)]
  split
  · rw [show (-(-1) : Int) = 1 by decide, Int.ediv_one]
    omega
  · omega
theorem pick_rev (xs : Array Value) : ((List.range xs.size).filterMap fun (k : Nat) => xs[(((xs.size : Int) - 1) + (k : Int) * -1).toNat]?).toArray = xs.toList.reverse.toArray := by
  have e : (fun (k : Nat) => xs[(((xs.size : Int) - 1) + (k : Int) * -1).toNat]?) = (fun k : Nat => xs[k]?) ∘ fun k : Nat => xs.size - 1 - k := by
    funext k
    show xs[_]? = xs[xs.size - 1 - k]?
    have : (((xs.size : Int) - 1) + (k : Int) * -1).toNat = xs.size - 1 - k := by omega
    rw [this]
  rw [e, ← List.filterMap_map, PySem.W.krv_range, List.filterMap_reverse, PySem.W.krv_all]
theorem sliceApplied_rev {sl : Addr} {vl vu vs : Value} {n : Nat} {Q : Int × Int × Nat → Shared → Prop} (hs : s.heap.IsSliceOf sl vl vu vs) (pl : IsPart vl none) (pu : IsPart vu none) (ps : IsPart vs (some (-1)))
    (h : Q ((n : Int) - 1, -1, n) s) : wpAny (model prog w) A (Builtin.Slice.sliceApplied (.ref sl) (pure (n : Int))) Q E s := by
  obtain ⟨os, hos, hcs, hds⟩ := id hs
  unfold Builtin.Slice.sliceApplied Builtin.Slice.sliceFields
  refine wpAny_bind (wpAny_bind (wpAny_field hos hds (x := vl) rfl (wpAny_bind (wpAny_field hos hds (x := vu) rfl (wpAny_bind (wpAny_field hos hds (x := vs) rfl (wpAny_pure ?_)))))))
  refine wpAny_bind (HT.slicePart_ ps ?_)
  show wpAny _ _ (if ((-1 : Int) == 0) = true then _ else _) _ _ s
  rw [if_neg (by decide)]
  refine wpAny_bind (HT.slicePart_ pl (wpAny_bind (HT.slicePart_ pu (wpAny_bind (wpAny_pure ?_)))))
  show wpAny _ _ (match Builtin.Slice.sliceAdjust none none (-1) (n : Int) with | (lo, hi) => pure (lo, (-1 : Int), Builtin.Slice.slicePlaces lo hi (-1))) _ _ s
  rw [adjust_rev n]
  show wpAny _ _ (pure ((n : Int) - 1, (-1 : Int), Builtin.Slice.slicePlaces ((n : Int) - 1) (-1) (-1))) _ _ s
  rw [places_rev]
  exact wpAny_pure h
theorem getItem_tuple_rev {t sl : Addr} {items : Array Value} {vl vu vs : Value} {Q : Value → Shared → Prop} (ht : IsTup s.heap t items) (hs : s.heap.IsSliceOf sl vl vu vs) (pl : IsPart vl none) (pu : IsPart vu none) (ps : IsPart vs (some (-1)))
    (h : Q (.ref s.heap.objs.size) { s with heap := s.heap.push { cls := .type "tuple", data := .seq items.toList.reverse.toArray } }) (hsz : items.size ≤ sizeLine) : wpAny (model prog w) A (getItem (.ref t) (.ref sl)) Q E s := by
  have htake : sizeOk (.seq items.toList.reverse.toArray) := by
    show items.toList.reverse.toArray.size ≤ sizeLine
    rw [List.size_toArray, List.length_reverse, Array.length_toList]
    exact hsz
  obtain ⟨os, hos, hcs, hds⟩ := id hs
  have hTs : s.TypeIs (.ref sl) "slice" := ⟨os, hos, hcs⟩
  unfold getItem
  try with_reducible refine wpAny_holding ?_
  first | refine wpAny_bind (wpAny_pure ?_) | skip
  refine wpAny_bind (wpAny_sequenceKey ht.typeIs (by decide) ?_)
  refine wpAny_bind (wpAny_callSpecial?_slot (name := Str.ofString "__getitem__") ht.typeIs PyProof.Rows.slot_tuple_getitem
    (wpAny_call_entry PyProof.Rows.slot_tuple_getitem ht.typeIs entry_tuple_getitem ?_ (args_tuple_getitem _ _)))
  show wpAny _ _ (Builtin.Tuple.tupleItemsOf (.ref t) >>= _) _ _ s
  refine wpAny_bind (tupleItemsOf_ ht ?_)
  refine wpAny_bind (wpAny_typeOf hTs ?_)
  rw [if_pos (by decide)]
  refine wpAny_bind (sliceApplied_rev hs pl pu ps ?_)
  have hno : ¬ ((((items.size : Int) - 1) == 0 && (-1 : Int) == 1 && items.size == items.size) = true) := by
    intro q
    rw [Bool.and_eq_true, Bool.and_eq_true] at q
    exact absurd q.1.2 (by decide)
  show wpAny _ _ (if (((items.size : Int) - 1) == 0 && (-1 : Int) == 1 && items.size == items.size) = true then _ else _) _ _ s
  rw [if_neg hno, pick_rev]
  first
    | exact wpAny_bind (m := Builtin.Tuple.tupleExact _) (wpAny_newObj_type (wpAny_pure ⟨_, rfl, wpAny_pure h⟩) htake)
    | exact wpAny_bind (m := Builtin.Tuple.tupleExact _) (wpAny_newObj_type (wpAny_bind (wpAny_pure (wpAny_pure ⟨_, rfl, wpAny_pure h⟩))) htake)
    | exact wpAny_bind (wpAny_bind (m := Builtin.Tuple.tupleExact _) (wpAny_newObj_type (wpAny_pure (wpAny_pure ⟨_, rfl, wpAny_pure h⟩)) htake))
    | exact wpAny_bind (wpAny_bind (m := Builtin.Tuple.tupleExact _) (wpAny_newObj_type (wpAny_pure ⟨_, rfl, wpAny_pure h⟩) htake))
end
section
variable {X : Cx}
def tRevT (K : PySem.W.Frag) (te : TE) : TE := fun σ H Q => te σ H fun x H1 => ∃ a xs, x = .ref a ∧ SqT K H1 a xs ∧ ∀ p, H1 p = none → Q (.ref p) (upd H1 p (.tup xs.reverse))
theorem pe_revT {e : Expr} {te : TE} {k : Nat} {p1 p2 p3 pos : Pos} (he : PE X e te) : PE X (.Subscript e (.Slice none none (some (.UnaryOp .USub (.Constant (.int 1) k p1) p2)) p3) pos) (tRevT X.K te) := by
  refine ⟨fun pins s σ H Q I h => ?_⟩
  refine Subscript_ (thn (he.run pins s σ H _ I h) fun v s1 ⟨x, H1, I1, r1, q1⟩ => ?_)
  obtain ⟨a, xs, ex, hx, q⟩ := q1
  subst ex
  cases r1
  have hst : PO X (some (.UnaryOp .USub (.Constant (.int 1) k p1) p2)) (tPart (tUn (rU fun i => .int (-i)) (tC (.int 1)))) := po_some (pe_un un_neg pe_int)
  refine wpAny_Slice (thn (po_none.run pins s1 σ H1 (fun o H2 => o = none ∧ H2 = H1) I1 ⟨rfl, rfl⟩) fun vl s2 ⟨l, H2, I2, pl, el, e2⟩ => ?_)
  subst el e2
  refine thn (po_none.run pins s2 σ H2 (fun o H3 => o = none ∧ H3 = H2) I2 ⟨rfl, rfl⟩) fun vu s3 ⟨u, H3, I3, pu, eu, e3⟩ => ?_
  subst eu e3
  refine thn (hst.run pins s3 σ H3 (fun o H4 => o = some (-1) ∧ H4 = H3) I3 ⟨1, rfl, -1, rfl, rfl, rfl⟩) fun vs s4 ⟨o, H4, I4, ps, eo, e4⟩ => ?_
  subst eo e4
  have I5 : Inv X pins σ H4 { s4 with heap := s4.heap.push { cls := .type "slice", data := .fields #[vl, vu, vs] } } := I4.kept (t' := s4.toks) fun b ob q => Heap.get?_push_of_some _ q
  obtain ⟨its, r, ht, hz⟩ := I5.tuple hx
  have hlen := r.length
  show wpAny (model X.prog X.w) X.A (subscriptTail e (.Slice none none (some (.UnaryOp .USub (.Constant (.int 1) k p1) p2)) p3) (.ref a) (.ref s4.heap.objs.size)) (EP X pins σ Q) X.xe { s4 with heap := s4.heap.push { cls := .type "slice", data := .fields #[vl, vu, vs] } }
  refine tail_any (ops := [.ref a, .ref s4.heap.objs.size]) ht.typeIs (PyProof.Rows.slot_tuple_getitem.lookup) ?_ (by with_unfolding_all rfl)
  refine getItem_tuple_rev ht (Heap.IsSliceOf.new _ vl vu vs) pl pu ps ?_ (by rw [List.size_toArray]; omega)
  refine ⟨.ref _, _, I5.laid (t' := s4.toks) (o := .tup xs.reverse) (fun b ob q => Heap.get?_push_of_some _ q) (Nat.le_refl _) ?_, rfl, q _ (I5.hok.fresh (Nat.le_refl _))⟩
  exact ⟨by rw [List.length_reverse]; exact hz, _, r.reverse, IsTup.new _ _⟩
/-! ### | & ^ of naturals -/
theorem bitNot_not (x : Int) : Builtin.bitNot (Builtin.bitNot x) = x := by
  unfold Builtin.bitNot
  omega
theorem bitAnd_nat (a b : Nat) : Builtin.bitAnd (a : Int) (b : Int) = ((a &&& b : Nat) : Int) := by
  unfold Builtin.bitAnd
  rw [decide_eq_true (Int.natCast_nonneg a), decide_eq_true (Int.natCast_nonneg b)]
  simp
theorem bitOr_nat (a b : Nat) : Builtin.bitOr (a : Int) (b : Int) = ((a ||| b : Nat) : Int) := by
  have h : ∀ n : Nat, ¬ (0 : Int) ≤ Builtin.bitNot (n : Int) := fun n => by
    unfold Builtin.bitNot
    omega
  unfold Builtin.bitOr Builtin.bitAnd
  rw [decide_eq_false (h a), decide_eq_false (h b)]
  simp only [bitNot_not]
  simp
def rN2 (f : Nat → Nat → V) : R2 := fun x y H Q => ∃ a b : Nat, x = .int (a : Int) ∧ y = .int (b : Int) ∧ Q (f a b) H
theorem op_orN : OpR X (binaryOp .BitOr) (rN2 fun a b => .int ((a ||| b : Nat) : Int)) := by
  intro pns s σ H x y v u Q I rx ry h
  obtain ⟨a, b, rfl, rfl, q⟩ := h
  exact op_or pns s σ H _ _ v u Q I rx ry ⟨_, _, rfl, rfl, by dsimp only; rw [bitOr_nat]; exact q⟩
theorem op_andN : OpR X (binaryOp .BitAnd) (rN2 fun a b => .int ((a &&& b : Nat) : Int)) := by
  intro pns s σ H x y v u Q I rx ry h
  obtain ⟨a, b, rfl, rfl, q⟩ := h
  exact op_and pns s σ H _ _ v u Q I rx ry ⟨_, _, rfl, rfl, by dsimp only; rw [bitAnd_nat]; exact q⟩
/-- a ^ b where a has no bit that b lacks -/
def rXor : R2 := fun x y H Q => ∃ a b c : Nat, x = .int (a : Int) ∧ y = .int (b : Int) ∧ a ||| b = b ∧ a &&& b = a ∧ b = a + c ∧ Q (.int (c : Int)) H
theorem op_xorN : OpR X (binaryOp .BitXor) rXor := by
  intro pns s σ H x y v u Q I rx ry h
  obtain ⟨a, b, c, rfl, rfl, h1, h2, h3, q⟩ := h
  refine op_xor pns s σ H _ _ v u Q I rx ry ⟨_, _, rfl, rfl, ?_⟩
  have e : Builtin.bitXor (a : Int) (b : Int) = (c : Int) := by
    unfold Builtin.bitXor
    rw [bitOr_nat, bitAnd_nat, h1, h2]
    omega
  dsimp only
  rw [e]
  exact q
end
section
variable {X : Cx} {K : PySem.W.Frag}
theorem op_inK (hK : X.K = K := by rfl) : OpR X (compareOp .In) (rIn K false) := by
  subst hK
  exact op_in_seq
theorem op_notInK (hK : X.K = K := by rfl) : OpR X (compareOp .NotIn) (rIn K true) := by
  subst hK
  exact op_notIn_seq
theorem op_neNilK (hu : X.A.units + 64 < cLine) (hK : X.K = K := by rfl) : OpR X (compareOp .NotEq) (rNeNil K) := by
  subst hK
  exact op_neNil hu
end
theorem pi_tupK {X : Cx} {K : PySem.W.Frag} {tg l : Expr} {tl : TE} (hl : PE X l tl) (hK : X.K = K := by rfl) : PI X tg l (iTup K tl) := by
  subst hK
  exact pi_tup hl
theorem pi_listK {X : Cx} {K : PySem.W.Frag} {tg l : Expr} {tl : TE} (hl : PE X l tl) (hK : X.K = K := by rfl) : PI X tg l (iList K tl) := by
  subst hK
  exact pi_list hl
/-- the scope of a list comprehension; the value of a def that only returns -/
def lcSc : Expr → Scope
  | .ListComp _ _ sc _ => sc
  | _ => { kind := .module, names := [], isGenerator := false, isCoroutine := false, more := [] }
def ret0 (st : Stmt) : Expr := match defBody st with
  | .Return (some e) _ :: _ => e
  | _ => .Name "" ⟨0, 0, 0, 0⟩
theorem seqT {K : PySem.W.Frag} {H H' : Hp} {a : Addr} {xs : List V} (e : Same H H') (h : SqT K H a xs) : SqT K H' a xs := by
  rcases h with (h | ⟨o, h⟩) | h
  · exact .inl (.inl (e _ _ h))
  · exact .inl (.inr ⟨o, e _ _ h⟩)
  · exact .inr h
/-! ### masks -/
def mk (f : Nat → Bool) : Nat → Nat
  | 0 => 0
  | w + 1 => mk f w + if f w then 2 ^ w else 0
theorem mk_lt (f : Nat → Bool) : ∀ w, mk f w < 2 ^ w
  | 0 => Nat.one_pos
  | w + 1 => by
    have h := mk_lt f w
    rw [Nat.pow_succ]
    unfold mk
    split <;> omega
theorem mk_bit (f : Nat → Bool) (k : Nat) : ∀ w, (mk f w).testBit k = (decide (k < w) && f k)
  | 0 => by simp [mk]
  | w + 1 => by
    have ih := mk_bit f k w
    have h := mk_lt f w
    unfold mk
    by_cases hw : f w = true
    · rw [if_pos hw, Nat.add_comm]
      by_cases e : k = w
      · subst e
        rw [Nat.testBit_two_pow_add_eq, Nat.testBit_lt_two_pow h, hw]
        simp
      · rcases Nat.lt_or_gt_of_ne e with g | g
        · rw [Nat.testBit_two_pow_add_gt g, ih]
          simp [show k < w + 1 by omega, g]
        · have e2 : ¬ k < w + 1 := by omega
          rw [Nat.testBit_lt_two_pow (Nat.lt_of_lt_of_le (show 2 ^ w + mk f w < 2 ^ (w + 1) by rw [Nat.pow_succ]; omega) (Nat.pow_le_pow_right (by decide) (show w + 1 ≤ k by omega)))]
          simp [e2]
    · rw [if_neg hw, Nat.add_zero, ih]
      by_cases e : k = w
      · subst e
        simp [hw]
      · simp [show (k < w) ↔ (k < w + 1) by omega]
theorem mk_ext {f g : Nat → Bool} : ∀ {w : Nat}, (∀ k, k < w → f k = g k) → mk f w = mk g w
  | 0, _ => rfl
  | w + 1, h => by
    unfold mk
    rw [mk_ext fun k hk => h k (by omega), h w (by omega)]
theorem mk_or (f g : Nat → Bool) (w : Nat) : mk f w ||| mk g w = mk (fun k => f k || g k) w := by
  apply Nat.eq_of_testBit_eq
  intro k
  rw [Nat.testBit_or, mk_bit, mk_bit, mk_bit]
  cases decide (k < w) <;> simp
theorem mk_and (f g : Nat → Bool) (w : Nat) : mk f w &&& mk g w = mk (fun k => f k && g k) w := by
  apply Nat.eq_of_testBit_eq
  intro k
  rw [Nat.testBit_and, mk_bit, mk_bit, mk_bit]
  cases decide (k < w) <;> simp
theorem mk_put {f : Nat → Bool} {w j : Nat} (hj : j < w) : mk f w ||| 2 ^ j = mk (fun k => f k || decide (k = j)) w := by
  apply Nat.eq_of_testBit_eq
  intro k
  rw [Nat.testBit_or, mk_bit, mk_bit, Nat.testBit_two_pow]
  by_cases e : j = k
  · subst e
    simp [hj]
  · simp [e, Ne.symm e]
theorem mk_none {w : Nat} : mk (fun _ => false) w = 0 := by
  induction w with
  | zero => rfl
  | succ w ih =>
    unfold mk
    rw [ih]
    rfl
/-- the part that g has more -/
theorem mk_more {f g : Nat → Bool} (h : ∀ k, f k = true → g k = true) : ∀ w, mk g w = mk f w + mk (fun k => g k && !f k) w
  | 0 => rfl
  | w + 1 => by
    have ih := mk_more h w
    unfold mk
    rw [ih]
    cases hf : f w with
    | true =>
      rw [h w hf]
      simp
      omega
    | false =>
      cases hg : g w <;> simp <;> omega
theorem mk_eq {f g : Nat → Bool} {w : Nat} : mk f w = mk g w ↔ ∀ k, k < w → f k = g k := by
  refine ⟨fun e k hk => ?_, mk_ext⟩
  have z := congrArg (fun n : Nat => n.testBit k) e
  simpa [mk_bit, hk] using z
/-! ### how many -/
def cnt (f : Nat → Bool) (w : Nat) : Nat := ((List.range w).filter f).length
theorem cnt_succ (f : Nat → Bool) (w : Nat) : cnt f (w + 1) = cnt f w + if f w then 1 else 0 := by
  unfold cnt
  rw [List.range_succ, List.filter_append, List.length_append]
  by_cases h : f w = true
  · rw [if_pos h, List.filter_cons_of_pos (p := f) h]
    rfl
  · rw [if_neg h, List.filter_cons_of_neg (p := f) h]
    rfl
theorem cnt_ext {f g : Nat → Bool} : ∀ {w : Nat}, (∀ k, k < w → f k = g k) → cnt f w = cnt g w
  | 0, _ => rfl
  | w + 1, h => by rw [cnt_succ, cnt_succ, cnt_ext fun k hk => h k (by omega), h w (by omega)]
theorem cnt_more {f g : Nat → Bool} (h : ∀ k, f k = true → g k = true) : ∀ w, cnt g w = cnt f w + cnt (fun k => g k && !f k) w
  | 0 => rfl
  | w + 1 => by
    have ih := cnt_more h w
    rw [cnt_succ, cnt_succ, cnt_succ, ih]
    cases hf : f w with
    | true =>
      rw [h w hf]
      simp
      omega
    | false =>
      cases hg : g w <;> simp <;> omega
theorem cnt_up {f : Nat → Bool} {w : Nat} (h : ∀ k, w ≤ k → f k = false) : ∀ d, cnt f (w + d) = cnt f w
  | 0 => rfl
  | d + 1 => by
    rw [← Nat.add_assoc, cnt_succ, cnt_up h d, h (w + d) (by omega)]
    rfl
theorem cnt_le {f : Nat → Bool} {w v : Nat} (hw : ∀ k, w ≤ k → f k = false) (hv : ∀ k, v ≤ k → f k = false) : cnt f w = cnt f v := by
  rcases Nat.le_total w v with h | h
  · have z := cnt_up hw (v - w)
    rw [show w + (v - w) = v by omega] at z
    exact z.symm
  · have z := cnt_up hv (w - v)
    rw [show v + (w - v) = w by omega] at z
    exact z
/-- the bits of a mask, counted by any length that is enough -/
theorem cnt_mk {f : Nat → Bool} {w L : Nat} (hL : mk f w < 2 ^ L) : cnt (fun k => (mk f w).testBit k) L = cnt f w := by
  rw [cnt_le (w := L) (v := w) (fun k hk => Nat.testBit_lt_two_pow (Nat.lt_of_lt_of_le hL (Nat.pow_le_pow_right (by decide) hk))) fun k hk => by rw [mk_bit, decide_eq_false (by omega)]; rfl]
  exact cnt_ext fun k hk => by rw [mk_bit, decide_eq_true hk]; rfl
/-- a mask as a sum -/
theorem mk_sum (f : Nat → Bool) : ∀ w, (((List.range w).filter f).map fun k => 2 ^ k).sum = mk f w
  | 0 => rfl
  | w + 1 => by
    rw [List.range_succ, List.filter_append, List.map_append, List.sum_append, mk_sum f w]
    show _ = mk f w + if f w then 2 ^ w else 0
    by_cases h : f w = true
    · rw [if_pos h, List.filter_cons_of_pos (p := f) h]
      simp
    · rw [if_neg h, List.filter_cons_of_neg (p := f) h]
      simp
end BI
set_option Elab.async false
set_option linter.all false
set_option maxRecDepth 100000
set_option maxHeartbeats 4000000
namespace OX
open PySem PySem.Spec PyProof.Rows L2 CM
def oexB (K : PySem.W.Frag) (C : Addr) : Bool := (match K.lookup C with
    | some ⟨.type "type", _, .cls cd, sl⟩ => (match cd.mro, sl.toList with
      | .ref C' :: bm, [_, _, _, _, some (.builtin n), _] => decide (C' = C) && (decide (n = "ValueError.__new__") && (!cd.hasDel && (cd.hasDict && PySem.HandSPX.refsVE bm)))
      | _, _ => false)
    | _ => false) && (He.eqO (PySem.W.findIn K (.ref C) "__setattr__") (some (some (.builtin "object.__setattr__"))) && (decide (PySem.W.subIn K (.ref C) (.type "BaseException") = some true) &&
      (decide (PySem.W.typeIn K (.ref C) = some (.type "type")) && PySem.W.keepIn K (.ref C))))
theorem oexB_ok {K : PySem.W.Frag} {C : Addr} (h : oexB K C = true) : OexC K C := by
  obtain ⟨h1, h⟩ := He.ba h
  obtain ⟨h2, h⟩ := He.ba h
  obtain ⟨h3, h⟩ := He.ba h
  obtain ⟨h4, h5⟩ := He.ba h
  refine ⟨?_, He.eqO_ok h2, of_decide_eq_true h3, of_decide_eq_true h4, h5⟩
  split at h1
  · rename_i dd cd sl ho
    split at h1
    · rename_i C' bm k0 k1 k2 k3 n k5 hm hs
      obtain ⟨g1, h1⟩ := He.ba h1
      obtain ⟨g2, h1⟩ := He.ba h1
      obtain ⟨g3, h1⟩ := He.ba h1
      obtain ⟨g4, g5⟩ := He.ba h1
      obtain ⟨nm, bs, mro, ns, qn, hd, sn, sb, ab, col, del⟩ := cd
      dsimp only at hm g3 g4
      subst hm g4
      obtain rfl : C' = C := of_decide_eq_true g1
      obtain rfl : n = "ValueError.__new__" := of_decide_eq_true g2
      obtain rfl : del = false := by
        cases del
        · rfl
        · cases g3
      obtain rfl : sl = #[k0, k1, k2, k3, some (.builtin "ValueError.__new__"), k5] := by
        rw [← Array.toArray_toList (xs := sl), hs]
      exact ⟨_, _, _, _, _, _, _, _, _, _, _, _, _, _, _, ho, g5⟩
    · cases h1
  · cases h1
/-- an own error whose __init__ stores its one argument as f -/
def errB (K : PySem.W.Frag) (C : Addr) (f : Str) : Bool := oexB K C && (He.eqO (PySem.W.findIn K (.ref C) "__init__") (some (some (.ref (He.ma K C "__init__")))) && (decide (PySem.W.typeIn K (.ref (He.ma K C "__init__")) = some (.type "function")) &&
  (He.eqO (PySem.W.findIn K (.ref C) f) (some none) && (xfB K C && decide (PySem.W.exmOne K (.ref C) (.ref C) = some true)))))
structure ErrOk (K : PySem.W.Frag) (C : Addr) (f : Str) : Prop where
  ox : OexC K C
  iC : PySem.W.findIn K (.ref C) "__init__" = some (some (.ref (He.ma K C "__init__")))
  tI : PySem.W.typeIn K (.ref (He.ma K C "__init__")) = some (.type "function")
  no : PySem.W.findIn K (.ref C) f = some none
  xf : XfC K C
  te : PySem.W.exmOne K (.ref C) (.ref C) = some true
theorem errB_ok {K : PySem.W.Frag} {C : Addr} {f : Str} (h : errB K C f = true) : ErrOk K C f := by
  obtain ⟨h1, h⟩ := He.ba h
  obtain ⟨h2, h⟩ := He.ba h
  obtain ⟨h3, h⟩ := He.ba h
  obtain ⟨h4, h⟩ := He.ba h
  obtain ⟨h5, h6⟩ := He.ba h
  exact ⟨oexB_ok h1, He.eqO_ok h2, of_decide_eq_true h3, He.eqO_ok h4, xfB_ok h5, of_decide_eq_true h6⟩
/-! ### what the names reach, and the interpreter's own statics -/
def reachY (g : Addr → Option Obj) (n : Nat) : PySem.W.Frag := He.frT g (He.asD g n ++ [cStatics])
def obsY (n : Nat) (fa : List He.Fa) (fn : List He.DefD) (ex : PySem.W.Frag → Bool) (g : Addr → Option Obj) : He.AlX :=
  (He.obsT fa fn [] (reachY g n), ex (reachY g n))
theorem saysY {n : Nat} {fa : List He.Fa} {fn : List He.DefD} {ex : PySem.W.Frag → Bool} {w : World} {h : Heap} (e : obsY n fa fn ex h.get? = He.valX fn [] w) : He.SaysX fa fn [] [] ex w h (reachY h.get? n) where
  t := congrArg Prod.fst e
  more := congrArg Prod.snd e
  hd := fun _ z => absurd z List.not_mem_nil
  out := fun _ z => absurd z List.not_mem_nil
  empty := fun _ z => absurd z List.not_mem_nil
def hookY (n : Nat) (fa : List He.Fa) (fn : List He.DefD) (ex : PySem.W.Frag → Bool) : PySem.W.Hook where
  α := He.AlX
  obs s := obsY n fa fn ex s.heap.get?
  val w := He.valX fn [] w
  says w h := ∃ K : PySem.W.Frag, K.In h ∧ He.SaysX fa fn [] [] ex w h K
  of _ s e := ⟨reachY s.heap.get? n, He.frT_in, saysY e⟩
  keeps _ _ _ z k := by
    obtain ⟨K, hK, c⟩ := z
    refine ⟨K, hK.keeps k, ?_⟩
    exact { t := c.t, more := c.more, hd := c.hd, out := c.out, empty := fun _ z => absurd z List.not_mem_nil }
theorem obsY_eq {n : Nat} {fa : List He.Fa} {fn : List He.DefD} {ex : PySem.W.Frag → Bool} {g : Addr → Option Obj} {s : Shared} (h : ∀ a, g a = s.heap.get? a) : obsY n fa fn ex g = (hookY n fa fn ex).obs s := by
  rw [show g = s.heap.get? from funext h]
  rfl
end OX
set_option Elab.async false
set_option linter.all false
set_option maxRecDepth 100000
set_option maxHeartbeats 4000000
namespace TU
open PySem PySem.Spec PyProof.Rows L2 CM
/-! ### sum, max, min of a tuple of ints -/
section
variable {prog : Program} {w : World} {A : Around} {E : Value → Shared → Prop} {s : Shared} {l : Addr} {xs : Array (Int × Tok)}
theorem iter_tup {Q : Value → Shared → Prop} (hl : s.heap.IsTuple l (intItems xs))
    (h : ∀ s₂ : Shared, s₂ = { s with heap := s.heap.push { cls := .type "tuple_iterator", data := .fields #[.ref l, .int 0 0] } } →
      (s₂.heap.IsTupleIter s.heap.objs.size l 0 ∧ s₂.heap.IsTuple l (intItems xs)) → (∀ b ∈ [s.heap.objs.size, l], b < s₂.heap.objs.size) → l ≠ s.heap.objs.size → Q (.ref s.heap.objs.size) s₂) :
    wpAny (model prog w) A (pyIter (.ref l)) Q E s := by
  have hlt : l < s.heap.objs.size := by obtain ⟨_, e, _⟩ := hl; exact Heap.lt_size e
  refine wpAny_pyIter_tuple hl (h _ rfl ⟨⟨_, Heap.get?_push_size _ rfl, rfl, rfl⟩, hl.push _⟩ (fun b hb => ?_) (Nat.ne_of_lt hlt))
  show b < (s.heap.push _).objs.size
  rw [Heap.size_push]
  rcases List.mem_cons.mp hb with rfl | hb
  · exact Nat.lt_succ_self _
  · rcases List.mem_cons.mp hb with rfl | hb
    · exact Nat.lt_succ_of_lt hlt
    · cases hb
theorem old_keptT {h' : Heap} (hk : ∀ b o, b ∉ [s.heap.objs.size] → (s.heap.push { cls := .type "tuple_iterator", data := .fields #[.ref l, .int 0 0] }).get? b = some o → h'.get? b = some o) :
    ∀ b o, s.heap.get? b = some o → h'.get? b = some o := fun b o e => by
  refine hk b o (fun hm => ?_) (Heap.get?_push_of_some _ e)
  rcases List.mem_cons.mp hm with e1 | hm
  · exact absurd (e1 ▸ Heap.lt_size e) (Nat.lt_irrefl _)
  · cases hm
theorem max_intTup {Q : Value → Shared → Prop} (hh : A.handled = none) (hl : s.heap.IsTuple l (intItems xs)) (hne : 0 < xs.size)
    (h : ∀ v h' tk, (intItems xs)[argBest (fun i j => decide (numAt xs i > numAt xs j)) (xs.size - 1)]? = some v → (∀ b o, s.heap.get? b = some o → h'.get? b = some o) → Q v { s with heap := h', toks := tk }) :
    wpAny (model prog w) A (call (.builtin "max") [.ref l]) Q E s := by
  refine call_max_walk (iter_tup hl fun s₂ e st hfp hlI => ?_)
  subst e
  refine ⟨_, _, _, _, _, _, _, rfl, Walks.tuple (A := A.in1) hh _ l hlI (intItems xs), st, hfp, by simpa [intItems] using hne, CmpOf.ints_gt (numAt xs) (fun _ _ => intItems_at), fun v h' tk hP hk => ?_⟩
  exact h v h' tk (by simpa [intItems] using hP) (old_keptT hk)
theorem min_intTup {Q : Value → Shared → Prop} (hh : A.handled = none) (hl : s.heap.IsTuple l (intItems xs)) (hne : 0 < xs.size)
    (h : ∀ v h' tk, (intItems xs)[argBest (fun i j => decide (numAt xs i < numAt xs j)) (xs.size - 1)]? = some v → (∀ b o, s.heap.get? b = some o → h'.get? b = some o) → Q v { s with heap := h', toks := tk }) :
    wpAny (model prog w) A (call (.builtin "min") [.ref l]) Q E s := by
  refine call_min_walk (iter_tup hl fun s₂ e st hfp hlI => ?_)
  subst e
  refine ⟨_, _, _, _, _, _, _, rfl, Walks.tuple (A := A.in1) hh _ l hlI (intItems xs), st, hfp, by simpa [intItems] using hne, CmpOf.ints_lt (numAt xs) (fun _ _ => intItems_at), fun v h' tk hP hk => ?_⟩
  exact h v h' tk (by simpa [intItems] using hP) (old_keptT hk)
theorem sum_intTup {Q : Value → Shared → Prop} (hh : A.handled = none) (hl : s.heap.IsTuple l (intItems xs))
    (h : ∀ h' tk t', (∀ b o, s.heap.get? b = some o → h'.get? b = some o) → Q (.int (preSum (numAt xs) xs.size) t') { s with heap := h', toks := tk }) :
    wpAny (model prog w) A (call (.builtin "sum") [.ref l]) Q E s := by
  refine call_sum_walkG (iter_tup hl fun s₂ e st hfp hlI => ?_)
  subst e
  refine ⟨_, _, _, _, _, _, numAt xs, rfl, Walks.tuple (A := A.in1) hh _ l hlI (intItems xs), st, hfp, (fun _ _ => intItems_at), fun h' tk t' hk => ?_⟩
  have := h h' tk t' (old_keptT hk)
  simpa [intItems] using this
end
section
variable {prog : Program} {w : World} {A : Around} {E : Value → Shared → Prop} {s : Shared} {l : Addr} {its : List Value} {ns : List Int} {Q : Value → Shared → Prop}
theorem sum_rawT (hh : A.handled = none) (hl : s.heap.IsTuple l its.toArray) (hi : IntsAre its ns)
    (h : ∀ h' tk t', (∀ b o, s.heap.get? b = some o → h'.get? b = some o) → Q (.int ns.sum t') { s with heap := h', toks := tk }) : wpAny (model prog w) A (call (.builtin "sum") [.ref l]) Q E s := by
  obtain ⟨xs, e⟩ := hi.allInts.items
  have hn : numsOf (intItems xs).toList = ns := by rw [← e]; exact hi.numsOf
  rw [nums_intItems] at hn
  rw [e] at hl
  refine sum_intTup hh hl fun h' tk t' hk => ?_
  have := h h' tk t' hk
  rw [preSum_eq, List.take_of_length_le (by simp), hn]; exact this
theorem max_rawT (hh : A.handled = none) (hl : s.heap.IsTuple l its.toArray) (hi : IntsAre its ns) (hne : 0 < ns.length)
    (h : ∀ h' tk M t', (∀ b o, s.heap.get? b = some o → h'.get? b = some o) → M ∈ ns → (∀ a, a ∈ ns → a ≤ M) → Q (.int M t') { s with heap := h', toks := tk }) : wpAny (model prog w) A (call (.builtin "max") [.ref l]) Q E s := by
  obtain ⟨xs, e⟩ := hi.allInts.items
  have hn : numsOf (intItems xs).toList = ns := by rw [← e]; exact hi.numsOf
  rw [nums_intItems] at hn
  subst hn
  rw [e] at hl
  have hsz : 0 < xs.size := by simpa using hne
  refine max_intTup hh hl hsz fun v h' tk hv hk => ?_
  obtain ⟨t, rfl⟩ := intItems_at hv
  obtain ⟨h1, h2⟩ := argBest_gt (numAt xs) (xs.size - 1)
  refine h h' tk _ t hk ?_ fun a ha => ?_
  · rw [numAt_eq]; exact PySem.getD_mem (by rw [List.length_map, Array.length_toList]; omega)
  · obtain ⟨j, hj, rfl⟩ := mem_getD ha
    rw [List.length_map, Array.length_toList] at hj
    rw [← numAt_eq]; exact h2 j (by omega)
theorem min_rawT (hh : A.handled = none) (hl : s.heap.IsTuple l its.toArray) (hi : IntsAre its ns) (hne : 0 < ns.length)
    (h : ∀ h' tk M t', (∀ b o, s.heap.get? b = some o → h'.get? b = some o) → M ∈ ns → (∀ a, a ∈ ns → M ≤ a) → Q (.int M t') { s with heap := h', toks := tk }) : wpAny (model prog w) A (call (.builtin "min") [.ref l]) Q E s := by
  obtain ⟨xs, e⟩ := hi.allInts.items
  have hn : numsOf (intItems xs).toList = ns := by rw [← e]; exact hi.numsOf
  rw [nums_intItems] at hn
  subst hn
  rw [e] at hl
  have hsz : 0 < xs.size := by simpa using hne
  refine min_intTup hh hl hsz fun v h' tk hv hk => ?_
  obtain ⟨t, rfl⟩ := intItems_at hv
  obtain ⟨h1, h2⟩ := argBest_lt (numAt xs) (xs.size - 1)
  refine h h' tk _ t hk ?_ fun a ha => ?_
  · rw [numAt_eq]; exact PySem.getD_mem (by rw [List.length_map, Array.length_toList]; omega)
  · obtain ⟨j, hj, rfl⟩ := mem_getD ha
    rw [List.length_map, Array.length_toList] at hj
    rw [← numAt_eq]; exact h2 j (by omega)
end
section
variable {X : Cx}
def rSumT (K : PySem.W.Frag) : List V → Hp → VK → Prop := fun vs H Q => ∃ (a : Addr) (ns : List Int), vs = [V.ref a] ∧ SqT K H a (ns.map V.int) ∧ Q (.int ns.sum) H
def rMaxT (K : PySem.W.Frag) : List V → Hp → VK → Prop := fun vs H Q => ∃ (a : Addr) (ns : List Int), vs = [V.ref a] ∧ SqT K H a (ns.map V.int) ∧ 0 < ns.length ∧ ∀ m, m ∈ ns → (∀ y, y ∈ ns → y ≤ m) → Q (.int m) H
def rMinT (K : PySem.W.Frag) : List V → Hp → VK → Prop := fun vs H Q => ∃ (a : Addr) (ns : List Int), vs = [V.ref a] ∧ SqT K H a (ns.map V.int) ∧ 0 < ns.length ∧ ∀ m, m ∈ ns → (∀ y, y ∈ ns → m ≤ y) → Q (.int m) H
theorem cr_sumT {K : PySem.W.Frag} (hc : X.calm = true) (hK : X.K = K := by rfl) : CallR X (.builtin "sum") (rSumT K) := by
  subst hK
  intro pins s σ H vs us Q I r h
  obtain ⟨a, ns, rfl, hs, q⟩ := h
  obtain ⟨its, rv, hl, _⟩ := I.tuple hs
  rw [Vals.ref1 r]
  exact sum_rawT (I.ok.hd hc) hl rv.ints fun h' tk t' hk => ⟨.int _, H, I.kept hk, ⟨_, rfl⟩, q⟩
theorem cr_maxT {K : PySem.W.Frag} (hc : X.calm = true) (hK : X.K = K := by rfl) : CallR X (.builtin "max") (rMaxT K) := by
  subst hK
  intro pins s σ H vs us Q I r h
  obtain ⟨a, ns, rfl, hs, hne, q⟩ := h
  obtain ⟨its, rv, hl, _⟩ := I.tuple hs
  rw [Vals.ref1 r]
  exact max_rawT (I.ok.hd hc) hl rv.ints hne fun h' tk m t' hk h1 h2 => ⟨.int _, H, I.kept hk, ⟨_, rfl⟩, q m h1 h2⟩
theorem cr_minT {K : PySem.W.Frag} (hc : X.calm = true) (hK : X.K = K := by rfl) : CallR X (.builtin "min") (rMinT K) := by
  subst hK
  intro pins s σ H vs us Q I r h
  obtain ⟨a, ns, rfl, hs, hne, q⟩ := h
  obtain ⟨its, rv, hl, _⟩ := I.tuple hs
  rw [Vals.ref1 r]
  exact min_rawT (I.ok.hd hc) hl rv.ints hne fun h' tk m t' hk h1 h2 => ⟨.int _, H, I.kept hk, ⟨_, rfl⟩, q m h1 h2⟩
theorem cr_maxK {K : PySem.W.Frag} (hc : X.calm = true) (hK : X.K = K := by rfl) : CallR X (.builtin "max") (rMax K) := by
  subst hK
  exact cr_max hc
theorem cr_minK {K : PySem.W.Frag} (hc : X.calm = true) (hK : X.K = K := by rfl) : CallR X (.builtin "min") (rMin K) := by
  subst hK
  exact cr_min hc
end
end TU
set_option Elab.async false
set_option linter.all false
set_option maxRecDepth 100000
set_option maxHeartbeats 4000000
namespace ZN
open PySem PySem.Spec PyProof.Rows L2 CM
open PySem.Sem (wp)
/-! ### zip of any number of tuples -/
section
variable {prog : Program} {w : World} {A : Around} {E : Value → Shared → Prop} {s : Shared}
theorem wpAny_loadIfAlive {M : Model} {a : Addr} {Q : Option Obj → Shared → Prop} (h : Q (s.heap.get? a) s) : wpAny M A (loadIfAlive a) Q E s := fun Γ p hΓ => by
  unfold loadIfAlive
  rw [Sem.wp_loadIfAlive]
  exact h
abbrev IsZipG (h : Heap) (z TI TO : Addr) (f0 f1 : Value) : Prop := h.get? z = some { cls := .type "zip", dict := none, data := .fields #[f0, f1, .bool false, .ref TI, .ref TO], slots := #[] }
abbrev IsTupO (h : Heap) (T : Addr) (vs : Array Value) : Prop := h.get? T = some { cls := .type "tuple", data := .seq vs }
abbrev Js := List (Addr × Addr)
def itsOf (js : Js) : Array Value := (js.map fun j => Value.ref j.1).toArray
structure Apart (z TI TO : Addr) (js : Js) : Prop where
  TIz : TI ≠ z
  TOz : TO ≠ z
  TITO : TI ≠ TO
  iz : ∀ j ∈ js, j.1 ≠ z ∧ j.1 ≠ TI ∧ j.1 ≠ TO
  nd : (js.map (·.1)).Nodup
  lz : ∀ j ∈ js, j.2 ≠ z ∧ j.2 ≠ TO ∧ ∀ k ∈ js, j.2 ≠ k.1
/-- the value that each gives at turn i -/
def Gives (h : Heap) (i : Nat) : Js → List Value → Prop := Paired fun j v => ∃ xs, h.IsTuple j.2 xs ∧ xs[i]? = some v
/-- what a turn keeps -/
def Kept (z TO : Addr) (js : Js) (h h' : Heap) : Prop := ∀ c o, c ≠ z → c ≠ TO → (∀ j ∈ js, c ≠ j.1) → h.get? c = some o → h'.get? c = some o
theorem Kept.trans {z TO : Addr} {js : Js} {h h1 h2 : Heap} (a : Kept z TO js h h1) (b : Kept z TO js h1 h2) : Kept z TO js h h2 := fun c o c1 c2 c3 e => b c o c1 c2 c3 (a c o c1 c2 c3 e)
theorem itsOf_list (js : Js) : (itsOf js).toList = js.map fun j => Value.ref j.1 := by unfold itsOf; rfl
theorem Gives.at {js : Js} {h h' : Heap} {i : Nat} {vals : List Value} (g : Gives h i js vals) (k : ∀ j ∈ js, ∀ o, h.get? j.2 = some o → h'.get? j.2 = some o) : Gives h' i js vals := by
  unfold Gives at g ⊢
  induction g with
  | nil => exact .nil
  | @cons j v js vals a t ih =>
    obtain ⟨xs, hx, hv⟩ := a
    exact .cons ⟨xs, hx.at (k j (List.mem_cons_self ..)), hv⟩ (ih fun j' hj' => k j' (List.mem_cons_of_mem _ hj'))
/-- the iterators ahead have gone, the others wait -/
structure Mid (z TO : Addr) (js : Js) (i : Nat) (vals : List Value) (h0 h : Heap) (done todo : Js) (vs1 vs2 : List Value) : Prop where
  eq : js = done ++ todo
  eqv : vals = vs1 ++ vs2
  len : vs1.length = done.length
  g : Gives h i todo vs2
  gone : ∀ j ∈ done, h.IsTupleIter j.1 j.2 (i + 1)
  wait : ∀ j ∈ todo, h.IsTupleIter j.1 j.2 i
  size : h.objs.size = h0.objs.size
  kept : Kept z TO js h0 h
theorem Mid.start {z TO : Addr} {js : Js} {i : Nat} {vals : List Value} {h0 h : Heap} (hi : ∀ j ∈ js, h.IsTupleIter j.1 j.2 i) (hg : Gives h i js vals) (hs : h.objs.size = h0.objs.size) (hk : Kept z TO js h0 h) : Mid z TO js i vals h0 h [] js [] vals :=
  ⟨rfl, rfl, rfl, hg, (fun _ z => by cases z), hi, hs, hk⟩
/-- writes at z or TO alone -/
theorem Mid.at {z TI TO a : Addr} {js : Js} {i : Nat} {vals : List Value} {h0 h h' : Heap} {done todo : Js} {vs1 vs2 : List Value} (m : Mid z TO js i vals h0 h done todo vs1 vs2) (D : Apart z TI TO js) (ha : a = z ∨ a = TO) (sb : Heap.SameBut a h h') : Mid z TO js i vals h0 h' done todo vs1 vs2 := by
  have e1 : ∀ j ∈ js, j.1 ≠ a := fun j hj => by
    rcases ha with rfl | rfl
    · exact (D.iz j hj).1
    · exact (D.iz j hj).2.2
  have e2 : ∀ j ∈ js, j.2 ≠ a := fun j hj => by
    rcases ha with rfl | rfl
    · exact (D.lz j hj).1
    · exact (D.lz j hj).2.1
  have inn : ∀ j, j ∈ done ∨ j ∈ todo → j ∈ js := fun j hj => by
    rw [m.eq]
    exact List.mem_append.mpr hj
  refine ⟨m.eq, m.eqv, m.len, m.g.at fun j hj o e => (sb.2 _ (e2 j (inn j (.inr hj)))).trans e, fun j hj => (m.gone j hj).at fun o e => (sb.2 _ (e1 j (inn j (.inl hj)))).trans e, fun j hj => (m.wait j hj).at fun o e => (sb.2 _ (e1 j (inn j (.inr hj)))).trans e, sb.1.trans m.size, m.kept.trans fun c o c1 c2 _ e => ?_⟩
  refine (sb.2 c ?_).trans e
  rcases ha with rfl | rfl
  · exact c1
  · exact c2
/-- one more has gone -/
theorem Mid.next {z TI TO : Addr} {js : Js} {i : Nat} {vals : List Value} {h0 h h' : Heap} {j : Addr × Addr} {v : Value} {done todo : Js} {vs1 vs2 : List Value} (m : Mid z TO js i vals h0 h done (j :: todo) vs1 (v :: vs2)) (D : Apart z TI TO js) (hj : h'.IsTupleIter j.1 j.2 (i + 1)) (sb : Heap.SameBut j.1 h h') :
    Mid z TO js i vals h0 h' (done ++ [j]) todo (vs1 ++ [v]) vs2 := by
  have mj : j ∈ js := by
    rw [m.eq]
    exact List.mem_append.mpr (.inr (List.mem_cons_self ..))
  have inn : ∀ k, k ∈ done ∨ k ∈ todo → k ∈ js := fun k hk => by
    rw [m.eq]
    exact List.mem_append.mpr (hk.imp id (List.mem_cons_of_mem _))
  have ne : ∀ k, k ∈ done ∨ k ∈ todo → k.1 ≠ j.1 := fun k hk e => by
    have nd := D.nd
    rw [m.eq, List.map_append, List.map_cons, List.nodup_append] at nd
    rcases hk with hk | hk
    · exact nd.2.2 k.1 (List.mem_map.mpr ⟨k, hk, rfl⟩) j.1 (List.mem_cons_self ..) e
    · exact (List.nodup_cons.mp nd.2.1).1 (e ▸ List.mem_map.mpr ⟨k, hk, rfl⟩)
  have g2 : Gives h i todo vs2 := by
    cases m.g with
    | cons a t => exact t
  refine ⟨by rw [m.eq, List.append_assoc]; rfl, by rw [m.eqv, List.append_assoc]; rfl, by rw [List.length_append, List.length_append, m.len]; rfl, g2.at fun k hk o e => (sb.2 _ ((D.lz k (inn k (.inr hk))).2.2 j mj)).trans e, fun k hk => ?_, fun k hk => (m.wait k (List.mem_cons_of_mem _ hk)).at fun o e => (sb.2 _ (ne k (.inr hk))).trans e, sb.1.trans m.size, m.kept.trans fun c o _ _ c3 e => (sb.2 c (c3 j mj)).trans e⟩
  rcases List.mem_append.mp hk with hk | hk
  · exact (m.gone k hk).at fun o e => (sb.2 _ (ne k (.inl hk))).trans e
  · rw [List.mem_singleton.mp hk]
    exact hj
theorem Kept.but {z TO a : Addr} {js : Js} {h h' : Heap} (ha : a = z ∨ a = TO) (sb : Heap.SameBut a h h') : Kept z TO js h h' := fun c o c1 c2 _ e => (sb.2 c (by
  rcases ha with rfl | rfl
  · exact c1
  · exact c2)).trans e
theorem zipN_item {z TI TO : Addr} {js : Js} {i : Nat} {f0 f1 : Value} {tos : Array Value} {vals : List Value} {Q : Value → Shared → Prop} (D : Apart z TI TO js) (hne : js ≠ []) (hsz : js.length ≤ 1000)
    (hz : IsZipG s.heap z TI TO f0 f1) (hf : f0 = .none ∨ ∃ T : Nat, f0 = rawInt T) (hTI : IsTupO s.heap TI (itsOf js)) (hTO : IsTupO s.heap TO tos) (ht : tos.size = js.length)
    (hi : ∀ j ∈ js, s.heap.IsTupleIter j.1 j.2 i) (hg : Gives s.heap i js vals)
    (hQ : ∀ h' (T : Nat) g1 tos', IsZipG h' z TI TO (rawInt T) g1 → IsTupO h' TO tos' → tos'.size = js.length → (∀ j ∈ js, h'.IsTupleIter j.1 j.2 (i + 1)) → IsTupO h' s.heap.objs.size vals.toArray → h'.objs.size = s.heap.objs.size + 1 →
      Kept z TO js s.heap h' → Q (.ref s.heap.objs.size) { s with heap := h' }) :
    wpAny (model prog w) A (Builtin.«zip.__next__» ⟨[.ref z], []⟩) (fun fin s' => ∃ v, fin = .done (.ret v) ∧ Q v s') E s := by
  have lv : vals.length = js.length := (Paired.length hg).symm
  have big : vals.length ≤ sizeLine := by rw [lv, sizeLine_eq]; omega
  show wpAny _ _ (field (.ref z) 2 >>= _) _ _ _
  refine wpAny_bind (wpAny_field hz rfl (x := .bool false) rfl ?_)
  show wpAny _ _ (field (.ref z) 3 >>= _) _ _ _
  refine wpAny_bind (wpAny_field hz rfl (x := .ref TI) rfl ?_)
  refine wpAny_bind (wpAny_seqItems hTI rfl ?_)
  have ne : (itsOf js).isEmpty = false := by
    cases js with
    | nil => exact absurd rfl hne
    | cons j js => simp [itsOf]
  dsimp only
  rw [ne]
  simp only [Bool.false_eq_true, if_false]
  refine wpAny_bind (wpAny_mono (Q := fun b s' => (b = true ∧ s = s') ∨ (b = false ∧ ∃ (T : Nat) (g1 : Value) (h' : Heap), s' = { s with heap := h' } ∧ IsZipG h' z TI TO (rawInt T) g1 ∧ Heap.SameBut z s.heap h')) ?free (fun b s' hb => ?_) (fun _ _ e => e))
  case free =>
    unfold Builtin.SmallTypes.ownedTupleIsFree
    refine wpAny_bind (wpAny_field hz rfl (x := f0) rfl ?_)
    rcases hf with rfl | ⟨T, rfl⟩
    · exact wpAny_pure (.inl ⟨rfl, rfl⟩)
    · refine wpAny_bind (wpAny_loadIfAlive ?_)
      cases hT : s.heap.get? (Int.toNat (T : Int)) with
      | none => exact wpAny_pure (.inl ⟨rfl, rfl⟩)
      | some o =>
        simp only [Option.isNone_some, Bool.false_eq_true, if_false]
        refine wpAny_bind (wpAny_field hz rfl (x := f1) rfl ?_)
        split
        · refine wpAny_bind (wpAny_setField_rec hz (by simp) fun h₁ hz₁ hs₁ => ?_)
          exact wpAny_pure (.inr ⟨rfl, T, .bool true, h₁, rfl, hz₁, hs₁⟩)
        · exact wpAny_pure (.inr ⟨rfl, T, f1, s.heap, rfl, hz, ⟨rfl, fun _ _ => rfl⟩⟩)
  rcases hb with ⟨rfl, rfl⟩ | ⟨rfl, T, g1, h1, rfl, hz1, sb1⟩
  · -- the tuple of its own
    simp only [if_true]
    refine wpAny_bind (wpAny_rule ?_)
    refine wpAny_bind (wpAny_field hz rfl (x := .ref TO) rfl ?_)
    dsimp only
    refine wpAny_bind (wpAny_setField_rec hz (by simp) fun h₁ hz₁ hs₁ => ?_)
    replace hz₁ : IsZipG h₁ z TI TO .ellipsis f1 := hz₁
    rw [itsOf_list]
    refine wpAny_bind (wpAny_forIn_list _ (fun rest b s' => ∃ (done todo : Js) (vs1 vs2 : List Value) (h : Heap) (ts : Array Value), s' = { s with heap := h } ∧ b = (none, ()) ∧ rest = (todo.map fun j => Value.ref j.1).zipIdx done.length ∧ Mid z TO js i vals s.heap h done todo vs1 vs2 ∧
      IsZipG h z TI TO .ellipsis f1 ∧ IsTupO h TO ts ∧ ts.size = js.length ∧ ∀ k, k < done.length → ts[k]? = vs1[k]?) _ ?_ ?_ _ _ ?_)
    · rintro x rest b s2 ⟨done, todo, vs1, vs2, h, ts, rfl, rfl, er, m, hz2, hT2, tz, hk⟩
      cases todo with
      | nil => cases er
      | cons j todo =>
        rw [List.map_cons, List.zipIdx_cons] at er
        obtain ⟨rfl, rfl⟩ := List.cons.inj er
        obtain ⟨v, vs2', rfl, ⟨xs, hx, hv⟩⟩ : ∃ v vs2', vs2 = v :: vs2' ∧ ∃ xs, h.IsTuple j.2 xs ∧ xs[i]? = some v := by
          have g := m.g
          cases g with
          | cons a t => exact ⟨_, _, rfl, a⟩
        dsimp only
        refine wpAny_bind (wpAny_onRaise ?_)
        show wpAny _ _ (Builtin.SmallTypes.nextOf (.ref j.1) >>= _) _ _ _
        refine wpAny_bind (RZ.nextOf_tuple_item (m.wait j (List.mem_cons_self ..)) hx hv fun h₂ h1₂ hs₂ => wpAny_pure ?_)
        have m2 := m.next D h1₂ hs₂
        have mj : j ∈ js := by
          rw [m.eq]
          exact List.mem_append.mpr (.inr (List.mem_cons_self ..))
        have hT3 : IsTupO h₂ TO ts := (hs₂.2 _ (Ne.symm (D.iz j mj).2.2)).trans hT2
        have hz3 : IsZipG h₂ z TI TO .ellipsis f1 := (hs₂.2 _ (Ne.symm (D.iz j mj).1)).trans hz2
        dsimp only
        refine wpAny_bind (wpAny_seqItems hT3 rfl ?_)
        dsimp only
        refine wpAny_bind (wpAny_updateSeq hT3 rfl ?_ (by rw [tz, sizeLine_eq]; omega) (by rw [Array.size_setIfInBounds, tz, sizeLine_eq]; omega))
        refine wpAny_bind (wpAny_letGo (wpAny_pure ?_))
        have hT4 : IsTupO (h₂.update TO (Obj.mapSeq fun x_2 => x_2.setIfInBounds done.length v)) TO (ts.setIfInBounds done.length v) := by
          show _ = _
          rw [Heap.get?_update_self _ hT3 rfl]
          simp [Obj.mapSeq]
        have sb4 : Heap.SameBut TO h₂ (h₂.update TO (Obj.mapSeq fun x_2 => x_2.setIfInBounds done.length v)) := Heap.SameBut.update ..
        refine ⟨done ++ [j], todo, vs1 ++ [v], vs2', _, ts.setIfInBounds done.length v, rfl, rfl, ?_, m2.at D (.inr rfl) sb4, (sb4.2 _ (Ne.symm D.TOz)).trans hz3, hT4, by rw [Array.size_setIfInBounds, tz], fun k hk' => ?_⟩
        · rw [List.length_append]
          rfl
        · rw [List.length_append, List.length_singleton] at hk'
          have ll : done.length < ts.size := by
            rw [tz, m.eq, List.length_append, List.length_cons]
            omega
          by_cases e : k = done.length
          · subst e
            rw [Array.getElem?_setIfInBounds_self_of_lt ll, ← m.len, List.getElem?_append_right (Nat.le_refl _), Nat.sub_self]
            rfl
          · rw [Array.getElem?_setIfInBounds_ne (Ne.symm e), hk k (by omega), List.getElem?_append_left (by rw [m.len]; omega)]
    · rintro b s2 ⟨done, todo, vs1, vs2, h, ts, rfl, rfl, er, m, hz2, hT2, tz, hk⟩
      cases todo with
      | cons j todo =>
        rw [List.map_cons, List.zipIdx_cons] at er
        cases er
      | nil =>
        have g := m.g
        have e1 : js = done := by rw [m.eq, List.append_nil]
        have e2 : vals = vs1 := by
          cases g
          rw [m.eqv, List.append_nil]
        subst e1
        subst e2
        have et : ts = vals.toArray := by
          refine Array.ext_getElem? fun k => ?_
          by_cases hk' : k < js.length
          · rw [hk k hk', List.getElem?_toArray]
          · rw [Array.getElem?_eq_none (by omega), List.getElem?_toArray, List.getElem?_eq_none (by omega)]
        subst et
        dsimp only
        refine wpAny_bind (wpAny_seqItems hT2 rfl ?_)
        dsimp only
        refine wpAny_bind (wpAny_newTuple ?_ (by simpa using big))
        have hs : h.objs.size = s.heap.objs.size := m.size
        have hzlt : z < h.objs.size := Heap.lt_size hz2
        refine wpAny_bind ?_
        unfold Builtin.SmallTypes.ownedTupleHandOut
        dsimp only
        have hz₆ : IsZipG (h.push { cls := .type "tuple", data := .seq vals.toArray.toList.toArray }) z TI TO .ellipsis f1 := Heap.get?_push_of_some _ hz2
        refine wpAny_bind (wpAny_setField_rec hz₆ (by simp) fun h₇ hz₇ hs₇ => ?_)
        replace hz₇ : IsZipG h₇ z TI TO (rawInt h.objs.size) f1 := hz₇
        refine wpAny_setField_rec hz₇ (by simp) fun h₈ hz₈ hs₈ => ?_
        replace hz₈ : IsZipG h₈ z TI TO (rawInt h.objs.size) (.bool false) := hz₈
        have up : ∀ c o, c ≠ z → h.get? c = some o → h₈.get? c = some o := fun c o c1 e => (hs₈.2 _ c1).trans ((hs₇.2 _ c1).trans (Heap.get?_push_of_some _ e))
        have hT₈ : IsTupO h₈ h.objs.size vals.toArray := (hs₈.2 _ (Nat.ne_of_gt hzlt)).trans ((hs₇.2 _ (Nat.ne_of_gt hzlt)).trans (Heap.get?_push_size _ rfl))
        have hz8 : h₈.objs.size = s.heap.objs.size + 1 := by rw [hs₈.1, hs₇.1, Heap.size_push, hs]
        refine wpAny_pure ⟨_, rfl, ?_⟩
        rw [hs] at hT₈
        show Q (.ref h.objs.size) _
        rw [hs]
        exact hQ h₈ _ _ vals.toArray hz₈ (up _ _ D.TOz hT2) tz (fun j hj => (m.gone j hj).at fun o e => up _ o (D.iz j hj).1 e) hT₈ hz8 (m.kept.trans fun c o c1 _ _ e => up c o c1 e)
    · refine ⟨[], js, [], vals, h₁, tos, rfl, rfl, rfl, ?_, hz₁, (hs₁.2 _ D.TOz).trans hTO, ht, fun k hk => absurd hk (Nat.not_lt_zero _)⟩
      exact Mid.start (fun j hj => (hi j hj).at fun o e => (hs₁.2 _ (D.iz j hj).1).trans e) (hg.at fun j hj o e => (hs₁.2 _ (D.lz j hj).1).trans e) hs₁.1 (Kept.but (.inl rfl) hs₁)
  · -- a new one
    simp only [Bool.false_eq_true, if_false]
    rw [← Array.forIn_toList, itsOf_list]
    refine wpAny_bind (wpAny_forIn_list _ (fun rest b s' => ∃ (done todo : Js) (vs1 vs2 : List Value) (h : Heap), s' = { s with heap := h } ∧ b = (none, vs1.toArray) ∧ rest = (todo.map fun j => Value.ref j.1) ∧ Mid z TO js i vals s.heap h done todo vs1 vs2 ∧
      IsZipG h z TI TO (rawInt T) g1 ∧ IsTupO h TO tos) _ ?_ ?_ _ _ ?_)
    · rintro x rest b s2 ⟨done, todo, vs1, vs2, h, rfl, rfl, er, m, hz2, hT2⟩
      cases todo with
      | nil => cases er
      | cons j todo =>
        obtain ⟨rfl, rfl⟩ := List.cons.inj er
        obtain ⟨v, vs2', rfl, ⟨xs, hx, hv⟩⟩ : ∃ v vs2', vs2 = v :: vs2' ∧ ∃ xs, h.IsTuple j.2 xs ∧ xs[i]? = some v := by
          have g := m.g
          cases g with
          | cons a t => exact ⟨_, _, rfl, a⟩
        refine wpAny_bind (wpAny_holding ?_)
        show wpAny _ _ (Builtin.SmallTypes.nextOf (.ref j.1) >>= _) _ _ _
        refine wpAny_bind (RZ.nextOf_tuple_item (m.wait j (List.mem_cons_self ..)) hx hv fun h₂ h1₂ hs₂ => wpAny_pure ?_)
        have m2 := m.next D h1₂ hs₂
        have mj : j ∈ js := by
          rw [m.eq]
          exact List.mem_append.mpr (.inr (List.mem_cons_self ..))
        exact wpAny_pure ⟨done ++ [j], todo, vs1 ++ [v], vs2', h₂, rfl, by simp, rfl, m2, (hs₂.2 _ (Ne.symm (D.iz j mj).1)).trans hz2, (hs₂.2 _ (Ne.symm (D.iz j mj).2.2)).trans hT2⟩
    · rintro b s2 ⟨done, todo, vs1, vs2, h, rfl, rfl, er, m, hz2, hT2⟩
      cases todo with
      | cons j todo => cases er
      | nil =>
        have g := m.g
        have e1 : js = done := by rw [m.eq, List.append_nil]
        have e2 : vals = vs1 := by
          cases g
          rw [m.eqv, List.append_nil]
        subst e1
        subst e2
        have hs : h.objs.size = s.heap.objs.size := m.size
        dsimp only
        refine wpAny_bind (wpAny_newTuple ?_ (by simpa using big))
        refine wpAny_pure ⟨_, rfl, ?_⟩
        show Q (.ref h.objs.size) _
        rw [hs]
        refine hQ _ T g1 tos (Heap.get?_push_of_some _ hz2) (Heap.get?_push_of_some _ hT2) ht (fun j hj => (m.gone j hj).at fun o e => Heap.get?_push_of_some _ e) ?_ (by rw [Heap.size_push, hs]) (m.kept.trans fun c o _ _ _ e => Heap.get?_push_of_some _ e)
        rw [← hs]
        exact Heap.get?_push_size _ rfl
    · refine ⟨[], js, [], vals, h1, rfl, rfl, rfl, ?_, hz1, (sb1.2 _ D.TOz).trans hTO⟩
      exact Mid.start (fun j hj => (hi j hj).at fun o e => (sb1.2 _ (D.iz j hj).1).trans e) (hg.at fun j hj o e => (sb1.2 _ (D.lz j hj).1).trans e) sb1.1 (Kept.but (.inl rfl) sb1)
theorem zipN_end {z TI TO : Addr} {j : Addr × Addr} {js : Js} {i : Nat} {f0 f1 : Value} {xs : Array Value} {Q : Fin → Shared → Prop} (hh : A.handled = none) (D : Apart z TI TO (j :: js))
    (hz : IsZipG s.heap z TI TO f0 f1) (hf : f0 = .none ∨ ∃ T : Nat, f0 = rawInt T) (hTI : IsTupO s.heap TI (itsOf (j :: js)))
    (hi : s.heap.IsTupleIter j.1 j.2 i) (hx : s.heap.IsTuple j.2 xs) (he : xs[i]? = none)
    (hE : ∀ h' e, Kept z TO (j :: js) s.heap h' → (∃ o, h'.get? e = some o ∧ o.cls = .type "StopIteration") → E (.ref e) { s with heap := h' }) :
    wpAny (model prog w) A (Builtin.«zip.__next__» ⟨[.ref z], []⟩) Q E s := by
  have mj : j ∈ j :: js := List.mem_cons_self ..
  show wpAny _ _ (field (.ref z) 2 >>= _) _ _ _
  refine wpAny_bind (wpAny_field hz rfl (x := .bool false) rfl ?_)
  show wpAny _ _ (field (.ref z) 3 >>= _) _ _ _
  refine wpAny_bind (wpAny_field hz rfl (x := .ref TI) rfl ?_)
  refine wpAny_bind (wpAny_seqItems hTI rfl ?_)
  have ne : (itsOf (j :: js)).isEmpty = false := by simp [itsOf]
  dsimp only
  rw [ne]
  simp only [Bool.false_eq_true, if_false]
  refine wpAny_bind (wpAny_mono (Q := fun b s' => (b = true ∧ s = s') ∨ (b = false ∧ ∃ (T : Nat) (g1 : Value) (h' : Heap), s' = { s with heap := h' } ∧ IsZipG h' z TI TO (rawInt T) g1 ∧ Heap.SameBut z s.heap h')) ?free (fun b s' hb => ?_) (fun _ _ e => e))
  case free =>
    unfold Builtin.SmallTypes.ownedTupleIsFree
    refine wpAny_bind (wpAny_field hz rfl (x := f0) rfl ?_)
    rcases hf with rfl | ⟨T, rfl⟩
    · exact wpAny_pure (.inl ⟨rfl, rfl⟩)
    · refine wpAny_bind (wpAny_loadIfAlive ?_)
      cases hT : s.heap.get? (Int.toNat (T : Int)) with
      | none => exact wpAny_pure (.inl ⟨rfl, rfl⟩)
      | some o =>
        simp only [Option.isNone_some, Bool.false_eq_true, if_false]
        refine wpAny_bind (wpAny_field hz rfl (x := f1) rfl ?_)
        split
        · refine wpAny_bind (wpAny_setField_rec hz (by simp) fun h₁ hz₁ hs₁ => ?_)
          exact wpAny_pure (.inr ⟨rfl, T, .bool true, h₁, rfl, hz₁, hs₁⟩)
        · exact wpAny_pure (.inr ⟨rfl, T, f1, s.heap, rfl, hz, ⟨rfl, fun _ _ => rfl⟩⟩)
  have eb : ∀ {h₁ h₂ : Heap}, Heap.SameBut z s.heap h₁ → Heap.ExtBut j.1 h₁ h₂ → Kept z TO (j :: js) s.heap h₂ := fun sb ex c o c1 c2 c3 e => ex _ _ (c3 j mj) ((sb.2 _ c1).trans e)
  rcases hb with ⟨rfl, rfl⟩ | ⟨rfl, T, g1, h1, rfl, hz1, sb1⟩
  · simp only [if_true]
    refine wpAny_bind (wpAny_rule ?_)
    refine wpAny_bind (wpAny_field hz rfl (x := .ref TO) rfl ?_)
    dsimp only
    refine wpAny_bind (wpAny_setField_rec hz (by simp) fun h₁ hz₁ hs₁ => ?_)
    replace hz₁ : IsZipG h₁ z TI TO .ellipsis f1 := hz₁
    rw [itsOf_list]
    simp only [List.map_cons, List.zipIdx_cons, List.forIn_cons]
    refine wpAny_bind (wpAny_bind (wpAny_bind (wpAny_onRaise ?_)))
    show wpAny _ _ (Builtin.SmallTypes.nextOf (.ref j.1) >>= _) _ _ _
    refine wpAny_bind (RZ.nextOf_tuple_end hh (hi.at fun o e => (hs₁.2 _ (D.iz j mj).1).trans e) (hx.at fun o e => (hs₁.2 _ (D.lz j mj).1).trans e) he fun h₂ e hs₂ he => ?_)
    obtain ⟨oe, hoe, hce⟩ := he
    have hz₂ : IsZipG h₂ z TI TO .ellipsis f1 := hs₂ _ _ (Ne.symm (D.iz j mj).1) hz₁
    have hez : e ≠ z := fun x => by subst x; rw [hz₂] at hoe; cases hoe; simp at hce
    exact wpAny_setField_rec hz₂ (by simp) fun h₃ _ hs₃ => hE h₃ e (fun c o c1 c2 c3 e' => (hs₃.2 _ c1).trans (eb hs₁ hs₂ c o c1 c2 c3 e')) ⟨oe, (hs₃.2 _ hez).trans hoe, hce⟩
  · simp only [Bool.false_eq_true, if_false]
    rw [← Array.forIn_toList, itsOf_list]
    simp only [List.map_cons, List.forIn_cons]
    refine wpAny_bind (wpAny_bind (wpAny_bind (wpAny_holding ?_)))
    show wpAny _ _ (Builtin.SmallTypes.nextOf (.ref j.1) >>= _) _ _ _
    exact wpAny_bind (RZ.nextOf_tuple_end hh (hi.at fun o e => (sb1.2 _ (D.iz j mj).1).trans e) (hx.at fun o e => (sb1.2 _ (D.lz j mj).1).trans e) he fun h₂ e hs₂ he => hE h₂ e (eb sb1 hs₂) he)
theorem pyNext_zipN_item {z TI TO : Addr} {js : Js} {i : Nat} {f0 f1 : Value} {tos : Array Value} {vals : List Value} {Q : Option Value → Shared → Prop} (D : Apart z TI TO js) (hne : js ≠ []) (hsz : js.length ≤ 1000)
    (hz : IsZipG s.heap z TI TO f0 f1) (hf : f0 = .none ∨ ∃ T : Nat, f0 = rawInt T) (hTI : IsTupO s.heap TI (itsOf js)) (hTO : IsTupO s.heap TO tos) (ht : tos.size = js.length)
    (hi : ∀ j ∈ js, s.heap.IsTupleIter j.1 j.2 i) (hg : Gives s.heap i js vals)
    (hQ : ∀ h' (T : Nat) g1 tos', IsZipG h' z TI TO (rawInt T) g1 → IsTupO h' TO tos' → tos'.size = js.length → (∀ j ∈ js, h'.IsTupleIter j.1 j.2 (i + 1)) → IsTupO h' s.heap.objs.size vals.toArray → h'.objs.size = s.heap.objs.size + 1 →
      Kept z TO js s.heap h' → Q (some (.ref s.heap.objs.size)) { s with heap := h' }) : wpAny (model prog w) A (pyNext (.ref z)) Q E s := by
  have hT : s.TypeIs (.ref z) "zip" := ⟨_, hz, rfl⟩
  unfold pyNext
  exact wpAny_bind (wpAny_attempt (wpAny_callSpecial?_slot (name := Str.ofString "__next__") hT F.slot_zip_next
    (wpAny_call_entry F.slot_zip_next hT F.entry_zip_next
      (zipN_item D hne hsz hz hf hTI hTO ht hi hg fun h' T g1 t' a1 a2 a3 a4 a5 a6 a7 => wpAny_pure (hQ h' T g1 t' a1 a2 a3 a4 a5 a6 a7)) (F.args_zip_next_1 _))))
theorem pyNext_zipN_end {z TI TO : Addr} {j : Addr × Addr} {js : Js} {i : Nat} {f0 f1 : Value} {xs : Array Value} {Q : Option Value → Shared → Prop} (hh : A.handled = none) (D : Apart z TI TO (j :: js))
    (hz : IsZipG s.heap z TI TO f0 f1) (hf : f0 = .none ∨ ∃ T : Nat, f0 = rawInt T) (hTI : IsTupO s.heap TI (itsOf (j :: js)))
    (hi : s.heap.IsTupleIter j.1 j.2 i) (hx : s.heap.IsTuple j.2 xs) (he : xs[i]? = none) (hQ : ∀ h', Kept z TO (j :: js) s.heap h' → Q none { s with heap := h' }) : wpAny (model prog w) A (pyNext (.ref z)) Q E s := by
  have hT : s.TypeIs (.ref z) "zip" := ⟨_, hz, rfl⟩
  unfold pyNext
  refine wpAny_bind (wpAny_attempt (wpAny_callSpecial?_slot (name := Str.ofString "__next__") hT F.slot_zip_next
    (wpAny_call_entry F.slot_zip_next hT F.entry_zip_next (zipN_end hh D hz hf hTI hi hx he fun h' e hk he => ?_) (F.args_zip_next_1 _))))
  obtain ⟨o, ho, hc⟩ := he
  refine wpAny_bind (wpAny_isInstance (T := "StopIteration") (b := true) ⟨o, ho, hc⟩ isSubtype_stop ?_)
  exact wpAny_pure (hQ _ hk)
theorem typeCall_zipN (vs : List Value) : checkTypeCall "zip" ⟨vs, []⟩ = pure () := by kernel_rfl
theorem upTo8 {p : List Value → Prop} (h0 : p []) (h1 : ∀ a, p [a]) (h2 : ∀ a b, p [a, b]) (h3 : ∀ a b c, p [a, b, c]) (h4 : ∀ a b c d, p [a, b, c, d]) (h5 : ∀ a b c d e, p [a, b, c, d, e]) (h6 : ∀ a b c d e f, p [a, b, c, d, e, f]) (h7 : ∀ a b c d e f g, p [a, b, c, d, e, f, g]) (h8 : ∀ a b c d e f g i, p [a, b, c, d, e, f, g, i]) : ∀ vs : List Value, vs.length ≤ 8 → p vs
  | [], _ => h0
  | [a], _ => h1 a
  | [a, b], _ => h2 a b
  | [a, b, c], _ => h3 a b c
  | [a, b, c, d], _ => h4 a b c d
  | [a, b, c, d, e], _ => h5 a b c d e
  | [a, b, c, d, e, f], _ => h6 a b c d e f
  | [a, b, c, d, e, f, g], _ => h7 a b c d e f g
  | [a, b, c, d, e, f, g, i], _ => h8 a b c d e f g i
  | _ :: _ :: _ :: _ :: _ :: _ :: _ :: _ :: _ :: _, h => absurd h (by simp)
theorem newCall_zipN : ∀ vs : List Value, vs.length ≤ 8 → checkBuiltinCall "zip.__new__" ⟨.type "zip" :: vs, []⟩ = pure () :=
  upTo8 (by kernel_rfl) (fun _ => by kernel_rfl) (fun _ _ => by kernel_rfl) (fun _ _ _ => by kernel_rfl) (fun _ _ _ _ => by kernel_rfl) (fun _ _ _ _ _ => by kernel_rfl) (fun _ _ _ _ _ _ => by kernel_rfl) (fun _ _ _ _ _ _ _ => by kernel_rfl) (fun _ _ _ _ _ _ _ _ => by kernel_rfl)
theorem args_object_initN (obj : Value) : ∀ vs : List Value, vs.length ≤ 8 → argsOk "object.__init__" ⟨obj :: vs, []⟩ := by
  have sg := signature?_of (id := "object.__init__") (n := ['_', '_', 't', 'i', 'n', 'i', '_', '_']) (o := ['t', 'c', 'e', 'j', 'b', 'o']) (by kernel_rfl) PySem.F.owner_object
  refine upTo8 ?_ (fun _ => ?_) (fun _ _ => ?_) (fun _ _ _ => ?_) (fun _ _ _ _ => ?_) (fun _ _ _ _ _ => ?_) (fun _ _ _ _ _ _ => ?_) (fun _ _ _ _ _ _ _ => ?_) (fun _ _ _ _ _ _ _ _ => ?_) <;> (unfold argsOk; rw [sg]; kernel_rfl)
def itO (l : Addr) : Obj := { cls := .type "tuple_iterator", data := .fields #[.ref l, .int 0 0] }
def pushIts (h : Heap) (ls : List Addr) : Heap := ls.foldl (fun h l => h.push (itO l)) h
def jsOf (n : Nat) : List Addr → Js
  | [] => []
  | l :: ls => (n, l) :: jsOf (n + 1) ls
theorem pushIts_snoc (h : Heap) (ls : List Addr) (l : Addr) : pushIts h (ls ++ [l]) = (pushIts h ls).push (itO l) := by
  unfold pushIts
  rw [List.foldl_append]
  rfl
theorem jsOf_snoc : ∀ (n : Nat) (ls : List Addr) (l : Addr), jsOf n (ls ++ [l]) = jsOf n ls ++ [(n + ls.length, l)]
  | n, [], l => rfl
  | n, k :: ls, l => by
    show (n, k) :: jsOf (n + 1) (ls ++ [l]) = (n, k) :: (jsOf (n + 1) ls ++ [(n + (ls.length + 1), l)])
    rw [jsOf_snoc (n + 1) ls l, show n + 1 + ls.length = n + (ls.length + 1) by omega]
theorem pushIts_size : ∀ (h : Heap) (ls : List Addr), (pushIts h ls).objs.size = h.objs.size + ls.length
  | h, [] => rfl
  | h, l :: ls => by
    show (pushIts (h.push (itO l)) ls).objs.size = _
    rw [pushIts_size, Heap.size_push, List.length_cons]
    omega
theorem pushIts_old : ∀ (h : Heap) (ls : List Addr) (c : Addr) (o : Obj), h.get? c = some o → (pushIts h ls).get? c = some o
  | h, [], c, o, e => e
  | h, l :: ls, c, o, e => pushIts_old (h.push (itO l)) ls c o (Heap.get?_push_of_some _ e)
theorem pushIts_at : ∀ (h : Heap) (ls : List Addr), ∀ j ∈ jsOf h.objs.size ls, (pushIts h ls).IsTupleIter j.1 j.2 0
  | h, [], j, hj => by cases hj
  | h, l :: ls, j, hj => by
    rcases List.mem_cons.mp hj with rfl | hj
    · exact ⟨itO l, pushIts_old _ ls _ _ (Heap.get?_push_size _ rfl), rfl, rfl⟩
    · have e := pushIts_at (h.push (itO l)) ls j
      rw [Heap.size_push] at e
      exact e hj
theorem jsOf_lt : ∀ (n : Nat) (ls : List Addr), ∀ j ∈ jsOf n ls, n ≤ j.1 ∧ j.1 < n + ls.length ∧ j.2 ∈ ls
  | n, [], j, hj => by cases hj
  | n, l :: ls, j, hj => by
    rcases List.mem_cons.mp hj with rfl | hj
    · exact ⟨Nat.le_refl _, Nat.lt_add_of_pos_right (Nat.succ_pos _), List.mem_cons_self ..⟩
    · obtain ⟨a, b, c⟩ := jsOf_lt (n + 1) ls j hj
      exact ⟨Nat.le_of_succ_le a, Nat.lt_of_lt_of_eq b (by rw [List.length_cons]; omega), List.mem_cons_of_mem _ c⟩
theorem jsOf_nd : ∀ (n : Nat) (ls : List Addr), ((jsOf n ls).map (·.1)).Nodup
  | n, [] => List.nodup_nil
  | n, l :: ls => by
    refine List.nodup_cons.mpr ⟨fun z => ?_, jsOf_nd (n + 1) ls⟩
    obtain ⟨j, hj, e⟩ := List.mem_map.mp z
    have := (jsOf_lt (n + 1) ls j hj).1
    have e2 : j.1 = n := e
    rw [e2] at this
    exact Nat.not_succ_le_self n this
theorem jsOf_len : ∀ (n : Nat) (ls : List Addr), (jsOf n ls).length = ls.length
  | n, [] => rfl
  | n, l :: ls => by
    show (jsOf (n + 1) ls).length + 1 = ls.length + 1
    rw [jsOf_len]
theorem wp_iterAll {ls : List Addr} {Q : List Value → Shared → Prop} (hl : ∀ l ∈ ls, ∃ items, s.heap.IsTuple l items)
    (h : Q ((jsOf s.heap.objs.size ls).map fun j => Value.ref j.1) { s with heap := pushIts s.heap ls }) : wpAny (model prog w) A (Builtin.SmallTypes.iterAll (ls.map Value.ref)) Q E s := by
  unfold Builtin.SmallTypes.iterAll
  refine wpAny_bind (wpAny_forIn_list _ (fun rest b s' => ∃ ls1 ls2, ls = ls1 ++ ls2 ∧ rest = ls2.map Value.ref ∧ s' = { s with heap := pushIts s.heap ls1 } ∧ b = ((jsOf s.heap.objs.size ls1).map fun j => Value.ref j.1).toArray) _ ?_ ?_ _ _ ⟨[], ls, rfl, rfl, rfl, rfl⟩)
  · rintro x rest b s2 ⟨ls1, ls2, e, er, rfl, rfl⟩
    cases ls2 with
    | nil => cases er
    | cons l ls2 =>
      obtain ⟨rfl, rfl⟩ := List.cons.inj er
      obtain ⟨items, ht⟩ := hl l (by rw [e]; exact List.mem_append.mpr (.inr (List.mem_cons_self ..)))
      refine wpAny_bind (wpAny_holding (wpAny_pyIter_tuple (ht.at fun o e => pushIts_old _ ls1 _ _ e) (wpAny_pure ?_)))
      refine ⟨ls1 ++ [l], ls2, by rw [e, List.append_assoc]; rfl, rfl, ?_, ?_⟩
      · rw [pushIts_snoc]
        rfl
      · rw [jsOf_snoc, List.map_append]
        show (List.map (fun j => Value.ref j.1) (jsOf s.heap.objs.size ls1)).toArray.push (Value.ref (pushIts s.heap ls1).objs.size) = _
        rw [pushIts_size]
        simp
  · rintro b s2 ⟨ls1, ls2, e, er, rfl, rfl⟩
    cases ls2 with
    | cons l ls2 => cases er
    | nil =>
      rw [List.append_nil] at e
      subst e
      exact wpAny_pure h
def zH3 (h : Heap) (ls : List Addr) : Heap := (pushIts h ls).push { cls := .type "tuple", data := .seq (itsOf (jsOf h.objs.size ls)) }
def zH4 (h : Heap) (ls : List Addr) : Heap := (zH3 h ls).push { cls := .type "tuple", data := .seq (((jsOf h.objs.size ls).map fun j => Value.ref j.1).map fun _ => Value.none).toArray }
def zH5 (h : Heap) (ls : List Addr) : Heap := (zH4 h ls).push { cls := .type "zip", data := .fields #[.none, .bool false, .bool false, .ref (pushIts h ls).objs.size, .ref (zH3 h ls).objs.size] }
theorem meets_zipN_new (ls : List Addr) (l8 : ls.length ≤ 8) :
    Meets (Builtin.«zip.__new__» ⟨.type "zip" :: ls.map Value.ref, []⟩) (fun _ R s => (∀ l ∈ ls, ∃ items, s.heap.IsTuple l items) ∧
      R (.ok (.ret (.ref (zH4 s.heap ls).objs.size))) { s with heap := zH5 s.heap ls }) :=
  .of_wp fun prog w A R s h => by
    obtain ⟨hp, g, d, tk, os⟩ := s; obtain ⟨hl1, h⟩ := h
    have hsub := sub_zip
    have hL : ∀ l ∈ ls, ∃ items, Heap.IsTuple (Shared.heap ⟨hp, g, d, tk, os⟩) l items := hl1
    have ll : ((jsOf hp.objs.size ls).map fun j => Value.ref j.1).length ≤ sizeLine := by
      rw [List.length_map, jsOf_len, sizeLine_eq]
      omega
    have ll2 : (((jsOf hp.objs.size ls).map fun j => Value.ref j.1).map fun _ => Value.none).length ≤ sizeLine := by
      rw [List.length_map]
      exact ll
    wp_walk using wp_iterAll hL, wpAny_newTuple
    all_goals first | exact ⟨_, rfl, h⟩ | exact ll2 | exact ll
theorem call_zipN {ls : List Addr} {Q : Value → Shared → Prop} (l8 : ls.length ≤ 8) (hl : ∀ l ∈ ls, ∃ items, s.heap.IsTuple l items)
    (h : ∀ h' (n : Nat), n = s.heap.objs.size → IsZipG h' (n + ls.length + 2) (n + ls.length) (n + ls.length + 1) .none (.bool false) → IsTupO h' (n + ls.length) (itsOf (jsOf n ls)) →
      (∃ tos, IsTupO h' (n + ls.length + 1) tos ∧ tos.size = (jsOf n ls).length) → (∀ j ∈ jsOf n ls, h'.IsTupleIter j.1 j.2 0) →
      (∀ c o, s.heap.get? c = some o → h'.get? c = some o) → Q (.ref (n + ls.length + 2)) { s with heap := h' }) :
    wpAny (model prog w) A (call (.type "zip") (ls.map Value.ref)) Q E s := by
  have lm : (ls.map Value.ref).length ≤ 8 := by rw [List.length_map]; exact l8
  refine callType_new F.called_zip (by decide) (typeCall_zipN _) (newCall_zipN _ lm) (fun obj => args_object_initN obj _ lm) F.entry_zip_new (meets_zipN_new ls l8) ⟨hl, ?_⟩
  have z2 : (pushIts s.heap ls).objs.size = s.heap.objs.size + ls.length := pushIts_size ..
  have z3 : (zH3 s.heap ls).objs.size = s.heap.objs.size + ls.length + 1 := by unfold zH3; rw [Heap.size_push, z2]
  have z4 : (zH4 s.heap ls).objs.size = s.heap.objs.size + ls.length + 2 := by unfold zH4; rw [Heap.size_push, z3]
  have g5 : (zH5 s.heap ls).get? (zH4 s.heap ls).objs.size = some _ := Heap.get?_push_size _ rfl
  have g4 : (zH5 s.heap ls).get? (zH3 s.heap ls).objs.size = some _ := Heap.get?_push_of_some _ (Heap.get?_push_size _ rfl)
  have g3 : (zH5 s.heap ls).get? (pushIts s.heap ls).objs.size = some _ := Heap.get?_push_of_some _ (Heap.get?_push_of_some _ (Heap.get?_push_size _ rfl))
  have up : ∀ c o, (pushIts s.heap ls).get? c = some o → (zH5 s.heap ls).get? c = some o := fun c o e => Heap.get?_push_of_some _ (Heap.get?_push_of_some _ (Heap.get?_push_of_some _ e))
  show _ ∧ _
  rw [z2, z3, z4] at g5
  rw [z2] at g3
  rw [z3] at g4
  rw [z4]
  refine ⟨⟨_, g5, rfl⟩, h _ _ rfl g5 g3 ⟨_, g4, ?_⟩ (fun j hj => (pushIts_at s.heap ls j hj).at fun o e => up _ o e) fun c o e => up c o (pushIts_old _ ls c o e)⟩
  simp
theorem apart_new {n : Nat} {ls : List Addr} (h : ∀ l ∈ ls, l < n) : Apart (n + ls.length + 2) (n + ls.length) (n + ls.length + 1) (jsOf n ls) := by
  refine ⟨by show (_ : Nat) ≠ _; omega, by show (_ : Nat) ≠ _; omega, by show (_ : Nat) ≠ _; omega, fun j hj => ?_, jsOf_nd _ _, fun j hj => ?_⟩
  · obtain ⟨a, b, c⟩ := jsOf_lt n ls j hj
    exact ⟨Nat.ne_of_lt (Nat.lt_of_lt_of_le b (Nat.le_add_right _ _)), Nat.ne_of_lt b, Nat.ne_of_lt (Nat.lt_of_lt_of_le b (Nat.le_add_right _ _))⟩
  · obtain ⟨a, b, c⟩ := jsOf_lt n ls j hj
    have d := h _ c
    exact ⟨Nat.ne_of_lt (Nat.lt_of_lt_of_le d (by rw [Nat.add_assoc]; exact Nat.le_add_right _ _)), Nat.ne_of_lt (Nat.lt_of_lt_of_le d (by rw [Nat.add_assoc]; exact Nat.le_add_right _ _)), fun k hk => Nat.ne_of_lt (Nat.lt_of_lt_of_le d (jsOf_lt n ls k hk).1)⟩
end
end ZN
namespace ZN
open PySem PySem.Spec PyProof.Rows L2 CM
/-! ### at the level of values -/
/-- the tuples at ps, item by item -/
def ItzN (K : PySem.W.Frag) (ps : List Addr) : It :=
  ⟨fun i H => ∃ row : List V, Paired (fun p v => ∃ xs, SqT K H p xs ∧ xs[i]? = some v) ps row,
    fun i H v H' => ∃ (T : Addr) (row : List V), v = .ref T ∧ H T = none ∧ H' = upd H T (.tup row) ∧ Paired (fun p v => ∀ xs, SqT K H p xs → xs[i]? = some v) ps row,
    fun i H => ∃ p ps' xs, ps = p :: ps' ∧ SqT K H p xs ∧ xs.length ≤ i⟩
def fpN (z TI TO : Addr) (js : Js) : List Addr := z :: TI :: TO :: js.map (·.1)
theorem Gives.of {X : Cx} {pins : List (Addr × Obj)} {σ : L2.St} {H : Hp} {s : Shared} (I : Inv X pins σ H s) {i : Nat} : ∀ {js : Js} {row : List V}, Paired (fun p v => ∃ xs, SqT X.K H p xs ∧ xs[i]? = some v) (js.map (·.2)) row → ∃ us, Gives s.heap i js us ∧ Vals row us
  | [], _, .nil => ⟨[], .nil, .nil⟩
  | j :: js, _, .cons a t => by
    obtain ⟨xs, hx, hv⟩ := a
    obtain ⟨its, rv, p, _⟩ := I.tuple hx
    obtain ⟨u, hu, ru⟩ := rv.get hv
    obtain ⟨us, g, r⟩ := Gives.of I t
    exact ⟨u :: us, .cons ⟨_, p, by simpa using hu⟩ g, .cons ru r⟩
theorem pyIter_zipG {prog : Program} {w : World} {A : Around} {E : Value → Shared → Prop} {s : Shared} {z TI TO : Addr} {f0 f1 : Value} {Q : Value → Shared → Prop} (hz : IsZipG s.heap z TI TO f0 f1) (h : Q (.ref z) s) : wpAny (model prog w) A (pyIter (.ref z)) Q E s := by
  have hT : s.TypeIs (.ref z) "zip" := ⟨_, hz, rfl⟩
  refine wpAny_pyIter_slot hT F.slot_zip_iter (wpAny_call_entry F.slot_zip_iter hT F.entry_zip_iter ?_ (F.args_zip_iter_1 _))
  show wpAny _ _ (ret (.ref z)) _ _ s
  exact wpAny_pure ⟨_, rfl, "zip", _, hT, F.slot_zip_next.lookup, h⟩
theorem turn_zipN {P : Program} {w : World} {K : PySem.W.Frag} {x : Str} {np : Pos} {z TI TO : Addr} {js : Js} (D : Apart z TI TO js) (hne : js ≠ []) (hsz : js.length ≤ 1000) :
    Turn P w K (.Name x np) (ItzN K (js.map (·.2))) (fpN z TI TO js) z (fun i h => ∃ f0 f1 tos, IsZipG h z TI TO f0 f1 ∧ (f0 = .none ∨ ∃ T : Nat, f0 = rawInt T) ∧ IsTupO h TI (itsOf js) ∧ IsTupO h TO tos ∧ tos.size = js.length ∧ ∀ j ∈ js, h.IsTupleIter j.1 j.2 i) where
  mem := List.mem_cons_self ..
  obj := fun i h st c hc => by
    obtain ⟨f0, f1, tos, hz, _, hTI, hTO, _, hi⟩ := st
    rcases List.mem_cons.mp hc with rfl | hc
    · exact ⟨_, hz, fun v q => nomatch q⟩
    rcases List.mem_cons.mp hc with rfl | hc
    · exact ⟨_, hTI, fun v q => nomatch q⟩
    rcases List.mem_cons.mp hc with rfl | hc
    · exact ⟨_, hTO, fun v q => nomatch q⟩
    obtain ⟨j, hj, rfl⟩ := List.mem_map.mp hc
    obtain ⟨o, e, _, d⟩ := hi j hj
    exact ⟨o, e, fun v q => by rw [d] at q; cases q⟩
  keep := fun i h h' st k => by
    obtain ⟨f0, f1, tos, hz, hf, hTI, hTO, ht, hi⟩ := st
    have m1 : z ∈ fpN z TI TO js := List.mem_cons_self ..
    have m2 : TI ∈ fpN z TI TO js := List.mem_cons_of_mem _ (List.mem_cons_self ..)
    have m3 : TO ∈ fpN z TI TO js := List.mem_cons_of_mem _ (List.mem_cons_of_mem _ (List.mem_cons_self ..))
    exact ⟨f0, f1, tos, k z m1 _ hz, hf, k TI m2 _ hTI, k TO m3 _ hTO, ht, fun j hj => (hi j hj).at fun o e => k j.1 (List.mem_cons_of_mem _ (List.mem_cons_of_mem _ (List.mem_cons_of_mem _ (List.mem_map.mpr ⟨j, hj, rfl⟩)))) o e⟩
  item := by
    intro X hP hw hK hc i pins s σ H E I hf st hg
    subst hP hw hK
    obtain ⟨f0, f1, tos, hz, hf0, hTI, hTO, ht, hi⟩ := st
    obtain ⟨row, hr⟩ := hg
    obtain ⟨us, hgv, rv⟩ := Gives.of I hr
    have lus : us.length = js.length := (Paired.length hgv).symm
    have hzl : z < s.heap.objs.size := Heap.lt_size hz
    refine pyNext_zipN_item D hne hsz hz hf0 hTI hTO ht hi hgv fun h' T g1 tos' z' TO' ht' hi' hT hs' hk => ?_
    refine ⟨_, rfl, wpAny_pure ?_⟩
    have new : ObjOk X.prog X.w (upd H s.heap.objs.size (.tup row)) h' s.heap.objs.size (.tup row) :=
      ⟨by rw [rv.length, lus, sizeLine_eq]; omega, us, rv, ⟨_, hT, rfl, _, rfl⟩⟩
    have I1 : Inv X pins σ (upd H s.heap.objs.size (.tup row)) { s with heap := h' } :=
      I.turnedNew (t' := s.toks) (ch := fpN z TI TO js) (fun c o hb q => hk c o (fun q' => hb (by rw [q']; exact List.mem_cons_self ..)) (fun q' => hb (by rw [q']; exact List.mem_cons_of_mem _ (List.mem_cons_of_mem _ (List.mem_cons_self ..))))
        (fun j hj q' => hb (by rw [q']; exact List.mem_cons_of_mem _ (List.mem_cons_of_mem _ (List.mem_cons_of_mem _ (List.mem_map.mpr ⟨j, hj, rfl⟩))))) q) hf (Nat.le_refl _) new
    have hTI' : IsTupO h' TI (itsOf js) := hk TI _ D.TIz D.TITO (fun j hj e => (D.iz j hj).2.1 e.symm) hTI
    refine ⟨.ref s.heap.objs.size, _, I1, rfl, ⟨_, row, rfl, I.hok.fresh (Nat.le_refl _), rfl, Paired.mapP hr fun p v ⟨xs, hx, hv⟩ ys hy => by rw [I.tuple_inj hy hx]; exact hv⟩, ⟨_, g1, tos', z', .inr ⟨T, rfl⟩, hTI', TO', ht', hi'⟩, fun c hcm => ?_⟩
    have hlt : c < s.heap.objs.size := by
      rcases List.mem_cons.mp hcm with rfl | hcm
      · exact hzl
      rcases List.mem_cons.mp hcm with rfl | hcm
      · exact Heap.lt_size hTI
      rcases List.mem_cons.mp hcm with rfl | hcm
      · exact Heap.lt_size hTO
      obtain ⟨j, hj, rfl⟩ := List.mem_map.mp hcm
      obtain ⟨_, e, _⟩ := hi j hj
      exact Heap.lt_size e
    rw [upd_ne (Nat.ne_of_lt hlt)]
    exact (hf c hcm).1
  done := by
    intro X hP hw hK hc i pins s σ H E I hf st hg
    subst hP hw hK
    obtain ⟨f0, f1, tos, hz, hf0, hTI, hTO, ht, hi⟩ := st
    obtain ⟨p, ps', xs, ep, hx, hl⟩ := hg
    cases js with
    | nil => exact absurd rfl hne
    | cons j js =>
      obtain ⟨rfl, _⟩ := List.cons.inj ep
      obtain ⟨its, rv, pp, _⟩ := I.tuple hx
      have l1 := rv.length
      refine pyNext_zipN_end (I.ok.hd hc) D hz hf0 hTI (hi j (List.mem_cons_self ..)) pp (by simp; omega) fun h' hk => ⟨rfl, I.turnedL (t' := s.toks) (ch := fpN z TI TO (j :: js)) (fun c o hb q => hk c o (fun q' => hb (by rw [q']; exact List.mem_cons_self ..)) (fun q' => hb (by rw [q']; exact List.mem_cons_of_mem _ (List.mem_cons_of_mem _ (List.mem_cons_self ..))))
        (fun j' hj q' => hb (by rw [q']; exact List.mem_cons_of_mem _ (List.mem_cons_of_mem _ (List.mem_cons_of_mem _ (List.mem_map.mpr ⟨j', hj, rfl⟩))))) q) hf⟩
  self := fun A i s Q E st h => by
    obtain ⟨f0, f1, tos, hz, _⟩ := st
    exact pyIter_zipG hz h
theorem callWith_typeS {M : Model} {A : Around} {E : Value → Shared → Prop} {s : Shared} {pos : Pos} {T : String} {x : Sem Value} {Q : Value → Shared → Prop}
    (h : wpAny M A x (fun v s₁ => PySem.W.StarOf M A E v (fun vs s₂ => wpAny M A (call (.type T) vs) Q E s₂) s₁) E s) :
    wpAny M A (callWith pos (.type T) [] [(true, (do let v ← x; standAt pos; pure v))] []) Q E s := by
  unfold callWith
  refine wpAny_bind (wpAny_holding (PySem.W.ks_lone (wpAny_mono h (fun v s₁ h₁ => ?_) fun _ _ e => e)))
  unfold PySem.W.StarOf at h₁ ⊢
  refine wpAny_mono h₁ (fun b s₂ h₂ => ⟨h₂.1, wpAny_mono h₂.2 (fun vs s₃ h₃ => ?_) fun _ _ e => e⟩) fun _ _ e => e
  refine wpAny_bind (wpAny_standAt ?_)
  refine wpAny_bind (wpAny_pure ?_)
  exact wpAny_bind (wpAny_operateT (wpAny_mono h₃ (fun r s₂ hr => wpAny_bind (wpAny_holding (wpAny_point (wpAny_pure hr)))) fun _ _ x => x))
theorem jsOf_snd : ∀ (n : Nat) (ls : List Addr), (jsOf n ls).map (·.2) = ls
  | n, [] => rfl
  | n, l :: ls => by
    show l :: (jsOf (n + 1) ls).map (·.2) = l :: ls
    rw [jsOf_snd]
/-- for .. in zip(*l), the rows at ps -/
def iZipN (K : PySem.W.Frag) (te : TE) : TI := fun σ H R => te σ H fun y H1 => ∃ (l : Addr) (ps : List Addr), y = .ref l ∧ (SqT K H1 l (ps.map V.ref) ∨ SqL K H1 l (ps.map V.ref)) ∧ ps ≠ [] ∧ ps.length ≤ 8 ∧ (∀ p ∈ ps, ∃ xs, SqT K H1 p xs) ∧ R (ItzN K ps) H1
theorem vals_refs : ∀ {ps : List Addr} {us : List Value}, Vals (ps.map V.ref) us → us = ps.map Value.ref
  | [], _, .nil => rfl
  | p :: ps, _, .cons r t => by
    cases r
    rw [vals_refs t]
    rfl
theorem pi_zipS {X : Cx} {e : Expr} {te : TE} {p sp pos np : Pos} {x : Str} (hg : Gl X "zip") (hm : X.mg "zip" = none) (he : PE X e te)
    (hst : starEach [.Starred e sp] X.env = [(true, eval e X.env)] := by rfl) : PI X (.Name x np) (.Call (.Name "zip" p) [.Starred e sp] [] pos) (iZipN X.K te) := by
  refine ⟨fun pins s σ H R I h => ?_⟩
  refine Call_ (ld_blt I hg hm PyProof.Rows.boot_zip ?_)
  rw [hst]
  refine callWith_typeS (thn (he.run pins s σ H _ I h) fun v s1 ⟨y, H1, I1, ry, l, ps, ey, hl, hne, h8, hps, q⟩ => ?_)
  subst ey
  obtain rfl : v = Value.ref l := ry
  refine StX.star_any I1 hl fun us s2 I2 rv => ?_
  rw [vals_refs rv]
  have tu : ∀ p ∈ ps, ∃ items, s2.heap.IsTuple p items := fun p hp => by
    obtain ⟨xs, hx⟩ := hps p hp
    obtain ⟨its, _, pp, _⟩ := I2.tuple hx
    exact ⟨_, pp⟩
  refine call_zipN h8 tu fun h' n en hz hTI hTO hi hk => pyIter_zipG hz ?_
  subst en
  obtain ⟨tos, hTO, htz⟩ := hTO
  have I3 : Inv X pins σ H1 { s2 with heap := h' } := I2.kept (t' := s2.toks) hk
  have nl : (jsOf s2.heap.objs.size ps).length = ps.length := jsOf_len ..
  refine ⟨s2.heap.objs.size + ps.length + 2, fpN (s2.heap.objs.size + ps.length + 2) (s2.heap.objs.size + ps.length) (s2.heap.objs.size + ps.length + 1) (jsOf s2.heap.objs.size ps), _, ItzN X.K ((jsOf s2.heap.objs.size ps).map (·.2)), H1, rfl, I3,
    turn_zipN (apart_new fun l hl => ?_) (fun z => hne ?_) (by rw [nl]; omega), ⟨_, _, tos, hz, .inl rfl, hTI, hTO, htz, hi⟩, fun c hc => ?_, ?_⟩
  · obtain ⟨_, o, ho, _⟩ := tu l hl
    exact Heap.lt_size ho
  · rw [z] at nl
    exact List.eq_nil_of_length_eq_zero nl.symm
  · have hle : s2.heap.objs.size ≤ c := by
      rcases List.mem_cons.mp hc with rfl | hc
      · rw [Nat.add_assoc]; exact Nat.le_add_right _ _
      rcases List.mem_cons.mp hc with rfl | hc
      · exact Nat.le_add_right _ _
      rcases List.mem_cons.mp hc with rfl | hc
      · rw [Nat.add_assoc]; exact Nat.le_add_right _ _
      obtain ⟨j, hj, rfl⟩ := List.mem_map.mp hc
      exact (jsOf_lt _ _ j hj).1
    exact I2.fpOk hle (I2.hok.fresh hle)
  · rw [jsOf_snd]
    exact q
/-- the rows of one length -/
theorem walk_zipN {K : PySem.W.Frag} {ps : List Addr} {n : Nat} {rows : List (List V)} (hne : ps ≠ []) :
    Walk (ItzN K ps) n (fun H => Paired (fun p xs => SqT K H p xs ∧ xs.length = n) ps rows) (fun i H v H' => ∃ (T : Addr) (row : List V), v = .ref T ∧ H T = none ∧ H' = upd H T (.tup row) ∧ Paired (fun p v => ∀ xs, SqT K H p xs → xs[i]? = some v) ps row) := by
  refine ⟨fun i H hi g => ?_, fun H g => ?_, fun i H v H' _ _ y => y⟩
  · have z : ∀ {ps : List Addr} {rows : List (List V)}, Paired (fun p xs => SqT K H p xs ∧ xs.length = n) ps rows → ∃ row : List V, Paired (fun p v => ∃ xs, SqT K H p xs ∧ xs[i]? = some v) ps row := by
      intro ps rows g
      induction g with
      | nil => exact ⟨[], .nil⟩
      | @cons p xs _ _ a _ ih =>
        obtain ⟨row, r⟩ := ih
        exact ⟨_, .cons ⟨xs, a.1, List.getElem?_eq_getElem (by rw [a.2]; exact hi)⟩ r⟩
    exact z g
  · cases g with
    | nil => exact absurd rfl hne
    | @cons p xs ps' _ a t => exact ⟨p, ps', xs, rfl, a.1, Nat.le_of_eq a.2⟩
end ZN
set_option Elab.async false
set_option linter.all false
set_option maxRecDepth 100000
set_option maxHeartbeats 4000000
namespace SM
open PySem PySem.Spec PyProof.Rows L2 CM
/-! ### C.m(..) and o.m(..), m a staticmethod -/
structure SMet (K : PySem.W.Frag) (C : Addr) (mc : Value) (m : Str) (p g : Addr) : Prop where
  at_ : PySem.W.findCls K (.ref C) mc m = some (.get (.builtin "staticmethod.__get__") (.ref p) .none (.ref C))
  rc : ∃ rest, PySem.W.recIn K p "staticmethod" = some (.ref g :: rest)
structure SInst (K : PySem.W.Frag) (C : Addr) (m : Str) (p g : Addr) : Prop where
  pg : PySem.W.plainGet K C Str.empty = true
  ic : PySem.W.isClsIn K C = true
  at_ : PySem.W.findIn K (.ref C) m = some (some (.ref p))
  ty : PySem.W.typeIn K (.ref p) = some (.type "staticmethod")
  get : PySem.W.specialIn K (.ref p) "__get__" = some (some (.builtin "staticmethod.__get__"))
  tk : PySem.W.takesIn K (.ref p) = some false
  cp : PySem.W.copiedNames.contains m = false
  rc : ∃ rest, PySem.W.recIn K p "staticmethod" = some (.ref g :: rest)
section
variable {X : Cx} {pins : List (Addr × Obj)} {σ : L2.St} {H : Hp} {s : Shared} {a C p g : Addr} {mc : Value} {f m : Str} {v : V} {u : Value} {A : Around} {E : Value → Shared → Prop}
theorem getsm_ok {b : Bool} {Q : Value → Shared → Prop} (I : Inv X pins σ H s) (r : ClX.CRead X.K C mc) (k : SMet X.K C mc m p g) (h : ∀ s', Inv X pins σ H s' → Q (.ref g) s') : wpAny (model X.prog X.w) A (getAttr (.ref C) m b) Q E s := by
  obtain ⟨rest, hp⟩ := k.rc
  refine PySem.W.cls_bind I.kIn r.rd k.at_ ?_
  refine wpAny_call (PySem.W.sm_get (s := { s with toks := s.toks + 1 }) I.kIn hp (PySem.W.handed_on rfl ?_))
  exact h _ (I.tok _)
theorem getmethsm_ok {pl : Sem Bool} {Q : Value × List Value → Shared → Prop} (I : Inv X pins σ H s) (r : ClX.CRead X.K C mc) (k : SMet X.K C mc m p g)
    (h : ∀ s', Inv X pins σ H s' → Q (.ref g, []) s') : wpAny (model X.prog X.w) A (getMethod (.ref C) m pl) Q E s :=
  PySem.W.method_cls I.kIn r.ga (getsm_ok I r k h)
theorem getmethism_ok {pl : Sem Bool} {ox od : Obj} {Q : Value × List Value → Shared → Prop} (I : Inv X pins σ H s) (J : PySem.W.InstAt s.heap a ox C (some od)) (hl : PySem.W.lookIn m od = some none) (k : SInst X.K C m p g)
    (h : ∀ s', Inv X pins σ H s' → Q (.ref g, []) s') : wpAny (model X.prog X.w) A (getMethod (.ref a) m pl) Q E s := by
  obtain ⟨rest, hp⟩ := k.rc
  refine PySem.W.method_usual (r := some (.ref p)) I.kIn J (PySem.W.plainGet_of (show PySem.W.plainGet X.K C m = true from k.pg)).1 (PySem.W.plainGet_of (show PySem.W.plainGet X.K C m = true from k.pg)).2 k.at_ ?_ ?_
  · show ((PySem.W.typeIn X.K (.ref p)).any fun t => t != .type "function" && t != .type "method_descriptor" && t != .type "wrapper_descriptor") = true
    rw [k.ty]
    decide +kernel
  · refine PySem.W.get_bind I.kIn J (PySem.W.plainGet_of (show PySem.W.plainGet X.K C m = true from k.pg)).1 (ClX.find_cm k.ic k.at_ k.get k.tk k.cp hl) (PySem.W.plainGet_of (show PySem.W.plainGet X.K C m = true from k.pg)).2 ?_
    refine wpAny_call (PySem.W.sm_get (s := { s with toks := s.toks + 1 }) I.kIn hp (PySem.W.handed_on rfl ?_))
    exact h _ (I.tok _)
end
/-- e.m(..), e the class at C, m a staticmethod; what it lets out may hang on the names -/
def tSMeth (C : Addr) (sp : Sp) (E : L2.St → XK) (ta : TE) (t : TA) : TE := fun σ H Q => ta σ H fun x H1 => x = .ref C ∧ t σ H1 fun vs H2 => sp vs H2 Q (E σ)
def tISMeth (C : Addr) (m : Str) (sp : Sp) (E : L2.St → XK) (ta : TE) (t : TA) : TE := fun σ H Q => ta σ H fun x H1 => ∃ a dx fs, x = .ref a ∧ H1 a = some (.ins C dx fs) ∧ fs.lookup m = none ∧ t σ H1 fun ws H2 => sp ws H2 Q (E σ)
section
variable {X : Cx} {CX : CXT} {k : Nat} {C p g : Addr} {mc : Value} {fd : FuncData} {ps : List Str} {sp : Sp} {E : L2.St → XK} {o e : Expr} {es : List Expr} {f m : Str} {pos apos : Pos} {ta : TE} {t : TA} {pl : Sem Bool}
theorem run_fnS {pins : List (Addr × Obj)} {σ : L2.St} {H : Hp} {s : Shared} {Q : VK} {us : List Value} {vs : List V} (F : FnOk X.prog X.w X.K X.mg X.base CX k g fd ps sp) (hr : Room k X.A) (hb : Binds X.K fd ps []) (hx : PassesAt CX X σ (E σ))
    (I : Inv X pins σ H s) (r : Vals vs us) (h : sp vs H Q (E σ)) : wpAny (model X.prog X.w) X.A (call (.ref g) us) (EP X pins σ Q) X.xe s := by
  have hl : (us ++ ([] : List Value)).length = ps.length := by rw [List.append_nil, ← r.length]; exact F.len _ _ _ _ h
  have bb := hb s us I.kIn hl
  rw [List.append_nil] at bb
  refine wpAny_call (codeAny_mono (F.run X.A X.stack s H ⟨us, []⟩ us vs Q (E σ) hr I.env0 bb r h) fun r s' hq => ?_)
  cases r with
  | error e => exact hx pins H s e s' I hq
  | ok fl =>
    cases fl with
    | ret u => exact I.after hq
    | next => exact False.elim hq
    | brk => exact False.elim hq
    | cont => exact False.elim hq
theorem pe_smeth (he : PE X o ta) (r : ClX.CRead X.K C mc) (c : SMet X.K C mc m p g) (hk : PySem.W.keepIn X.K (.ref g) = true) (F : FnOk X.prog X.w X.K X.mg X.base CX k g fd ps sp) (hr : Room k X.A) (hb : Binds X.K fd ps []) (hx : ∀ σ, PassesAt CX X σ (E σ)) (ha : PA X (e :: es) t)
    (hst : starEach (e :: es) X.env = (false, eval e X.env) :: starEach es X.env := by rfl) (hpl : (backTo pos (starEach es X.env)).any (·.1) = false := by rfl)
    (ht : eval (.Call (.Attribute o m apos) (e :: es) [] pos) X.env = (do
      let ov ← eval o X.env
      standAt apos.atName
      let (f, first) ← holding [ov] (getMethod ov m pl)
      callWith pos f first (backTo pos (starEach (e :: es) X.env)) (backToKw pos (keywordEach [] X.env))) := by rfl) :
    PE X (.Call (.Attribute o m apos) (e :: es) [] pos) (tSMeth C sp E ta t) := by
  refine ⟨fun pins s σ H Q I h => ?_⟩
  refine PySem.W.methodCall_KW (pl := pl) (thn (he.run pins s σ H _ I h) fun u s1 ⟨x, H1, I1, rx, ex, q⟩ => ?_) ht
  subst ex
  obtain rfl : u = Value.ref C := rx
  refine getmethsm_ok I1 r c fun s2 I2 => ?_
  refine PySem.W.callWith_K (h₀ := X.base) (first := []) I.ok.mod.kin hk (thn (ha.run pos pins s2 σ H1 _ I2 q) fun us s3 ⟨vs, H2, I3, rv, q2⟩ => ⟨I3.kIn, ?_⟩) hst hpl
  exact run_fnS F hr hb (hx σ) I3 rv q2
theorem pe_ismeth (he : PE X o ta) (c : SInst X.K C m p g) (hk : PySem.W.keepIn X.K (.ref g) = true) (F : FnOk X.prog X.w X.K X.mg X.base CX k g fd ps sp) (hr : Room k X.A) (hb : Binds X.K fd ps []) (hx : ∀ σ, PassesAt CX X σ (E σ)) (ha : PA X (e :: es) t)
    (hst : starEach (e :: es) X.env = (false, eval e X.env) :: starEach es X.env := by rfl) (hpl : (backTo pos (starEach es X.env)).any (·.1) = false := by rfl)
    (ht : eval (.Call (.Attribute o m apos) (e :: es) [] pos) X.env = (do
      let ov ← eval o X.env
      standAt apos.atName
      let (f, first) ← holding [ov] (getMethod ov m pl)
      callWith pos f first (backTo pos (starEach (e :: es) X.env)) (backToKw pos (keywordEach [] X.env))) := by rfl) :
    PE X (.Call (.Attribute o m apos) (e :: es) [] pos) (tISMeth C m sp E ta t) := by
  refine ⟨fun pins s σ H Q I h => ?_⟩
  refine PySem.W.methodCall_KW (pl := pl) (thn (he.run pins s σ H _ I h) fun u s1 ⟨x, H1, I1, rx, a, dx, fs, ex, ea, l, q⟩ => ?_) ht
  subst ex
  obtain rfl : u = Value.ref a := rx
  obtain ⟨mA, O, rr, _, _, _⟩ := ins_get I1.hok ea
  have hn : mA m = none := RelO.none_of (by rw [← l]; exact rr m)
  obtain ⟨od, J, hl⟩ := O.look
  refine getmethism_ok I1 J (by rw [hl m, hn]) c fun s2 I2 => ?_
  refine PySem.W.callWith_K (h₀ := X.base) (first := []) I.ok.mod.kin hk (thn (ha.run pos pins s2 σ H1 _ I2 q) fun us s3 ⟨vs, H2, I3, rv, q2⟩ => ⟨I3.kIn, ?_⟩) hst hpl
  exact run_fnS F hr hb (hx σ) I3 rv q2
end
/-! ### a head's facts of it -/
/-- the class at C has m as a staticmethod, reached by the class and by an instance -/
def staB (K : PySem.W.Frag) (C : Addr) (m : Str) : Bool := He5.wrapB K C "staticmethod" "staticmethod.__get__" m && (PySem.W.readsIn K C (.type "type") && (He.eqO (PySem.W.specialIn K (.ref C) "__getattribute__") (some (some (.builtin "type.__getattribute__"))) &&
  (PySem.W.plainGet K C Str.empty && (PySem.W.isClsIn K C && (He.eqO (PySem.W.findIn K (.ref C) m) (some (some (.ref (He.ma K C m)))) && (decide (PySem.W.typeIn K (.ref (He.ma K C m)) = some (.type "staticmethod")) &&
  (He.eqO (PySem.W.specialIn K (.ref (He.ma K C m)) "__get__") (some (some (.builtin "staticmethod.__get__"))) && (decide (PySem.W.takesIn K (.ref (He.ma K C m)) = some false) && !PySem.W.copiedNames.contains m))))))))
/-- the def behind it -/
def staF (K : PySem.W.Frag) (C : Addr) (m : Str) : Addr := He5.wf K C "staticmethod" m
structure Sta (K : PySem.W.Frag) (C : Addr) (m : Str) : Prop where
  rd : ClX.CRead K C (.type "type")
  met : SMet K C (.type "type") m (He.ma K C m) (staF K C m)
  ins : SInst K C m (He.ma K C m) (staF K C m)
theorem staB_ok {K : PySem.W.Frag} {C : Addr} {m : Str} (h : staB K C m = true) : Sta K C m := by
  obtain ⟨h1, h⟩ := He.ba h
  obtain ⟨h2, h⟩ := He.ba h
  obtain ⟨h3, h⟩ := He.ba h
  obtain ⟨h4, h⟩ := He.ba h
  obtain ⟨h5, h⟩ := He.ba h
  obtain ⟨h6, h⟩ := He.ba h
  obtain ⟨h7, h⟩ := He.ba h
  obtain ⟨h8, h⟩ := He.ba h
  obtain ⟨h9, h10⟩ := He.ba h
  obtain ⟨w1, w2⟩ := He5.wrapB_ok h1
  exact ⟨⟨h2, He.eqO_ok h3⟩, ⟨w1, w2⟩, ⟨h4, h5, He.eqO_ok h6, of_decide_eq_true h7, He.eqO_ok h8, of_decide_eq_true h9, Bool.not_eq_true' _ ▸ h10, w2⟩⟩
/-! ### a hook: what the names reach and the interpreter's own statics, tables left out, defs at any address -/
abbrev AlZ : Type := He.AlX × List He5.FnW
def obsZ (n : Nat) (fa : List He.Fa) (fn : List He.DefD) (tf : List He.Defn) (da : List He5.DefA) (ex : PySem.W.Frag → Bool) (g : Addr → Option Obj) : AlZ :=
  ((He.obsT fa fn [] (OX.reachY g n), (ex (OX.reachY g n) && da.all fun d => d.ok (OX.reachY g n)) && He.tabsB g tf (OX.reachY g n)), da.map fun d => He5.fnA (OX.reachY g n) (d.at_ (OX.reachY g n)))
def valZ (fn : List He.DefD) (da : List He5.DefA) (w : World) : AlZ := (He.valX fn [] w, da.map He5.DefA.val)
structure SaysZ (fa : List He.Fa) (fn : List He.DefD) (tf : List He.Defn) (da : List He5.DefA) (ex : PySem.W.Frag → Bool) (w : World) (h : Heap) (K : PySem.W.Frag) : Prop where
  x : He.SaysX fa fn [] tf ex w h K
  dok : ∀ d ∈ da, d.ok K = true
  dat : da.map (fun d => He5.fnA K (d.at_ K)) = da.map He5.DefA.val
theorem saysZ {n : Nat} {fa : List He.Fa} {fn : List He.DefD} {tf : List He.Defn} {da : List He5.DefA} {ex : PySem.W.Frag → Bool} {w : World} {h : Heap} (e : obsZ n fa fn tf da ex h.get? = valZ fn da w) : SaysZ fa fn tf da ex w h (OX.reachY h.get? n) := by
  have e1 : He.obsT fa fn [] (OX.reachY h.get? n) = He.valT fn [] w := congrArg (fun z : AlZ => z.1.1) e
  have e2 : ((ex (OX.reachY h.get? n) && da.all fun d => d.ok (OX.reachY h.get? n)) && He.tabsB h.get? tf (OX.reachY h.get? n)) = true := congrArg (fun z : AlZ => z.1.2) e
  have e3 : da.map (fun d => He5.fnA (OX.reachY h.get? n) (d.at_ (OX.reachY h.get? n))) = da.map He5.DefA.val := congrArg (fun z : AlZ => z.2) e
  obtain ⟨h0, h2⟩ := He.ba e2
  obtain ⟨h1, hd⟩ := He.ba h0
  have key : ∀ p ∈ tf, PySem.W.codeHdIn (OX.reachY h.get? n) (He.cT (OX.reachY h.get? n) p).1 (He.cT (OX.reachY h.get? n) p).2 = true ∧ ∃ o, h.get? (He.cT (OX.reachY h.get? n) p).2 = some o ∧ He.emptyTab o = true := fun p hp => by
    obtain ⟨h3, h4⟩ := He.ba (List.all_eq_true.mp h2 p hp)
    refine ⟨h3, ?_⟩
    cases q : h.get? (He.cT (OX.reachY h.get? n) p).2 with
    | none =>
      rw [q] at h4
      cases h4
    | some o =>
      rw [q] at h4
      exact ⟨o, rfl, h4⟩
  exact ⟨⟨e1, h1, fun p hp => (key p hp).1, fun p hp => by
    obtain ⟨_, o, q, z⟩ := key p hp
    exact He.frT_none q z, fun p hp => by
    obtain ⟨_, o, q, z⟩ := key p hp
    rw [q, He.emptyTab_eq z]⟩, fun d hd' => List.all_eq_true.mp hd d hd', e3⟩
def hookZ (n : Nat) (fa : List He.Fa) (fn : List He.DefD) (tf : List He.Defn) (da : List He5.DefA) (ex : PySem.W.Frag → Bool) : PySem.W.Hook where
  α := AlZ
  obs s := obsZ n fa fn tf da ex s.heap.get?
  val w := valZ fn da w
  says w h := ∃ K : PySem.W.Frag, K.In h ∧ SaysZ fa fn tf da ex w h K
  of _ s e := ⟨OX.reachY s.heap.get? n, He.frT_in, saysZ e⟩
  keeps _ _ _ z k := by
    obtain ⟨K, hK, c⟩ := z
    exact ⟨K, hK.keeps k, ⟨⟨c.x.t, c.x.more, c.x.hd, c.x.out, fun p hp => k _ _ (c.x.empty p hp)⟩, c.dok, c.dat⟩⟩
theorem obsZ_eq {n : Nat} {fa : List He.Fa} {fn : List He.DefD} {tf : List He.Defn} {da : List He5.DefA} {ex : PySem.W.Frag → Bool} {g : Addr → Option Obj} {s : Shared} (h : ∀ a, g a = s.heap.get? a) : obsZ n fa fn tf da ex g = (hookZ n fa fn tf da ex).obs s := by
  rw [show g = s.heap.get? from funext h]
  rfl
theorem SaysZ.def_ {fa : List He.Fa} {fn : List He.DefD} {tf : List He.Defn} {da : List He5.DefA} {ex : PySem.W.Frag → Bool} {w : World} {h : Heap} {K : PySem.W.Frag} (c : SaysZ fa fn tf da ex w h K) (i : Nat) {d : He5.DefA} (e : da[i]? = some d := by rfl) : ∃ fd, L2.FunD K d.name d.qual d.params d.body d.scope (d.dvs K) (d.kws K) (d.at_ K) fd := by
  have e2 : (da.map fun d => He5.fnA K (d.at_ K))[i]? = (da.map He5.DefA.val)[i]? := by rw [c.dat]
  rw [List.getElem?_map, List.getElem?_map, e] at e2
  exact He5.DefA.funD (Option.some.inj e2) (c.dok d (List.mem_of_getElem? e))
end SM
set_option Elab.async false
set_option linter.all false
set_option maxRecDepth 100000
set_option maxHeartbeats 2000000
namespace K12
open PySem PySem.Spec PyProof.Rows L2 CM WD LamX
def topS (i : Nat) : Stmt := PySem.Challenge.pw_kindgrove_k12_boxes.main.body.getD i (.Pass ⟨0, 0, 0, 0⟩)
abbrev s_BadValue___init : Stmt := inClass (topS 2) 0
abbrev n_BadValue___init : List Str := ["self", "value"]
theorem sc_BadValue___init : FnScope n_BadValue___init ["self", "value"] (defScope s_BadValue___init) := ⟨rfl, rfl, rfl, by decide +kernel, rfl, by decide +kernel, by decide +kernel⟩
abbrev s_NotGiven___init : Stmt := inClass (topS 3) 0
abbrev n_NotGiven___init : List Str := ["self", "name"]
theorem sc_NotGiven___init : FnScope n_NotGiven___init ["self", "name"] (defScope s_NotGiven___init) := ⟨rfl, rfl, rfl, by decide +kernel, rfl, by decide +kernel, by decide +kernel⟩
abbrev s_halves_by : Stmt := topS 5
abbrev n_halves_by : List Str := ["marks", "order", "first", "at"]
theorem sc_halves_by : FnScope n_halves_by ["marks"] (defScope s_halves_by) := ⟨rfl, rfl, rfl, by decide +kernel, rfl, by decide +kernel, by decide +kernel⟩
abbrev s_Kind_own : Stmt := inClass (topS 7) 0
abbrev n_Kind_own : List Str := ["self", "key"]
theorem sc_Kind_own : FnScope n_Kind_own ["self", "key"] (defScope s_Kind_own) := ⟨rfl, rfl, rfl, by decide +kernel, rfl, by decide +kernel, by decide +kernel⟩
abbrev s_Kind_join : Stmt := inClass (topS 7) 1
abbrev n_Kind_join : List Str := ["self", "one", "other"]
theorem sc_Kind_join : FnScope n_Kind_join ["self", "one", "other"] (defScope s_Kind_join) := ⟨rfl, rfl, rfl, by decide +kernel, rfl, by decide +kernel, by decide +kernel⟩
abbrev s_Kind_consistent : Stmt := inClass (topS 7) 2
abbrev n_Kind_consistent : List Str := ["self", "label", "question"]
theorem sc_Kind_consistent : FnScope n_Kind_consistent ["self", "label", "question"] (defScope s_Kind_consistent) := ⟨rfl, rfl, rfl, by decide +kernel, rfl, by decide +kernel, by decide +kernel⟩
abbrev s_Kind_matches : Stmt := inClass (topS 7) 3
abbrev n_Kind_matches : List Str := ["self", "key", "question"]
theorem sc_Kind_matches : FnScope n_Kind_matches ["self", "key", "question"] (defScope s_Kind_matches) := ⟨rfl, rfl, rfl, by decide +kernel, rfl, by decide +kernel, by decide +kernel⟩
abbrev s_Kind_penalty : Stmt := inClass (topS 7) 4
abbrev n_Kind_penalty : List Str := ["self", "label", "key"]
theorem sc_Kind_penalty : FnScope n_Kind_penalty ["self", "label", "key"] (defScope s_Kind_penalty) := ⟨rfl, rfl, rfl, by decide +kernel, rfl, by decide +kernel, by decide +kernel⟩
abbrev s_Kind_sides : Stmt := inClass (topS 7) 5
abbrev n_Kind_sides : List Str := ["self", "labels", "half"]
theorem sc_Kind_sides : FnScope n_Kind_sides ["self", "labels"] (defScope s_Kind_sides) := ⟨rfl, rfl, rfl, by decide +kernel, rfl, by decide +kernel, by decide +kernel⟩
abbrev s_Measured_distance : Stmt := inClass (topS 8) 0
abbrev n_Measured_distance : List Str := ["self", "key", "point"]
theorem sc_Measured_distance : FnScope n_Measured_distance ["self", "key", "point"] (defScope s_Measured_distance) := ⟨rfl, rfl, rfl, by decide +kernel, rfl, by decide +kernel, by decide +kernel⟩
abbrev s_Measured_bound : Stmt := inClass (topS 8) 1
abbrev n_Measured_bound : List Str := ["self", "label", "point"]
theorem sc_Measured_bound : FnScope n_Measured_bound ["self", "label", "point"] (defScope s_Measured_bound) := ⟨rfl, rfl, rfl, by decide +kernel, rfl, by decide +kernel, by decide +kernel⟩
abbrev s_is_int : Stmt := topS 10
abbrev n_is_int : List Str := ["thing"]
theorem sc_is_int : FnScope n_is_int ["thing"] (defScope s_is_int) := ⟨rfl, rfl, rfl, by decide +kernel, rfl, by decide +kernel, by decide +kernel⟩
abbrev s_Boxes___init : Stmt := inClass (topS 13) 0
abbrev n_Boxes___init : List Str := ["self", "dimensions"]
theorem sc_Boxes___init : FnScope n_Boxes___init ["self", "dimensions"] (defScope s_Boxes___init) := ⟨rfl, rfl, rfl, by decide +kernel, rfl, by decide +kernel, by decide +kernel⟩
abbrev s_Boxes_dimensions : Stmt := inClass (topS 13) 1
abbrev n_Boxes_dimensions : List Str := ["self"]
theorem sc_Boxes_dimensions : FnScope n_Boxes_dimensions ["self"] (defScope s_Boxes_dimensions) := ⟨rfl, rfl, rfl, by decide +kernel, rfl, by decide +kernel, by decide +kernel⟩
abbrev s_Boxes_around : Stmt := inClass (topS 13) 2
abbrev n_Boxes_around : List Str := ["points", "numbers"]
theorem sc_Boxes_around : FnScope n_Boxes_around ["points"] (defScope s_Boxes_around) := ⟨rfl, rfl, rfl, by decide +kernel, rfl, by decide +kernel, by decide +kernel⟩
abbrev s_Boxes_own : Stmt := inClass (topS 13) 3
abbrev n_Boxes_own : List Str := ["self", "key"]
theorem sc_Boxes_own : FnScope n_Boxes_own ["self", "key"] (defScope s_Boxes_own) := ⟨rfl, rfl, rfl, by decide +kernel, rfl, by decide +kernel, by decide +kernel⟩
abbrev s_Boxes_join : Stmt := inClass (topS 13) 4
abbrev n_Boxes_join : List Str := ["self", "one", "other"]
theorem sc_Boxes_join : FnScope n_Boxes_join ["self", "one", "other"] (defScope s_Boxes_join) := ⟨rfl, rfl, rfl, by decide +kernel, rfl, by decide +kernel, by decide +kernel⟩
abbrev s_Boxes_consistent : Stmt := inClass (topS 13) 5
abbrev n_Boxes_consistent : List Str := ["self", "label", "question"]
theorem sc_Boxes_consistent : FnScope n_Boxes_consistent ["self", "label", "question"] (defScope s_Boxes_consistent) := ⟨rfl, rfl, rfl, by decide +kernel, rfl, by decide +kernel, by decide +kernel⟩
abbrev s_Boxes_matches : Stmt := inClass (topS 13) 6
abbrev n_Boxes_matches : List Str := ["self", "key", "question"]
theorem sc_Boxes_matches : FnScope n_Boxes_matches ["self", "key", "question"] (defScope s_Boxes_matches) := ⟨rfl, rfl, rfl, by decide +kernel, rfl, by decide +kernel, by decide +kernel⟩
abbrev s_Boxes_penalty : Stmt := inClass (topS 13) 7
abbrev n_Boxes_penalty : List Str := ["self", "label", "key"]
theorem sc_Boxes_penalty : FnScope n_Boxes_penalty ["self", "label", "key"] (defScope s_Boxes_penalty) := ⟨rfl, rfl, rfl, by decide +kernel, rfl, by decide +kernel, by decide +kernel⟩
abbrev s_Boxes_sides : Stmt := inClass (topS 13) 8
abbrev n_Boxes_sides : List Str := ["self", "labels", "middles", "spreads", "axis", "row", "label"]
theorem sc_Boxes_sides : FnScope n_Boxes_sides ["self", "labels"] (defScope s_Boxes_sides) := ⟨rfl, rfl, rfl, by decide +kernel, rfl, by decide +kernel, by decide +kernel⟩
abbrev s_Boxes_distance : Stmt := inClass (topS 13) 9
abbrev n_Boxes_distance : List Str := ["self", "key", "point"]
theorem sc_Boxes_distance : FnScope n_Boxes_distance ["self", "key", "point"] (defScope s_Boxes_distance) := ⟨rfl, rfl, rfl, by decide +kernel, rfl, by decide +kernel, by decide +kernel⟩
abbrev s_Boxes_bound : Stmt := inClass (topS 13) 10
abbrev n_Boxes_bound : List Str := ["self", "label", "point"]
theorem sc_Boxes_bound : FnScope n_Boxes_bound ["self", "label", "point"] (defScope s_Boxes_bound) := ⟨rfl, rfl, rfl, by decide +kernel, rfl, by decide +kernel, by decide +kernel⟩
abbrev s_hull : Stmt := topS 14
abbrev n_hull : List Str := ["one", "other"]
theorem sc_hull : FnScope n_hull ["one", "other"] (defScope s_hull) := ⟨rfl, rfl, rfl, by decide +kernel, rfl, by decide +kernel, by decide +kernel⟩
abbrev s_share_integer : Stmt := topS 15
abbrev n_share_integer : List Str := ["one", "other"]
theorem sc_share_integer : FnScope n_share_integer ["one", "other"] (defScope s_share_integer) := ⟨rfl, rfl, rfl, by decide +kernel, rfl, by decide +kernel, by decide +kernel⟩
abbrev s_width_of : Stmt := topS 16
abbrev n_width_of : List Str := ["span"]
theorem sc_width_of : FnScope n_width_of ["span"] (defScope s_width_of) := ⟨rfl, rfl, rfl, by decide +kernel, rfl, by decide +kernel, by decide +kernel⟩
abbrev s_gap : Stmt := topS 17
abbrev n_gap : List Str := ["span", "number"]
theorem sc_gap : FnScope n_gap ["span", "number"] (defScope s_gap) := ⟨rfl, rfl, rfl, by decide +kernel, rfl, by decide +kernel, by decide +kernel⟩
abbrev s_hull_of_boxes : Stmt := topS 18
abbrev n_hull_of_boxes : List Str := ["one", "other", "first", "second"]
theorem sc_hull_of_boxes : FnScope n_hull_of_boxes ["one", "other"] (defScope s_hull_of_boxes) := ⟨rfl, rfl, rfl, by decide +kernel, rfl, by decide +kernel, by decide +kernel⟩
abbrev s_share_point : Stmt := topS 19
abbrev n_share_point : List Str := ["one", "other", "first", "second"]
theorem sc_share_point : FnScope n_share_point ["one", "other"] (defScope s_share_point) := ⟨rfl, rfl, rfl, by decide +kernel, rfl, by decide +kernel, by decide +kernel⟩
abbrev s_widths_of : Stmt := topS 20
abbrev n_widths_of : List Str := ["box", "span"]
theorem sc_widths_of : FnScope n_widths_of ["box"] (defScope s_widths_of) := ⟨rfl, rfl, rfl, by decide +kernel, rfl, by decide +kernel, by decide +kernel⟩
abbrev s_gaps : Stmt := topS 21
abbrev n_gaps : List Str := ["box", "point", "span", "number"]
theorem sc_gaps : FnScope n_gaps ["box", "point"] (defScope s_gaps) := ⟨rfl, rfl, rfl, by decide +kernel, rfl, by decide +kernel, by decide +kernel⟩
abbrev s_are_points : Stmt := topS 22
abbrev n_are_points : List Str := ["things", "many", "thing", "part"]
theorem sc_are_points : FnScope n_are_points ["things"] (defScope s_are_points) := ⟨rfl, rfl, rfl, by decide +kernel, rfl, by decide +kernel, by decide +kernel⟩
abbrev s_law_well : Stmt := topS 24
abbrev n_law_well : List Str := ["_law_cell"]
theorem sc_law_well : FnScope n_law_well ["_law_cell"] (defScope s_law_well) := ⟨rfl, rfl, rfl, by decide +kernel, rfl, by decide +kernel, by decide +kernel⟩
abbrev s_law_draw : Stmt := topS 25
abbrev n_law_draw : List Str := ["_law_well_here", "_law_many", "_law_digit", "_law_number", "_law_more"]
theorem sc_law_draw : FnScope n_law_draw ["_law_well_here", "_law_many"] (defScope s_law_draw) := ⟨rfl, rfl, rfl, by decide +kernel, rfl, by decide +kernel, by decide +kernel⟩
abbrev s_law_one : Stmt := topS 26
abbrev n_law_one : List Str := ["_law_well_here", "_law_some"]
theorem sc_law_one : FnScope n_law_one ["_law_well_here", "_law_some"] (defScope s_law_one) := ⟨rfl, rfl, rfl, by decide +kernel, rfl, by decide +kernel, by decide +kernel⟩
abbrev s_law_span : Stmt := topS 27
abbrev n_law_span : List Str := ["_law_well_here", "_law_size", "_law_low"]
theorem sc_law_span : FnScope n_law_span ["_law_well_here", "_law_size"] (defScope s_law_span) := ⟨rfl, rfl, rfl, by decide +kernel, rfl, by decide +kernel, by decide +kernel⟩
abbrev s_law_box : Stmt := topS 28
abbrev n_law_box : List Str := ["_law_well_here", "_law_size", "_law_count", "_law_k"]
theorem sc_law_box : FnScope n_law_box ["_law_well_here", "_law_size", "_law_count"] (defScope s_law_box) := ⟨rfl, rfl, rfl, by decide +kernel, rfl, by decide +kernel, by decide +kernel⟩
abbrev s_law_joined : Stmt := topS 29
abbrev n_law_joined : List Str := ["_law_one_here", "_law_two", "_law_a", "_law_b"]
theorem sc_law_joined : FnScope n_law_joined ["_law_one_here", "_law_two"] (defScope s_law_joined) := ⟨rfl, rfl, rfl, by decide +kernel, rfl, by decide +kernel, by decide +kernel⟩
abbrev s_law_meets : Stmt := topS 30
abbrev n_law_meets : List Str := ["_law_one_here", "_law_two", "_law_a", "_law_b"]
theorem sc_law_meets : FnScope n_law_meets ["_law_one_here", "_law_two"] (defScope s_law_meets) := ⟨rfl, rfl, rfl, by decide +kernel, rfl, by decide +kernel, by decide +kernel⟩
abbrev s_law_wide : Stmt := topS 31
abbrev n_law_wide : List Str := ["_law_box_here", "_law_low", "_law_high"]
theorem sc_law_wide : FnScope n_law_wide ["_law_box_here"] (defScope s_law_wide) := ⟨rfl, rfl, rfl, by decide +kernel, rfl, by decide +kernel, by decide +kernel⟩
abbrev s_law_far : Stmt := topS 32
abbrev n_law_far : List Str := ["_law_box_here", "_law_spot", "_law_x", "_law_low", "_law_high"]
theorem sc_law_far : FnScope n_law_far ["_law_box_here", "_law_spot"] (defScope s_law_far) := ⟨rfl, rfl, rfl, by decide +kernel, rfl, by decide +kernel, by decide +kernel⟩
abbrev s_law_sides : Stmt := topS 33
abbrev n_law_sides : List Str := ["_law_tags", "_law_count", "_law_best", "_law_spread", "_law_k", "_law_numbers", "_law_found", "_law_at", "_law_number", "_law_ahead", "_law_tag"]
theorem sc_law_sides : FnScope n_law_sides ["_law_tags", "_law_count"] (defScope s_law_sides) := ⟨rfl, rfl, rfl, by decide +kernel, rfl, by decide +kernel, by decide +kernel⟩
abbrev s_law_around_right : Stmt := topS 34
abbrev n_law_around_right : List Str := ["_law_well_here", "_law_size", "_law_count", "_law_spots", "_law_k", "_law_j", "_law_due", "e", "_law_x", "_law_spot"]
theorem sc_law_around_right : FnScope n_law_around_right ["_law_well_here", "_law_size", "_law_count"] (defScope s_law_around_right) := ⟨rfl, rfl, rfl, by decide +kernel, rfl, by decide +kernel, by decide +kernel⟩
abbrev s_law_odd_right : Stmt := topS 35
abbrev n_law_odd_right : List Str := ["_law_odd", "_law_said", "e"]
theorem sc_law_odd_right : FnScope n_law_odd_right [] (defScope s_law_odd_right) := ⟨rfl, rfl, rfl, by decide +kernel, rfl, by decide +kernel, by decide +kernel⟩
abbrev s_law_right : Stmt := topS 36
abbrev n_law_right : List Str := ["_law_well_here", "_law_count", "_law_size", "_law_made", "_law_turn", "_law_one_here", "_law_two", "_law_asked", "_law_spot", "_law_meets_here", "_law_tags", "_law_k"]
theorem sc_law_right : FnScope n_law_right ["_law_well_here"] (defScope s_law_right) := ⟨rfl, rfl, rfl, by decide +kernel, rfl, by decide +kernel, by decide +kernel⟩
abbrev s_law : Stmt := topS 37
abbrev n_law : List Str := ["_law_script", "_law_cell"]
theorem sc_law : FnScope n_law ["_law_script"] (defScope s_law) := ⟨rfl, rfl, rfl, by decide +kernel, rfl, by decide +kernel, by decide +kernel⟩
abbrev FnP (K : PySem.W.Frag) (x q : Str) (st : Stmt) (f : Addr) (fd : FuncData) : Prop := FunD K x q (defArgs st) (defBody st) (defScope st) [] [] f fd
section
variable {P : Program} {w : World} {K : PySem.W.Frag} {mg : Str → Option Value} {base : Heap}
/-- a number of draws to be divided by -/
structure Sz (m : Int) : Prop where
  lt : m.natAbs.log2 < 9000
theorem Sz.of {m : Int} {k : Nat} (h : m.natAbs < 2 ^ k) (hk : k ≤ 9000) : Sz m := by
  refine ⟨?_⟩
  cases k with
  | zero =>
    have : m.natAbs = 0 := by omega
    rw [this]
    decide
  | succ k => exact Nat.lt_of_lt_of_le (PySem.Flt.log2_lt_of (Nat.succ_pos k) h) hk
def spWell : Sp := fun vs H Q _ => ∃ i : Int, vs = [.int i] ∧ ∀ p, H p = none → Q (.ref p) (upd H p (.lst [.int i, .int 0]))
def spDraw : Sp := fun vs H Q _ => ∃ (a : Addr) (x c m : Int), vs = [.ref a, .int m] ∧ H a = some (.lst [.int x, .int c]) ∧ 0 < m ∧ Sz m ∧
  ∀ r x' c' : Int, 0 ≤ r → r < m → Q (.int r) (upd H a (.lst [.int x', .int c']))
theorem ok_well {f : Addr} {fd : FuncData} {k : Nat} (F : FnP K "_law_well" "_law_well" s_law_well f fd) (m_int : mg "int" = none) : FnOk P w K mg base CX0 (k + 1) f fd ["_law_cell"] spWell := by
  refine F.ok sc_law_well (fun vs H Q E h => ?_) (fun cdv A outer s H vs Q E hr h => ?_)
  · obtain ⟨i, rfl, _⟩ := h
    rfl
  · obtain ⟨i, rfl, q⟩ := h
    refine ⟨_, pss_one (ps_ret (pe_lst (pa_cons (pe_callTy call_int1 (by rfl) m_int boot_int (pa_cons (pv 0) pa_nil)) (pa_cons pe_int pa_nil)))), ?_⟩
    exact ⟨_, rfl, .inl ⟨i, rfl, ⟨by show 2 ≤ sizeLine; decide, fun p hp => q p hp⟩⟩⟩
theorem ok_draw {f : Addr} {fd : FuncData} {k : Nat} (F : FnP K "_law_draw" "_law_draw" s_law_draw f fd) (m_int : mg "int" = none) : FnOk P w K mg base CX0 (k + 1) f fd ["_law_well_here", "_law_many"] spDraw := by
  refine F.ok sc_law_draw (fun vs H Q E h => ?_) (fun cdv A outer s H vs Q E hr h => ?_)
  · obtain ⟨a, x, c, m, rfl, _⟩ := h
    rfl
  · obtain ⟨a, x, c, m, rfl, ha, m0, m1, q⟩ := h
    refine ⟨_, pss_cons (ps_if (pt_cmpR op_ge (pe_ix ix_list (pv 0) pe_int (fun _ _ => rfl)) (pe_op op_pow pe_int pe_int) (nomark _)) (pss_cons (ps_set (i := 2) sc_law_draw.nd rfl (.inl rfl) (pe_op op_mod (pe_callTy call_int1 (by rfl) m_int boot_int (pa_cons (pe_ix ix_list (pv 0) pe_int (fun _ _ => rfl)) pa_nil)) (pv 1)))
      (pss_cons (ps_asg (pe_op op_fdivW (pe_ix ix_list (pv 0) pe_int (fun _ _ => rfl)) (pv 1)) (pg_sub (pv 0) pe_int set_list))
      (pss_one (ps_ret (pv 2))))) (pss_nil))
    (pss_cons (ps_asg (pe_op op_add (pe_ix ix_list (pv 0) pe_int (fun _ _ => rfl)) pe_int) (pg_sub (pv 0) pe_int set_list))
    (pss_cons (ps_set (i := 3) sc_law_draw.nd rfl (.inl rfl) (pe_op op_mod (pe_callTy call_int1 (by rfl) m_int boot_int (pa_cons (pe_op op_mul (pe_callTy call_int1 (by rfl) m_int boot_int (pa_cons (pe_op op_add (pe_op op_add (pe_op op_mod (pe_callTy call_int1 (by rfl) m_int boot_int (pa_cons (pe_ix ix_list (pv 0) pe_int (fun _ _ => rfl)) pa_nil)) pe_int) (pe_op op_mul pe_int (pe_ix ix_list (pv 0) pe_int (fun _ _ => rfl)))) pe_int) pa_nil)) pe_int) pa_nil)) pe_int))
    (pss_cons (ps_set (i := 4) sc_law_draw.nd rfl (.inl rfl) (pe_op op_mod (pe_callTy call_int1 (by rfl) m_int boot_int (pa_cons (pe_op op_fdivW (pe_ix ix_list (pv 0) pe_int (fun _ _ => rfl)) pe_int) pa_nil)) pe_int))
    (pss_cons (ps_set (i := 3) sc_law_draw.nd rfl (.inl rfl) (pe_op op_mod (pe_callTy call_int1 (by rfl) m_int boot_int (pa_cons (pe_op op_mul (pv 3) (pe_op op_add (pe_op op_add (pe_op op_fdiv (pv 3) pe_int) pe_int) (pv 4))) pa_nil)) pe_int))
    (pss_one (ps_ret (pe_op op_mod (pe_callTy call_int1 (by rfl) m_int boot_int (pa_cons (pe_op op_fdiv (pe_op op_mod (pe_callTy call_int1 (by rfl) m_int boot_int (pa_cons (pe_op op_mul (pv 3) (pe_op op_add (pe_op op_fdiv (pv 3) pe_int) pe_int)) pa_nil)) pe_int) pe_int) pa_nil)) (pv 1)))))))), ?_⟩
    have hA : SqL K H a [.int x, .int c] := .inl (.inl ha)
    -- if well[0] >= 10 ** 18
    refine ⟨_, rfl, a, _, 0, _, rfl, rfl, hA, rfl, ?_⟩
    refine ⟨10, 18, rfl, rfl, ⟨by decide, by decide, by decide⟩, ?_⟩
    refine ⟨x, _, rfl, rfl, _, rfl, ite2 (fun big => ?_) (fun small => ?_)⟩
    · refine ⟨_, rfl, a, _, 0, _, rfl, rfl, hA, rfl, .inl ⟨x, rfl, _, rfl, x, m, rfl, rfl, m0, ?_⟩⟩
      refine ⟨_, rfl, a, _, 0, _, rfl, rfl, hA, rfl, _, rfl, x, m, rfl, rfl, ⟨m0, m1.lt⟩, ?_⟩
      refine ⟨_, rfl, a, _, 0, 0, rfl, rfl, ha, rfl, ?_⟩
      exact ⟨_, rfl, q (x % m) (x / m) c (Int.emod_nonneg _ (by omega)) (Int.emod_lt_of_pos _ m0)⟩
    · -- well[1] = well[1] + 1
      refine ⟨_, rfl, a, _, 1, _, rfl, rfl, hA, rfl, c, 1, rfl, rfl, _, rfl, a, _, 1, 1, rfl, rfl, ha, rfl, ?_⟩
      have hB : SqL K (upd H a (.lst [.int x, .int (c + 1)])) a [.int x, .int (c + 1)] := .inl (.inl upd_same)
      have e2 : upd H a (.lst ([V.int x, V.int c].set 1 (.int (c + 1)))) = upd H a (.lst [.int x, .int (c + 1)]) := rfl
      rw [e2]
      have k1 : (0 : Int) < 2147483629 := by decide
      refine ⟨_, rfl, a, _, 0, _, rfl, rfl, hB, rfl, .inl ⟨x, rfl, x, 2147483629, rfl, rfl, (by show (0 : Int) < 2147483629; decide), ?_⟩⟩
      refine ⟨_, rfl, a, _, 1, _, rfl, rfl, hB, rfl, 60013, c + 1, rfl, rfl, .inl (by decide), _, _, rfl, rfl, _, _, rfl, rfl, .inl ⟨_, rfl, ?_⟩⟩
      refine ⟨_, _, rfl, rfl, .inr (by decide), .inl ⟨_, rfl, _, _, rfl, rfl, (by show (0 : Int) < 2147483647; decide), ?_⟩⟩
      dsimp only
      generalize hn : ((x % 2147483629 + 60013 * (c + 1) + 11) * 48271) % 2147483647 = n
      have n0 : 0 ≤ n := by rw [← hn]; exact Int.emod_nonneg _ (by decide)
      have n1 : n < 2147483647 := by rw [← hn]; exact Int.emod_lt_of_pos _ (by decide)
      refine ⟨_, rfl, a, _, 0, _, rfl, rfl, hB, rfl, x, _, rfl, rfl, wide_div (b := 40) (by decide) (by decide) (by decide) (by decide), .inl ⟨_, rfl, _, _, rfl, rfl, (by show (0 : Int) < 9973; decide), ?_⟩⟩
      dsimp only
      generalize hz : (x / 2147483629) % 9973 = z
      refine ⟨_, rfl, _, rfl, _, _, rfl, rfl, ⟨by decide, by decide⟩, _, _, rfl, rfl, _, rfl, _, _, rfl, rfl, n, _, rfl, rfl, .inl ⟨by omega, by omega⟩, .inl ⟨_, rfl, _, _, rfl, rfl, (by show (0 : Int) < 2147483587; decide), ?_⟩⟩
      dsimp only
      generalize hg : (n * (n / 1013 + 40692 + z)) % 2147483587 = g
      have g0 : 0 ≤ g := by rw [← hg]; exact Int.emod_nonneg _ (by decide)
      have g1 : g < 2147483587 := by rw [← hg]; exact Int.emod_lt_of_pos _ (by decide)
      refine ⟨_, rfl, _, rfl, _, _, rfl, rfl, ⟨by decide, by decide⟩, _, _, rfl, rfl, g, _, rfl, rfl, .inl ⟨by omega, by omega⟩, .inl ⟨_, rfl, _, _, rfl, rfl, (by show (0 : Int) < 2147483563; decide), ?_⟩⟩
      refine ⟨_, _, rfl, rfl, ⟨by decide, by decide⟩, .inl ⟨_, rfl, _, rfl, _, m, rfl, rfl, m0, ?_⟩⟩
      exact q _ x (c + 1) (Int.emod_nonneg _ (by omega)) (Int.emod_lt_of_pos _ m0)
/-- one of a list's items -/
def spOne (K : PySem.W.Frag) : Sp := fun vs H Q _ => ∃ (a b : Addr) (x c : Int) (xs : List V), vs = [.ref a, .ref b] ∧ H a = some (.lst [.int x, .int c]) ∧ SqL K H b xs ∧ (∀ x' c' : Int, SqL K (upd H a (.lst [.int x', .int c'])) b xs) ∧ 0 < xs.length ∧ xs.length ≤ 1000 ∧
  ∀ (v : V) (x' c' : Int), v ∈ xs → Q v (upd H a (.lst [.int x', .int c']))
theorem ok_one {f : Addr} {fd : FuncData} {k : Nat} (F : FnP K "_law_one" "_law_one" s_law_one f fd) (C_draw : Cal P w K mg base CX0 "_law_draw" (k + 1) ["_law_well_here", "_law_many"] spDraw) (m_len : mg "len" = none) :
    FnOk P w K mg base CX0 (k + 1 + 1) f fd ["_law_well_here", "_law_some"] (spOne K) := by
  obtain ⟨f_law_draw, fd_law_draw, G_law_draw, b_law_draw, m_law_draw, k_law_draw⟩ := C_draw
  refine F.ok sc_law_one (fun vs H Q E h => ?_) (fun cdv A outer s H vs Q E hr h => ?_)
  · obtain ⟨a, b, x, c, xs, rfl, _⟩ := h
    rfl
  · obtain ⟨a, b, x, c, xs, rfl, ha, hb, hb', l0, l1, q⟩ := h
    refine ⟨_, pss_one (ps_ret (pe_ix ix_list (pv 1) (pe_call G_law_draw (hr.mono (by omega)) (by rfl) m_law_draw k_law_draw b_law_draw .nil pass0 (pa_cons (pv 0) (pa_cons (pe_callB call_len_seq (by rfl) m_len PySem.boot_len (pa_cons (pv 1) pa_nil)) pa_nil))) (fun _ _ => rfl))), ?_⟩
    refine ⟨_, rfl, _, rfl, _, rfl, b, xs, rfl, .inl hb, a, x, c, xs.length, rfl, ha, by omega, .of (k := 10) (by show (xs.length : Int).natAbs < 1024; omega) (by decide), fun r x' c' r0 r1 => ?_⟩
    obtain ⟨i, rfl⟩ := Int.eq_ofNat_of_zero_le r0
    have hi : i < xs.length := by omega
    exact ⟨b, xs, _, xs[i], rfl, rfl, hb' x' c', atI_nat (List.getElem?_eq_getElem hi), q _ x' c' (List.getElem_mem hi)⟩

end
end K12
set_option Elab.async false
set_option linter.all false
set_option maxRecDepth 100000
set_option maxHeartbeats 2000000
namespace K12
open PySem PySem.Spec PyProof.Rows L2 CM WD LamX
section
variable {P : Program} {w : World} {K : PySem.W.Frag} {mg : Str → Option Value} {base : Heap}
theorem same_upd {H : Hp} {p : Addr} {o : HO} (h : H p = none) : Same H (upd H p o) := fun b x e => by
  rw [upd_ne (ne_of_none e h)]
  exact e
def Kp (a : Addr) (H H' : Hp) : Prop := ∀ b o, b ≠ a → H b = some o → H' b = some o
theorem Kp.trans {a : Addr} {H H1 H2 : Hp} (x : Kp a H H1) (y : Kp a H1 H2) : Kp a H H2 := fun b o n e => y b o n (x b o n e)
theorem Kp.same {a : Addr} {H H1 : Hp} (s : Same H H1) : Kp a H H1 := fun b o _ e => s b o e
theorem Kp.set {a : Addr} {H : Hp} {o : HO} : Kp a H (upd H a o) := fun b u n e => by
  rw [upd_ne n]
  exact e
/-! ### boxes -/
def Tup2 (H : Hp) (p : Addr) (lo hi : Int) : Prop := H p = some (.tup [.int lo, .int hi])
abbrev Bx := List (Int × Int)
def Prs (H : Hp) (ps : List Addr) (ns : Bx) : Prop := Paired (fun p n => Tup2 H p n.1 n.2) ps ns
/-- a box at p -/
def BoxA (H : Hp) (p : Addr) (bs : Bx) : Prop := ∃ ps : List Addr, H p = some (.tup (ps.map V.ref)) ∧ Prs H ps bs
def WfB (bs : Bx) : Prop := ∀ b ∈ bs, b.1 ≤ b.2
theorem Prs.same {H H' : Hp} {ps : List Addr} {ns : Bx} (h : Prs H ps ns) (s : Same H H') : Prs H' ps ns := Paired.mapP h fun q n z => s _ _ z
theorem Prs.kp {a : Addr} {xs : List V} {H H' : Hp} {ps : List Addr} {ns : Bx} (h : Prs H ps ns) (s : Kp a H H') (ha : H a = some (.lst xs)) : Prs H' ps ns := Paired.mapP h fun q n z => s _ _ (fun e => by
  rw [e, Tup2, ha] at z
  cases z) z
theorem Prs.put {D : Addr} {xs : List V} {H : Hp} {o : HO} {ps : List Addr} {ns : Bx} (h : Prs H ps ns) (ha : H D = some (.lst xs)) : Prs (upd H D o) ps ns := h.kp (Kp.set (a := D)) ha
theorem BoxA.same {H H' : Hp} {p : Addr} {bs : Bx} (h : BoxA H p bs) (s : Same H H') : BoxA H' p bs := by
  obtain ⟨ps, hp, pr⟩ := h
  exact ⟨ps, s _ _ hp, pr.same s⟩
theorem BoxA.kp {a : Addr} {xs : List V} {H H' : Hp} {p : Addr} {bs : Bx} (h : BoxA H p bs) (s : Kp a H H') (ha : H a = some (.lst xs)) : BoxA H' p bs := by
  obtain ⟨ps, hp, pr⟩ := h
  exact ⟨ps, s _ _ (fun e => by
    rw [e, ha] at hp
    cases hp) hp, pr.kp s ha⟩
theorem pair_at {G : Hp} : ∀ {ps : List Addr} {ns : List (Int × Int)} {t : Nat} {v : V}, Paired (fun p n => Tup2 G p n.1 n.2) ps ns → (ps.map V.ref)[t]? = some v → ∃ (p : Addr) (lo hi : Int), v = .ref p ∧ ns[t]? = some (lo, hi) ∧ Tup2 G p lo hi
  | p :: _, n :: _, 0, _, .cons h _, e => ⟨p, n.1, n.2, (Option.some.inj e).symm, rfl, h⟩
  | _ :: _, _ :: _, t + 1, _, .cons _ h, e => pair_at (t := t) h e
  | [], _, _, _, _, e => by cases e
theorem same_put {A H : Hp} {p : Addr} {o : HO} (s : Same A H) (h : A p = none) : Same A (upd H p o) := fun b u e => by
  rw [upd_ne (ne_of_none e h)]
  exact s b u e
theorem walk_zipT {K : PySem.W.Frag} {a b : Addr} {xs ys : List V} {n : Nat} (hn : n = min xs.length ys.length) : Walk (RZ.ItzT K a b) n (fun H => SqT K H a xs ∧ SqT K H b ys) (YPair (fun i => xs[i]?) (fun i => ys[i]?)) := by
  subst hn
  refine ⟨fun i _ hi q => ?_, fun _ q => ⟨xs, ys, q.1, q.2, by omega⟩, fun i H v H' _ q y => ?_⟩
  · have h1 : i < xs.length := by omega
    have h2 : i < ys.length := by omega
    exact ⟨xs, ys, xs[i], ys[i], q.1, q.2, by simp [h1], by simp [h2]⟩
  · obtain ⟨T, x, z, h1, h2, h3, h4, h5⟩ := y
    exact ⟨T, x, z, h1, h2, h3, h4 xs q.1, h5 ys q.2⟩
theorem max_if (i j : Int) : (if j > i then j else i) = max i j := by
  rw [Int.max_def]
  split <;> split <;> omega
theorem min_if (i j : Int) : (if j < i then j else i) = min i j := by
  rw [Int.min_def]
  split <;> split <;> omega
/-! ### boxes drawn -/
def spSpan : Sp := fun vs H Q _ => ∃ (a : Addr) (n x c : Int), vs = [.ref a, .int n] ∧ H a = some (.lst [.int x, .int c]) ∧ 0 ≤ n ∧ Sz (2 * n + 1) ∧ Sz (n + 1) ∧
  ∀ (H' : Hp) (p : Addr) (lo hi x' c' : Int), Kp a H H' → H' a = some (.lst [.int x', .int c']) → H' p = some (.tup [.int lo, .int hi]) → H p = none → lo ≤ hi → Q (.ref p) H'
theorem ok_span {f : Addr} {fd : FuncData} {k : Nat} (F : FnP K "_law_span" "_law_span" s_law_span f fd) (C_draw : Cal P w K mg base CX0 "_law_draw" k ["_law_well_here", "_law_many"] spDraw) : FnOk P w K mg base CX0 (k + 1) f fd ["_law_well_here", "_law_size"] spSpan := by
  obtain ⟨f_law_draw, fd_law_draw, G_law_draw, b_law_draw, m_law_draw, k_law_draw⟩ := C_draw
  refine F.ok sc_law_span (fun vs H Q E h => ?_) (fun cdv A outer s H vs Q E hr h => ?_)
  · obtain ⟨a, n, x, c, rfl, _⟩ := h
    rfl
  · obtain ⟨a, n, x, c, rfl, ha, h0, h1, h2, q⟩ := h
    refine ⟨_, PSs.nox (pss_cons (ps_set (i := 2) sc_law_span.nd rfl (.inl rfl) (pe_op op_sub (pe_call G_law_draw (hr.mono (by omega)) (by rfl) m_law_draw k_law_draw b_law_draw .nil pass0 (pa_cons (pv 0) (pa_cons (pe_op op_add (pe_op op_mul pe_int (pv 1)) pe_int) pa_nil))) (pv 1)))
    (pss_one (ps_ret (pe_tup (pa_cons (pv 2) (pa_cons (pe_op op_add (pv 2) (pe_call G_law_draw (hr.mono (by omega)) (by rfl) m_law_draw k_law_draw b_law_draw .nil pass0 (pa_cons (pv 0) (pa_cons (pe_op op_add (pv 1) pe_int) pa_nil)))) pa_nil)))))), ?_⟩
    refine ⟨_, rfl, _, rfl, 2, n, rfl, rfl, .inl (by decide), _, 1, rfl, rfl, a, x, c, 2 * n + 1, rfl, ha, by omega, h1, fun r x1 c1 r0 r1 => ?_⟩
    refine ⟨_, rfl, r, n, rfl, rfl, ?_⟩
    refine ⟨_, rfl, _, rfl, _, rfl, _, rfl, n, 1, rfl, rfl, a, x1, c1, n + 1, rfl, upd_same, by omega, h2, fun d x2 c2 d0 d1 => ⟨r - n, d, rfl, rfl, by show 2 ≤ sizeLine; decide, fun p np => ?_⟩⟩
    rw [upd_upd] at np ⊢
    have npa : p ≠ a := fun z => by
      rw [z, upd_same] at np
      cases np
    refine q _ p (r - n) (r - n + d) x2 c2 (Kp.set.trans (.same (same_upd np))) (same_upd np _ _ upd_same) upd_same ?_ (by omega)
    rw [upd_ne npa] at np
    exact np
def spBox : Sp := fun vs H Q _ => ∃ (a : Addr) (n x c : Int) (m : Nat), vs = [.ref a, .int n, .int (m : Int)] ∧ H a = some (.lst [.int x, .int c]) ∧ 0 ≤ n ∧ Sz (2 * n + 1) ∧ Sz (n + 1) ∧ m ≤ 6 ∧
  ∀ (H' : Hp) (p : Addr) (bs : Bx) (x' c' : Int), Kp a H H' → H' a = some (.lst [.int x', .int c']) → BoxA H' p bs → H p = none → bs.length = m → WfB bs → Q (.ref p) H'
theorem ok_box {f : Addr} {fd : FuncData} {k : Nat} (F : FnP K "_law_box" "_law_box" s_law_box f fd) (C_span : Cal P w K mg base CX0 "_law_span" k ["_law_well_here", "_law_size"] spSpan) (m_range : mg "range" = none) (m_tuple : mg "tuple" = none) :
    FnOk P w K mg base CX0 (k + 1) f fd ["_law_well_here", "_law_size", "_law_count"] spBox := by
  obtain ⟨f_law_span, fd_law_span, G_law_span, b_law_span, m_law_span, k_law_span⟩ := C_span
  refine F.ok sc_law_box (fun vs H Q E h => ?_) (fun cdv A outer s H vs Q E hr h => ?_)
  · obtain ⟨a, n, x, c, m, rfl, _⟩ := h
    rfl
  · obtain ⟨a, n, x, c, m, rfl, ha, h0, h1, h2, hm, q⟩ := h
    refine ⟨_, PSs.nox (pss_one (ps_ret (pe_callTy call_tuple_of (by rfl) m_tuple (by decide +kernel) (pa_cons (pe_lc (own := [("_law_k", 3)]) rfl sc_law_box.nd (pi_range1 (by rfl) m_range (pa_cons (pv 2) pa_nil)) (blkOk_by (N := n_law_box) (sc := defScope s_law_box) (by decide +kernel)) (fun _ _ _ _ _ => pg_name (i := 3) sc_law_box.nd rfl (.inl rfl)) (fun _ _ _ _ _ => pts_nil) (fun _ _ _ _ _ => (pe_call G_law_span (hr.mono (by omega)) (by rfl) m_law_span k_law_span b_law_span .nil pass0 (pa_cons (pv 0) (pa_cons (pv 1) pa_nil))))) pa_nil)))), ?_⟩
    refine ⟨_, rfl, _, rfl, by omega, by omega, fun D nD => ?_⟩
    rw [Int.toNat_natCast]
    have Da : D ≠ a := fun z => by
      rw [z, ha] at nD
      cases nD
    refine lc_range (lo := 0) (n := m) (fun t H' => ∃ (ps : List Addr) (ns : Bx) (x' c' : Int), H' D = some (.lst (ps.map V.ref)) ∧ ns.length = t ∧ Prs H' ps ns ∧ WfB ns ∧ Kp a H H' ∧ H' a = some (.lst [.int x', .int c'])) ⟨[], [], x, c, upd_same, rfl, .nil, (fun _ z => by cases z), .same (same_upd nD), same_upd nD _ _ ha⟩ ?_ ?_
    · rintro t H2 ht ⟨ps, ns, x3, c3, hD, hl, pp, wf, kC, aC⟩
      have lp : ps.length = ns.length := Paired.length pp
      refine ⟨rfl, ?_⟩
      refine ⟨_, rfl, _, rfl, a, n, x3, c3, rfl, aC, h0, h1, h2, fun H3 p lo hi x4 c4 kD aD hp np le => ?_⟩
      have hD3 := kD _ _ Da hD
      refine ⟨_, hD3, by rw [List.length_map]; exact small1000 (by omega), ps ++ [p], ns ++ [(lo, hi)], x4, c4, ?_, ?_, ?_, ?_, ?_, ?_⟩
      · rw [upd_same, List.map_append]
        rfl
      · rw [List.length_append, hl]
        rfl
      · refine .snoc ((pp.kp kD aC).put hD3) ?_
        have pD : p ≠ D := fun e => by
          rw [e, hD3] at hp
          cases hp
        exact (upd_ne pD).trans hp
      · intro b hb
        rcases List.mem_append.mp hb with z | z
        · exact wf b z
        · rw [List.mem_singleton.mp z]
          exact le
      · exact fun b o nb e => by
          rw [upd_ne (ne_of_none e nD)]
          exact kD _ _ nb (kC _ _ nb e)
      · rw [upd_ne (Ne.symm Da)]
        exact aD
    · rintro H2 ⟨ps, ns, x3, c3, hD, hl, pp, wf, kC, aC⟩
      refine ⟨D, _, rfl, .inl ⟨.inl (.inl hD), fun p np => ?_⟩⟩
      have s1 := same_upd (o := .tup (ps.map V.ref)) np
      have nH : H p = none := by
        cases e : H p with
        | none => rfl
        | some o =>
          by_cases pa : p = a
          · rw [pa, aC] at np
            cases np
          · rw [kC _ _ pa e] at np
            cases np
      exact q _ p ns x3 c3 (kC.trans (.same s1)) (s1 _ _ aC) ⟨ps, upd_same, pp.same s1⟩ nH hl wf
end
end K12
set_option Elab.async false
set_option linter.all false
set_option maxRecDepth 100000
set_option maxHeartbeats 2000000
namespace K12
open PySem PySem.Spec PyProof.Rows L2 CM WD LamX
section
variable {P : Program} {w : World} {K : PySem.W.Frag} {mg : Str → Option Value} {base : Heap}
/-! ### what is to be told of boxes -/
def hullB (bs cs : Bx) : Bx := List.zipWith (fun b c => (min b.1 c.1, max b.2 c.2)) bs cs
def meetB (bs cs : Bx) : Bool := (bs.zip cs).all fun z => !(decide (z.1.2 < z.2.1) || decide (z.2.2 < z.1.1))
def wideB (bs : Bx) : Int := (bs.map fun b => b.2 - b.1).sum
def gapI (z : (Int × Int) × Int) : Int := max 0 (max (z.1.1 - z.2) (z.2 - z.1.2))
def farB (bs : Bx) (ns : List Int) : Int := ((bs.zip ns).map gapI).sum
theorem hull_at {bs cs : Bx} {i : Nat} {b c : Int × Int} (h1 : bs[i]? = some b) (h2 : cs[i]? = some c) : (hullB bs cs)[i]? = some (min b.1 c.1, max b.2 c.2) := by
  unfold hullB
  rw [List.getElem?_zipWith, h1, h2]
theorem zip_at {α β : Type} {bs : List α} {cs : List β} {i : Nat} {b : α} {c : β} (h1 : bs[i]? = some b) (h2 : cs[i]? = some c) : (bs.zip cs)[i]? = some (b, c) := by
  unfold List.zip
  rw [List.getElem?_zipWith, h1, h2]
def spJoined : Sp := fun vs H Q _ => ∃ (p r : Addr) (bs cs : Bx), vs = [.ref p, .ref r] ∧ BoxA H p bs ∧ BoxA H r cs ∧ bs.length = cs.length ∧ bs.length ≤ 6 ∧
  ∀ (t : Addr) (H' : Hp), Same H H' → BoxA H' t (hullB bs cs) → Q (.ref t) H'
theorem hull_len {bs cs : Bx} (h : bs.length = cs.length) : (hullB bs cs).length = bs.length := by
  unfold hullB
  rw [List.length_zipWith]
  omega
theorem ok_joined {f : Addr} {fd : FuncData} {k : Nat} (F : FnP K "_law_joined" "_law_joined" s_law_joined f fd) (m_zip : mg "zip" = none) (m_min : mg "min" = none) (m_max : mg "max" = none) (m_tuple : mg "tuple" = none) :
    FnOk P w K mg base CX0 (k + 1) f fd ["_law_one_here", "_law_two"] spJoined := by
  refine F.ok sc_law_joined (fun vs H Q E h => ?_) (fun cdv A outer s H vs Q E hr h => ?_)
  · obtain ⟨p, r, bs, cs, rfl, _⟩ := h
    rfl
  · obtain ⟨p, r, bs, cs, rfl, ⟨ps, hp, pp⟩, ⟨rs, hq, pr⟩, el, l6, q⟩ := h
    refine ⟨_, PSs.nox (pss_one (ps_ret (pe_callTy call_tuple_of (by rfl) m_tuple (by decide +kernel) (pa_cons (pe_lc (own := [("_law_a", 2), ("_law_b", 3)]) rfl sc_law_joined.nd (RZ.pi_zipA (by rfl) m_zip (pa_cons (pv 0) (pa_cons (pv 1) pa_nil))) (blkOk_by (N := n_law_joined) (sc := defScope s_law_joined) (by decide +kernel)) (fun _ _ _ _ _ => pg_tupK (n := 2) rfl (pgs_cons (pg_name (i := 2) sc_law_joined.nd rfl (.inl rfl) (by first | exact .inl rfl | exact .inr rfl)) (pgs_cons (pg_name (i := 3) sc_law_joined.nd rfl (.inl rfl) (by first | exact .inl rfl | exact .inr rfl)) (pgs_nil)))) (fun _ _ _ _ _ => pts_nil) (fun _ _ _ _ _ => (pe_tup (pa_cons (pe_callB (call_min2 rfl) (by rfl) m_min (by decide +kernel) (pa_cons (pe_ix ix_tupK (pv 2) pe_int (fun _ _ => rfl)) (pa_cons (pe_ix ix_tupK (pv 3) pe_int (fun _ _ => rfl)) pa_nil))) (pa_cons (pe_callB (call_max2 rfl) (by rfl) m_max (by decide +kernel) (pa_cons (pe_ix ix_tupK (pv 2) pe_int (fun _ _ => rfl)) (pa_cons (pe_ix ix_tupK (pv 3) pe_int (fun _ _ => rfl)) pa_nil))) pa_nil))))) pa_nil)))), ?_⟩
    have lp : ps.length = bs.length := Paired.length pp
    have lr : rs.length = cs.length := Paired.length pr
    refine ⟨_, rfl, _, rfl, p, r, _, _, rfl, .inr ⟨.inl (.inl hp), .inl (.inl hq), fun D nD => ?_⟩⟩
    refine lc_it (walk_zipT (n := bs.length) (xs := ps.map V.ref) (ys := rs.map V.ref) (by rw [List.length_map, List.length_map]; omega)) (fun i H' => ∃ ts : List Addr, H' D = some (.lst (ts.map V.ref)) ∧ Prs H' ts ((hullB bs cs).take i) ∧ Same H H') ⟨[], upd_same, .nil, same_upd nD⟩ (fun i H' _ ⟨_, _, _, s1⟩ => ⟨.inl (.inl (s1 _ _ hp)), .inl (.inl (s1 _ _ hq))⟩) ?_ ?_
    · rintro i x H1 H2 hi ⟨ts, hD, pt, s1⟩ ⟨T, x1, y1, rfl, nT, rfl, e1, e2⟩
      obtain ⟨a, lo, hi', rfl, e3, h3⟩ := pair_at (pp.same s1) e1
      obtain ⟨b, l, h', rfl, e4, h4⟩ := pair_at (pr.same s1) e2
      have s2 := same_upd (o := .tup [V.ref a, V.ref b]) nT
      refine ⟨T, [.ref a, .ref b], rfl, .inl (.inl upd_same), rfl, _, _, rfl, _, _, rfl, rfl, rfl, ?_⟩
      have h3' := s2 _ _ h3
      have h4' := s2 _ _ h4
      have hD' := s2 _ _ hD
      have pt' := pt.same s2
      have s3 := s1.trans s2
      generalize upd H1 T (.tup [V.ref a, V.ref b]) = G at h3' h4' hD' pt' s3
      refine ⟨_, rfl, a, _, 0, _, rfl, rfl, .inl (.inl h3'), rfl, _, rfl, b, _, 0, _, rfl, rfl, .inl (.inl h4'), rfl, lo, l, rfl, ?_⟩
      refine ⟨_, rfl, a, _, 1, _, rfl, rfl, .inl (.inl h3'), rfl, _, rfl, b, _, 1, _, rfl, rfl, .inl (.inl h4'), rfl, hi', h', rfl, by show 2 ≤ sizeLine; decide, fun t nt => ?_⟩
      rw [max_if, min_if]
      have s4 := same_upd (o := .tup [V.int (min lo l), V.int (max hi' h')]) nt
      have tD : t ≠ D := ne_of_none hD' nt |>.symm
      refine ⟨_, s4 _ _ hD', ?_, ts ++ [t], ?_, ?_, ?_⟩
      · rw [List.length_map, Paired.length pt, List.length_take]
        exact small1000 (by omega)
      · rw [upd_same, List.map_append]
        rfl
      · rw [List.take_add_one, hull_at e3 e4]
        refine .snoc ((pt'.same s4).put (s4 _ _ hD')) ?_
        exact (upd_ne tD).trans upd_same
      · exact same_put (s3.trans s4) nD
    · rintro H1 ⟨ts, hD, pt, s1⟩
      rw [List.take_of_length_le (by rw [hull_len el]; exact Nat.le_refl _)] at pt
      exact ⟨D, _, rfl, .inl ⟨.inl (.inl hD), fun t nt => q t _ (s1.trans (same_upd nt)) ⟨ts, upd_same, pt.same (same_upd nt)⟩⟩⟩
def spMeets : Sp := fun vs H Q _ => ∃ (p r : Addr) (bs cs : Bx), vs = [.ref p, .ref r] ∧ BoxA H p bs ∧ BoxA H r cs ∧ bs.length = cs.length ∧ bs.length ≤ 6 ∧ ∀ H' : Hp, Same H H' → Q (.bl (meetB bs cs)) H'
theorem all_take {α : Type} {f : α → Bool} {l : List α} {i : Nat} {x : α} (h : l[i]? = some x) : (l.take (i + 1)).all f = ((l.take i).all f && f x) := by
  rw [List.take_add_one, h, List.all_append]
  simp
theorem ok_meets {f : Addr} {fd : FuncData} {k : Nat} (F : FnP K "_law_meets" "_law_meets" s_law_meets f fd) (m_zip : mg "zip" = none) : FnOk P w K mg base CX0 (k + 1) f fd ["_law_one_here", "_law_two"] spMeets := by
  refine F.ok sc_law_meets (fun vs H Q E h => ?_) (fun cdv A outer s H vs Q E hr h => ?_)
  · obtain ⟨p, r, bs, cs, rfl, _⟩ := h
    rfl
  · obtain ⟨p, r, bs, cs, rfl, ⟨ps, hp, pp⟩, ⟨rs, hq, pr⟩, el, l6, q⟩ := h
    refine ⟨_, PSs.nox (pss_one (ps_ret (pe_cmpR (WD.op_eqNilL hr.units) (pe_lc (own := [("_law_a", 2), ("_law_b", 3)]) rfl sc_law_meets.nd (RZ.pi_zipA (by rfl) m_zip (pa_cons (pv 0) (pa_cons (pv 1) pa_nil))) (blkOk_by (N := n_law_meets) (sc := defScope s_law_meets) (by decide +kernel)) (fun _ _ _ _ _ => pg_tupK (n := 2) rfl (pgs_cons (pg_name (i := 2) sc_law_meets.nd rfl (.inl rfl) (by first | exact .inl rfl | exact .inr rfl)) (pgs_cons (pg_name (i := 3) sc_law_meets.nd rfl (.inl rfl) (by first | exact .inl rfl | exact .inr rfl)) (pgs_nil)))) (fun _ _ _ _ _ => pts_one (PW.pt (pw_or (pt_cmpR op_lt (pe_ix ix_tupK (pv 2) pe_int (fun _ _ => rfl)) (pe_ix ix_tupK (pv 3) pe_int (fun _ _ => rfl)) (nomark _)) (pw_or1 (pt_cmpR op_lt (pe_ix ix_tupK (pv 3) pe_int (fun _ _ => rfl)) (pe_ix ix_tupK (pv 2) pe_int (fun _ _ => rfl)) (nomark _)))))) (fun _ _ _ _ _ => pe_int)) (pe_lst (pa_nil)) (nomark _)))), ?_⟩
    have lp : ps.length = bs.length := Paired.length pp
    have lr : rs.length = cs.length := Paired.length pr
    refine ⟨_, rfl, _, rfl, p, r, _, _, rfl, .inr ⟨.inl (.inl hp), .inl (.inl hq), fun D nD => ?_⟩⟩
    refine lc_it (walk_zipT (n := bs.length) (xs := ps.map V.ref) (ys := rs.map V.ref) (by rw [List.length_map, List.length_map]; omega)) (fun i H' => ∃ n : Nat, H' D = some (.lst (List.replicate n (.int 1))) ∧ n ≤ i ∧ decide (n = 0) = ((bs.zip cs).take i).all (fun z => !(decide (z.1.2 < z.2.1) || decide (z.2.2 < z.1.1))) ∧ Same H H') ⟨0, upd_same, Nat.le_refl _, rfl, same_upd nD⟩ (fun i H' _ ⟨_, _, _, _, s1⟩ => ⟨.inl (.inl (s1 _ _ hp)), .inl (.inl (s1 _ _ hq))⟩) ?_ ?_
    · rintro i x H1 H2 hi ⟨n, hD, ln, en, s1⟩ ⟨T, x1, y1, rfl, nT, rfl, e1, e2⟩
      obtain ⟨a, lo, hi', rfl, e3, h3⟩ := pair_at (pp.same s1) e1
      obtain ⟨b, l, h', rfl, e4, h4⟩ := pair_at (pr.same s1) e2
      have s2 := same_upd (o := .tup [V.ref a, V.ref b]) nT
      refine ⟨T, [.ref a, .ref b], rfl, .inl (.inl upd_same), rfl, _, _, rfl, _, _, rfl, rfl, rfl, ?_⟩
      have h3' := s2 _ _ h3
      have h4' := s2 _ _ h4
      have hD' := s2 _ _ hD
      have s3 := s1.trans s2
      generalize upd H1 T (.tup [V.ref a, V.ref b]) = G at h3' h4' hD' s3
      have more : ∀ {z : Bool}, z = true → (!(decide (hi' < l) || decide (h' < lo))) = !z → ∃ acc, G D = some (.lst acc) ∧ acc.length < sizeLine ∧ ∃ n : Nat, (upd G D (.lst (acc ++ [V.int 1]))) D = some (.lst (List.replicate n (.int 1))) ∧ n ≤ i + 1 ∧ decide (n = 0) = ((bs.zip cs).take (i + 1)).all (fun z => !(decide (z.1.2 < z.2.1) || decide (z.2.2 < z.1.1))) ∧ Same H (upd G D (.lst (acc ++ [V.int 1]))) := fun {z} ez ex => by
        refine ⟨_, hD', by rw [List.length_replicate]; exact small1000 (by omega), n + 1, ?_, by omega, ?_, same_put s3 nD⟩
        · rw [upd_same, List.replicate_succ']
        · rw [all_take (zip_at e3 e4), show (!(decide ((lo, hi').2 < (l, h').1) || decide ((l, h').2 < (lo, hi').1))) = !z from ex, ez]
          simp
      refine ⟨_, rfl, a, _, 1, _, rfl, rfl, .inl (.inl h3'), rfl, _, rfl, b, _, 0, _, rfl, rfl, .inl (.inl h4'), rfl, hi', l, rfl, rfl, _, rfl, ite2 (fun e => ?_) (fun e => ?_)⟩
      · exact more (z := true) rfl (by rw [e]; rfl)
      · refine ⟨_, rfl, b, _, 1, _, rfl, rfl, .inl (.inl h4'), rfl, _, rfl, a, _, 0, _, rfl, rfl, .inl (.inl h3'), rfl, h', lo, rfl, rfl, _, rfl, ite2 (fun e' => ?_) (fun e' => ?_)⟩
        · exact more (z := true) rfl (by rw [e', Bool.or_true])
        · refine ⟨n, hD', by omega, ?_, s3⟩
          rw [all_take (zip_at e3 e4), en, show (!(decide ((lo, hi').2 < (l, h').1) || decide ((l, h').2 < (lo, hi').1))) = true by
            simp only [Bool.not_eq_true'] 
            rw [Bool.eq_false_iff.mpr e, Bool.eq_false_iff.mpr e']
            rfl, Bool.and_true]
    · rintro H1 ⟨n, hD, ln, en, s1⟩
      rw [List.take_of_length_le (by rw [List.length_zip]; omega)] at en
      refine ⟨by show 0 ≤ sizeLine; decide, fun N nN => ⟨D, N, _, rfl, rfl, .inl (.inl (same_upd nN _ _ hD)), .inl (.inl upd_same), ?_⟩⟩
      have e0 : (List.replicate n (V.int 1)).isEmpty = meetB bs cs := by
        unfold meetB
        rw [← en]
        cases n <;> rfl
      rw [e0]
      exact q _ (s1.trans (same_upd nN))
end
end K12
set_option Elab.async false
set_option linter.all false
set_option maxRecDepth 100000
set_option maxHeartbeats 2000000
namespace K12
open PySem PySem.Spec PyProof.Rows L2 CM WD LamX
section
variable {P : Program} {w : World} {K : PySem.W.Frag} {mg : Str → Option Value} {base : Heap}
def spWide : Sp := fun vs H Q _ => ∃ (p : Addr) (bs : Bx), vs = [.ref p] ∧ BoxA H p bs ∧ bs.length ≤ 6 ∧ ∀ H' : Hp, Same H H' → Q (.int (wideB bs)) H'
theorem ok_wide {f : Addr} {fd : FuncData} {k : Nat} (F : FnP K "_law_wide" "_law_wide" s_law_wide f fd) (m_sum : mg "sum" = none) : FnOk P w K mg base CX0 (k + 1) f fd ["_law_box_here"] spWide := by
  refine F.ok sc_law_wide (fun vs H Q E h => ?_) (fun cdv A outer s H vs Q E hr h => ?_)
  · obtain ⟨p, bs, rfl, _⟩ := h
    rfl
  · obtain ⟨p, bs, rfl, ⟨ps, hp, pp⟩, l6, q⟩ := h
    refine ⟨_, PSs.nox (pss_one (ps_ret (pe_callB (cr_sum rfl) (by rfl) m_sum (by decide +kernel) (pa_cons (pe_lc (own := [("_law_low", 1), ("_law_high", 2)]) rfl sc_law_wide.nd (pi_tup (pv 0)) (blkOk_by (N := n_law_wide) (sc := defScope s_law_wide) (by decide +kernel)) (fun _ _ _ _ _ => pg_tupK (n := 2) rfl (pgs_cons (pg_name (i := 1) sc_law_wide.nd rfl (.inl rfl) (by first | exact .inl rfl | exact .inr rfl)) (pgs_cons (pg_name (i := 2) sc_law_wide.nd rfl (.inl rfl) (by first | exact .inl rfl | exact .inr rfl)) (pgs_nil)))) (fun _ _ _ _ _ => pts_nil) (fun _ _ _ _ _ => (pe_op op_sub (pv 2) (pv 1)))) pa_nil)))), ?_⟩
    have lp : ps.length = bs.length := Paired.length pp
    refine ⟨_, rfl, p, rfl, ⟨ps.map V.ref, .inl (.inl hp)⟩, fun D nD => ?_⟩
    refine lc_tup (xs := ps.map V.ref) (fun t H' => Same H H' ∧ H' D = some (.lst (((bs.map fun b => b.2 - b.1).take t).map V.int))) ⟨same_upd nD, upd_same⟩ (fun t H' _ z => .inl (.inl (z.1 _ _ hp))) ?_ ?_
    · rintro t v H4 hv ⟨s4, hD4⟩
      obtain ⟨a, lo, hi, rfl, e1, e2⟩ := pair_at (pp.same s4) hv
      refine ⟨a, [.int lo, .int hi], rfl, .inl (.inl e2), rfl, _, _, rfl, _, _, rfl, rfl, rfl, ?_⟩
      refine ⟨_, rfl, _, rfl, hi, lo, rfl, rfl, _, hD4, ?_, same_put s4 nD, ?_⟩
      · rw [List.length_map, List.length_take, List.length_map]
        exact small1000 (by omega)
      · rw [upd_same, List.take_add_one, List.getElem?_map, e1, List.map_append]
        rfl
    · rintro H4 ⟨s4, hD4⟩
      rw [List.length_map, List.take_of_length_le (by rw [List.length_map, lp]; exact Nat.le_refl _)] at hD4
      exact ⟨D, _, rfl, .inl (.inl hD4), q _ s4⟩
def spFar : Sp := fun vs H Q _ => ∃ (p r : Addr) (bs : Bx) (ns : List Int), vs = [.ref p, .ref r] ∧ BoxA H p bs ∧ H r = some (.tup (ns.map V.int)) ∧ bs.length = ns.length ∧ bs.length ≤ 6 ∧ ∀ H' : Hp, Same H H' → Q (.int (farB bs ns)) H'
theorem int_at {ns : List Int} {t : Nat} {v : V} (h : (ns.map V.int)[t]? = some v) : ∃ n : Int, v = .int n ∧ ns[t]? = some n := by
  rw [List.getElem?_map] at h
  cases e : ns[t]? with
  | none =>
    rw [e] at h
    cases h
  | some n =>
    rw [e] at h
    exact ⟨n, (Option.some.inj h).symm, rfl⟩
theorem ok_far {f : Addr} {fd : FuncData} {k : Nat} (F : FnP K "_law_far" "_law_far" s_law_far f fd) (m_sum : mg "sum" = none) (m_zip : mg "zip" = none) (m_max : mg "max" = none) : FnOk P w K mg base CX0 (k + 1) f fd ["_law_box_here", "_law_spot"] spFar := by
  refine F.ok sc_law_far (fun vs H Q E h => ?_) (fun cdv A outer s H vs Q E hr h => ?_)
  · obtain ⟨p, r, bs, ns, rfl, _⟩ := h
    rfl
  · obtain ⟨p, r, bs, ns, rfl, ⟨ps, hp, pp⟩, hq, el, l6, q⟩ := h
    refine ⟨_, PSs.nox (pss_one (ps_ret (pe_callB (cr_sum rfl) (by rfl) m_sum (by decide +kernel) (pa_cons (pe_lc (own := [("_law_x", 2), ("_law_low", 3), ("_law_high", 4)]) rfl sc_law_far.nd (RZ.pi_zipA (by rfl) m_zip (pa_cons (pv 0) (pa_cons (pv 1) pa_nil))) (blkOk_by (N := n_law_far) (sc := defScope s_law_far) (by decide +kernel)) (fun _ _ _ _ _ => pg_tupK (n := 2) rfl (pgs_cons (pg_tupK (n := 2) rfl (pgs_cons (pg_name (i := 3) sc_law_far.nd rfl (.inl rfl) (by first | exact .inl rfl | exact .inr rfl)) (pgs_cons (pg_name (i := 4) sc_law_far.nd rfl (.inl rfl) (by first | exact .inl rfl | exact .inr rfl)) (pgs_nil)))) (pgs_cons (pg_name (i := 2) sc_law_far.nd rfl (.inl rfl) (by first | exact .inl rfl | exact .inr rfl)) (pgs_nil)))) (fun _ _ _ _ _ => pts_nil) (fun _ _ _ _ _ => (pe_callB (SL.call_max3 rfl) (by rfl) m_max (by decide +kernel) (pa_cons pe_int (pa_cons (pe_op op_sub (pv 3) (pv 2)) (pa_cons (pe_op op_sub (pv 2) (pv 4)) pa_nil)))))) pa_nil)))), ?_⟩
    have lp : ps.length = bs.length := Paired.length pp
    refine ⟨_, rfl, _, rfl, p, r, _, _, rfl, .inr ⟨.inl (.inl hp), .inl (.inl hq), fun D nD => ?_⟩⟩
    refine lc_it (walk_zipT (n := bs.length) (xs := ps.map V.ref) (ys := ns.map V.int) (by rw [List.length_map, List.length_map]; omega)) (fun i H' => Same H H' ∧ H' D = some (.lst ((((bs.zip ns).map gapI).take i).map V.int))) ⟨same_upd nD, upd_same⟩ (fun i H' _ ⟨s1, _⟩ => ⟨.inl (.inl (s1 _ _ hp)), .inl (.inl (s1 _ _ hq))⟩) ?_ ?_
    · rintro i x H1 H2 hi ⟨s1, hD⟩ ⟨T, x1, y1, rfl, nT, rfl, e1, e2⟩
      obtain ⟨a, lo, hi', rfl, e3, h3⟩ := pair_at (pp.same s1) e1
      obtain ⟨n, rfl, e4⟩ := int_at e2
      have s2 := same_upd (o := .tup [V.ref a, V.int n]) nT
      refine ⟨T, [.ref a, .int n], rfl, .inl (.inl upd_same), rfl, _, _, rfl, a, [.int lo, .int hi'], rfl, .inl (.inl (s2 _ _ h3)), rfl, _, _, rfl, _, _, rfl, rfl, _, _, rfl, rfl, rfl, ?_⟩
      have hD' := s2 _ _ hD
      have s3 := s1.trans s2
      generalize upd H1 T (.tup [V.ref a, V.int n]) = G at hD' s3
      refine ⟨_, rfl, _, rfl, lo, n, rfl, rfl, _, rfl, _, rfl, n, hi', rfl, rfl, 0, lo - n, n - hi', rfl, _, hD', ?_, same_put s3 nD, ?_⟩
      · rw [List.length_map, List.length_take, List.length_map]
        exact small1000 (by omega)
      · rw [upd_same, List.take_add_one, List.getElem?_map, zip_at e3 e4, List.map_append]
        refine congrArg (fun z : Int => some (HO.lst (_ ++ [V.int z]))) ?_
        show max (max 0 (lo - n)) (n - hi') = max 0 (max (lo - n) (n - hi'))
        omega
    · rintro H1 ⟨s1, hD⟩
      rw [List.take_of_length_le (by rw [List.length_map, List.length_zip]; omega)] at hD
      exact ⟨D, _, rfl, .inl (.inl hD), q _ s1⟩
end
end K12
set_option Elab.async false
set_option linter.all false
set_option maxRecDepth 100000
set_option maxHeartbeats 2000000
namespace K12
open PySem PySem.Spec PyProof.Rows L2 CM WD LamX
section
variable {P : Program} {w : World} {K : PySem.W.Frag} {mg : Str → Option Value} {base : Heap}
/-! ### the program's own -/
def spHull : Sp := fun vs H Q _ => ∃ (p r : Addr) (l h l' h' : Int), vs = [.ref p, .ref r] ∧ Tup2 H p l h ∧ Tup2 H r l' h' ∧ ∀ (t : Addr) (H' : Hp), Same H H' → Tup2 H' t (min l l') (max h h') → Q (.ref t) H'
theorem ok_hull {f : Addr} {fd : FuncData} {k : Nat} (F : FnP K "hull" "hull" s_hull f fd) (m_max : mg "max" = none) (m_min : mg "min" = none) : FnOk P w K mg base CX0 (k + 1) f fd ["one", "other"] spHull := by
  refine F.ok sc_hull (fun vs H Q E h => ?_) (fun cdv A outer s H vs Q E hr h => ?_)
  · obtain ⟨p, r, l, h, l', h', rfl, _⟩ := h
    rfl
  · obtain ⟨p, r, l, h, l', h', rfl, hp, hq, q⟩ := h
    refine ⟨_, PSs.nox (pss_one (ps_ret (pe_tup (pa_cons (pe_callB (call_min2 rfl) (by rfl) m_min (by decide +kernel) (pa_cons (pe_ix ix_tup (pv 0) pe_int (fun _ _ => rfl)) (pa_cons (pe_ix ix_tup (pv 1) pe_int (fun _ _ => rfl)) pa_nil))) (pa_cons (pe_callB (call_max2 rfl) (by rfl) m_max (by decide +kernel) (pa_cons (pe_ix ix_tup (pv 0) pe_int (fun _ _ => rfl)) (pa_cons (pe_ix ix_tup (pv 1) pe_int (fun _ _ => rfl)) pa_nil))) pa_nil))))), ?_⟩
    refine ⟨_, rfl, p, _, 0, _, rfl, rfl, .inl (.inl hp), rfl, _, rfl, r, _, 0, _, rfl, rfl, .inl (.inl hq), rfl, l, l', rfl, ?_⟩
    refine ⟨_, rfl, p, _, 1, _, rfl, rfl, .inl (.inl hp), rfl, _, rfl, r, _, 1, _, rfl, rfl, .inl (.inl hq), rfl, h, h', rfl, by show 2 ≤ sizeLine; decide, fun t nt => ?_⟩
    rw [max_if, min_if]
    exact q t _ (same_upd nt) upd_same
def spShI : Sp := fun vs H Q _ => ∃ (p r : Addr) (l h l' h' : Int), vs = [.ref p, .ref r] ∧ Tup2 H p l h ∧ Tup2 H r l' h' ∧ Q (.bl (decide (max l l' ≤ min h h'))) H
theorem ok_shi {f : Addr} {fd : FuncData} {k : Nat} (F : FnP K "share_integer" "share_integer" s_share_integer f fd) (m_max : mg "max" = none) (m_min : mg "min" = none) : FnOk P w K mg base CX0 (k + 1) f fd ["one", "other"] spShI := by
  refine F.ok sc_share_integer (fun vs H Q E h => ?_) (fun cdv A outer s H vs Q E hr h => ?_)
  · obtain ⟨p, r, l, h, l', h', rfl, _⟩ := h
    rfl
  · obtain ⟨p, r, l, h, l', h', rfl, hp, hq, q⟩ := h
    refine ⟨_, PSs.nox (pss_one (ps_ret (pe_cmpR op_le (pe_callB (call_max2 rfl) (by rfl) m_max (by decide +kernel) (pa_cons (pe_ix ix_tup (pv 0) pe_int (fun _ _ => rfl)) (pa_cons (pe_ix ix_tup (pv 1) pe_int (fun _ _ => rfl)) pa_nil))) (pe_callB (call_min2 rfl) (by rfl) m_min (by decide +kernel) (pa_cons (pe_ix ix_tup (pv 0) pe_int (fun _ _ => rfl)) (pa_cons (pe_ix ix_tup (pv 1) pe_int (fun _ _ => rfl)) pa_nil))) (nomark _)))), ?_⟩
    refine ⟨_, rfl, p, _, 0, _, rfl, rfl, .inl (.inl hp), rfl, _, rfl, r, _, 0, _, rfl, rfl, .inl (.inl hq), rfl, l, l', rfl, ?_⟩
    refine ⟨_, rfl, p, _, 1, _, rfl, rfl, .inl (.inl hp), rfl, _, rfl, r, _, 1, _, rfl, rfl, .inl (.inl hq), rfl, h, h', rfl, _, _, rfl, rfl, ?_⟩
    rw [max_if, min_if]
    exact q
def spWid : Sp := fun vs H Q _ => ∃ (p : Addr) (l h : Int), vs = [.ref p] ∧ Tup2 H p l h ∧ Q (.int (h - l)) H
theorem ok_width {f : Addr} {fd : FuncData} {k : Nat} (F : FnP K "width_of" "width_of" s_width_of f fd) : FnOk P w K mg base CX0 (k + 1) f fd ["span"] spWid := by
  refine F.ok sc_width_of (fun vs H Q E h => ?_) (fun cdv A outer s H vs Q E hr h => ?_)
  · obtain ⟨p, l, h, rfl, _⟩ := h
    rfl
  · obtain ⟨p, l, h, rfl, hp, q⟩ := h
    refine ⟨_, PSs.nox (pss_one (ps_ret (pe_op op_sub (pe_ix ix_tup (pv 0) pe_int (fun _ _ => rfl)) (pe_ix ix_tup (pv 0) pe_int (fun _ _ => rfl))))), ?_⟩
    exact ⟨_, rfl, p, _, 1, _, rfl, rfl, .inl (.inl hp), rfl, _, rfl, p, _, 0, _, rfl, rfl, .inl (.inl hp), rfl, _, _, rfl, rfl, q⟩
def spGap : Sp := fun vs H Q _ => ∃ (p : Addr) (l h n : Int), vs = [.ref p, .int n] ∧ Tup2 H p l h ∧ Q (.int (max (max (l - n) (n - h)) 0)) H
theorem ok_gap {f : Addr} {fd : FuncData} {k : Nat} (F : FnP K "gap" "gap" s_gap f fd) (m_max : mg "max" = none) : FnOk P w K mg base CX0 (k + 1) f fd ["span", "number"] spGap := by
  refine F.ok sc_gap (fun vs H Q E h => ?_) (fun cdv A outer s H vs Q E hr h => ?_)
  · obtain ⟨p, l, h, n, rfl, _⟩ := h
    rfl
  · obtain ⟨p, l, h, n, rfl, hp, q⟩ := h
    refine ⟨_, PSs.nox (pss_one (ps_ret (pe_callB (SL.call_max3 rfl) (by rfl) m_max (by decide +kernel) (pa_cons (pe_op op_sub (pe_ix ix_tup (pv 0) pe_int (fun _ _ => rfl)) (pv 1)) (pa_cons (pe_op op_sub (pv 1) (pe_ix ix_tup (pv 0) pe_int (fun _ _ => rfl))) (pa_cons pe_int pa_nil)))))), ?_⟩
    exact ⟨_, rfl, p, _, 0, _, rfl, rfl, .inl (.inl hp), rfl, _, rfl, l, n, rfl, rfl, _, rfl, _, rfl, p, _, 1, _, rfl, rfl, .inl (.inl hp), rfl, n, h, rfl, rfl, l - n, n - h, 0, rfl, q⟩
def spGaps : Sp := fun vs H Q _ => ∃ (p r : Addr) (bs : Bx) (ns : List Int), vs = [.ref p, .ref r] ∧ BoxA H p bs ∧ H r = some (.tup (ns.map V.int)) ∧ bs.length = ns.length ∧ bs.length ≤ 6 ∧ ∀ H' : Hp, Same H H' → Q (.int (farB bs ns)) H'
theorem ok_gaps {f : Addr} {fd : FuncData} {k : Nat} (F : FnP K "gaps" "gaps" s_gaps f fd) (C_gap : Cal P w K mg base CX0 "gap" k ["span", "number"] spGap) (m_sum : mg "sum" = none) (m_zip : mg "zip" = none) : FnOk P w K mg base CX0 (k + 1) f fd ["box", "point"] spGaps := by
  obtain ⟨f_gap, fd_gap, G_gap, b_gap, m_gap, k_gap⟩ := C_gap
  refine F.ok sc_gaps (fun vs H Q E h => ?_) (fun cdv A outer s H vs Q E hr h => ?_)
  · obtain ⟨p, r, bs, ns, rfl, _⟩ := h
    rfl
  · obtain ⟨p, r, bs, ns, rfl, ⟨ps, hp, pp⟩, hq, el, l6, q⟩ := h
    refine ⟨_, PSs.nox (pss_one (ps_ret (pe_callB (cr_sum rfl) (by rfl) m_sum (by decide +kernel) (pa_cons (pe_lc (own := [("span", 2), ("number", 3)]) rfl sc_gaps.nd (RZ.pi_zipA (by rfl) m_zip (pa_cons (pv 0) (pa_cons (pv 1) pa_nil))) (blkOk_by (N := n_gaps) (sc := defScope s_gaps) (by decide +kernel)) (fun _ _ _ _ _ => pg_tupK (n := 2) rfl (pgs_cons (pg_name (i := 2) sc_gaps.nd rfl (.inl rfl) (by first | exact .inl rfl | exact .inr rfl)) (pgs_cons (pg_name (i := 3) sc_gaps.nd rfl (.inl rfl) (by first | exact .inl rfl | exact .inr rfl)) (pgs_nil)))) (fun _ _ _ _ _ => pts_nil) (fun _ _ _ _ _ => (pe_call G_gap (hr.mono (by omega)) (by rfl) m_gap k_gap b_gap .nil pass0 (pa_cons (pv 2) (pa_cons (pv 3) pa_nil))))) pa_nil)))), ?_⟩
    have lp : ps.length = bs.length := Paired.length pp
    refine ⟨_, rfl, _, rfl, p, r, _, _, rfl, .inr ⟨.inl (.inl hp), .inl (.inl hq), fun D nD => ?_⟩⟩
    refine lc_it (walk_zipT (n := bs.length) (xs := ps.map V.ref) (ys := ns.map V.int) (by rw [List.length_map, List.length_map]; omega)) (fun i H' => Same H H' ∧ H' D = some (.lst ((((bs.zip ns).map gapI).take i).map V.int))) ⟨same_upd nD, upd_same⟩ (fun i H' _ ⟨s1, _⟩ => ⟨.inl (.inl (s1 _ _ hp)), .inl (.inl (s1 _ _ hq))⟩) ?_ ?_
    · rintro i x H1 H2 hi ⟨s1, hD⟩ ⟨T, x1, y1, rfl, nT, rfl, e1, e2⟩
      obtain ⟨a, lo, hi', rfl, e3, h3⟩ := pair_at (pp.same s1) e1
      obtain ⟨n, rfl, e4⟩ := int_at e2
      have s2 := same_upd (o := .tup [V.ref a, V.int n]) nT
      refine ⟨T, [.ref a, .int n], rfl, .inl (.inl upd_same), rfl, _, _, rfl, _, _, rfl, rfl, rfl, ?_⟩
      have hD' := s2 _ _ hD
      have h3' := s2 _ _ h3
      have s3 := s1.trans s2
      generalize upd H1 T (.tup [V.ref a, V.int n]) = G at hD' h3' s3
      refine ⟨_, rfl, _, rfl, a, lo, hi', n, rfl, h3', _, hD', ?_, same_put s3 nD, ?_⟩
      · rw [List.length_map, List.length_take, List.length_map]
        exact small1000 (by omega)
      · rw [upd_same, List.take_add_one, List.getElem?_map, zip_at e3 e4, List.map_append]
        refine congrArg (fun z : Int => some (HO.lst (_ ++ [V.int z]))) ?_
        show max (max (lo - n) (n - hi')) 0 = max 0 (max (lo - n) (n - hi'))
        omega
    · rintro H1 ⟨s1, hD⟩
      rw [List.take_of_length_le (by rw [List.length_map, List.length_zip]; omega)] at hD
      exact ⟨D, _, rfl, .inl (.inl hD), q _ s1⟩
def spWidths : Sp := fun vs H Q _ => ∃ (p : Addr) (bs : Bx), vs = [.ref p] ∧ BoxA H p bs ∧ bs.length ≤ 6 ∧ ∀ H' : Hp, Same H H' → Q (.int (wideB bs)) H'
theorem ok_widths {f : Addr} {fd : FuncData} {k : Nat} (F : FnP K "widths_of" "widths_of" s_widths_of f fd) (C_width_of : Cal P w K mg base CX0 "width_of" k ["span"] spWid) (m_sum : mg "sum" = none) : FnOk P w K mg base CX0 (k + 1) f fd ["box"] spWidths := by
  obtain ⟨f_width_of, fd_width_of, G_width_of, b_width_of, m_width_of, k_width_of⟩ := C_width_of
  refine F.ok sc_widths_of (fun vs H Q E h => ?_) (fun cdv A outer s H vs Q E hr h => ?_)
  · obtain ⟨p, bs, rfl, _⟩ := h
    rfl
  · obtain ⟨p, bs, rfl, ⟨ps, hp, pp⟩, l6, q⟩ := h
    refine ⟨_, PSs.nox (pss_one (ps_ret (pe_callB (cr_sum rfl) (by rfl) m_sum (by decide +kernel) (pa_cons (pe_lc (own := [("span", 1)]) rfl sc_widths_of.nd (pi_tup (pv 0)) (blkOk_by (N := n_widths_of) (sc := defScope s_widths_of) (by decide +kernel)) (fun _ _ _ _ _ => pg_name (i := 1) sc_widths_of.nd rfl (.inl rfl)) (fun _ _ _ _ _ => pts_nil) (fun _ _ _ _ _ => (pe_call G_width_of (hr.mono (by omega)) (by rfl) m_width_of k_width_of b_width_of .nil pass0 (pa_cons (pv 1) pa_nil)))) pa_nil)))), ?_⟩
    have lp : ps.length = bs.length := Paired.length pp
    refine ⟨_, rfl, p, rfl, ⟨ps.map V.ref, .inl (.inl hp)⟩, fun D nD => ?_⟩
    refine lc_tup (xs := ps.map V.ref) (fun t H' => Same H H' ∧ H' D = some (.lst (((bs.map fun b => b.2 - b.1).take t).map V.int))) ⟨same_upd nD, upd_same⟩ (fun t H' _ z => .inl (.inl (z.1 _ _ hp))) ?_ ?_
    · rintro t v H4 hv ⟨s4, hD4⟩
      obtain ⟨a, lo, hi, rfl, e1, e2⟩ := pair_at (pp.same s4) hv
      refine ⟨rfl, ?_⟩
      refine ⟨_, rfl, a, lo, hi, rfl, e2, _, hD4, ?_, same_put s4 nD, ?_⟩
      · rw [List.length_map, List.length_take, List.length_map]
        exact small1000 (by omega)
      · rw [upd_same, List.take_add_one, List.getElem?_map, e1, List.map_append]
        rfl
    · rintro H4 ⟨s4, hD4⟩
      rw [List.length_map, List.take_of_length_le (by rw [List.length_map, lp]; exact Nat.le_refl _)] at hD4
      exact ⟨D, _, rfl, .inl (.inl hD4), q _ s4⟩
theorem ok_hullB {f : Addr} {fd : FuncData} {k : Nat} (F : FnP K "hull_of_boxes" "hull_of_boxes" s_hull_of_boxes f fd) (C_hull : Cal P w K mg base CX0 "hull" k ["one", "other"] spHull) (m_zip : mg "zip" = none) (m_tuple : mg "tuple" = none) :
    FnOk P w K mg base CX0 (k + 1) f fd ["one", "other"] spJoined := by
  obtain ⟨f_hull, fd_hull, G_hull, b_hull, m_hull, k_hull⟩ := C_hull
  refine F.ok sc_hull_of_boxes (fun vs H Q E h => ?_) (fun cdv A outer s H vs Q E hr h => ?_)
  · obtain ⟨p, r, bs, cs, rfl, _⟩ := h
    rfl
  · obtain ⟨p, r, bs, cs, rfl, ⟨ps, hp, pp⟩, ⟨rs, hq, pr⟩, el, l6, q⟩ := h
    refine ⟨_, PSs.nox (pss_one (ps_ret (pe_callTy call_tuple_of (by rfl) m_tuple (by decide +kernel) (pa_cons (pe_lc (own := [("first", 2), ("second", 3)]) rfl sc_hull_of_boxes.nd (RZ.pi_zipA (by rfl) m_zip (pa_cons (pv 0) (pa_cons (pv 1) pa_nil))) (blkOk_by (N := n_hull_of_boxes) (sc := defScope s_hull_of_boxes) (by decide +kernel)) (fun _ _ _ _ _ => pg_tupK (n := 2) rfl (pgs_cons (pg_name (i := 2) sc_hull_of_boxes.nd rfl (.inl rfl) (by first | exact .inl rfl | exact .inr rfl)) (pgs_cons (pg_name (i := 3) sc_hull_of_boxes.nd rfl (.inl rfl) (by first | exact .inl rfl | exact .inr rfl)) (pgs_nil)))) (fun _ _ _ _ _ => pts_nil) (fun _ _ _ _ _ => (pe_call G_hull (hr.mono (by omega)) (by rfl) m_hull k_hull b_hull .nil pass0 (pa_cons (pv 2) (pa_cons (pv 3) pa_nil))))) pa_nil)))), ?_⟩
    have lp : ps.length = bs.length := Paired.length pp
    have lr : rs.length = cs.length := Paired.length pr
    refine ⟨_, rfl, _, rfl, p, r, _, _, rfl, .inr ⟨.inl (.inl hp), .inl (.inl hq), fun D nD => ?_⟩⟩
    refine lc_it (walk_zipT (n := bs.length) (xs := ps.map V.ref) (ys := rs.map V.ref) (by rw [List.length_map, List.length_map]; omega)) (fun i H' => ∃ ts : List Addr, H' D = some (.lst (ts.map V.ref)) ∧ Prs H' ts ((hullB bs cs).take i) ∧ Same H H') ⟨[], upd_same, .nil, same_upd nD⟩ (fun i H' _ ⟨_, _, _, s1⟩ => ⟨.inl (.inl (s1 _ _ hp)), .inl (.inl (s1 _ _ hq))⟩) ?_ ?_
    · rintro i x H1 H2 hi ⟨ts, hD, pt, s1⟩ ⟨T, x1, y1, rfl, nT, rfl, e1, e2⟩
      obtain ⟨a, lo, hi', rfl, e3, h3⟩ := pair_at (pp.same s1) e1
      obtain ⟨b, l, h', rfl, e4, h4⟩ := pair_at (pr.same s1) e2
      have s2 := same_upd (o := .tup [V.ref a, V.ref b]) nT
      refine ⟨T, [.ref a, .ref b], rfl, .inl (.inl upd_same), rfl, _, _, rfl, _, _, rfl, rfl, rfl, ?_⟩
      have h3' := s2 _ _ h3
      have h4' := s2 _ _ h4
      have hD' := s2 _ _ hD
      have pt' := pt.same s2
      have s3 := s1.trans s2
      generalize upd H1 T (.tup [V.ref a, V.ref b]) = G at h3' h4' hD' pt' s3
      refine ⟨_, rfl, _, rfl, a, b, lo, hi', l, h', rfl, h3', h4', fun t G2 s4 ht => ?_⟩
      have tD : t ≠ D := fun e => by
        have z := s4 _ _ hD'
        rw [← e, ht] at z
        cases z
      refine ⟨_, s4 _ _ hD', ?_, ts ++ [t], ?_, ?_, ?_⟩
      · rw [List.length_map, Paired.length pt, List.length_take]
        exact small1000 (by omega)
      · rw [upd_same, List.map_append]
        rfl
      · rw [List.take_add_one, hull_at e3 e4]
        refine .snoc ((pt'.same s4).put (s4 _ _ hD')) ?_
        exact (upd_ne tD).trans ht
      · exact same_put (s3.trans s4) nD
    · rintro H1 ⟨ts, hD, pt, s1⟩
      rw [List.take_of_length_le (by rw [hull_len el]; exact Nat.le_refl _)] at pt
      exact ⟨D, _, rfl, .inl ⟨.inl (.inl hD), fun t nt => q t _ (s1.trans (same_upd nt)) ⟨ts, upd_same, pt.same (same_upd nt)⟩⟩⟩
def shareI (z : (Int × Int) × (Int × Int)) : Bool := decide (max z.1.1 z.2.1 ≤ min z.1.2 z.2.2)
def shareB (bs cs : Bx) : Bool := (bs.zip cs).all shareI
theorem share_meet {bs cs : Bx} (h1 : WfB bs) (h2 : WfB cs) : shareB bs cs = meetB bs cs := by
  unfold shareB meetB
  have e : ∀ z ∈ bs.zip cs, shareI z = !(decide (z.1.2 < z.2.1) || decide (z.2.2 < z.1.1)) := fun z hz => by
    have m := List.of_mem_zip (a := z.1) (b := z.2) hz
    have a := h1 _ m.1
    have b := h2 _ m.2
    unfold shareI
    rw [← Bool.decide_or, ← decide_not]
    exact decide_eq_decide.mpr (by omega)
  rw [Bool.eq_iff_iff, List.all_eq_true, List.all_eq_true]
  exact ⟨fun z x hx => (e x hx) ▸ z x hx, fun z x hx => (e x hx).trans (z x hx)⟩
def spShP : Sp := fun vs H Q _ => ∃ (p r : Addr) (bs cs : Bx), vs = [.ref p, .ref r] ∧ BoxA H p bs ∧ BoxA H r cs ∧ bs.length = cs.length ∧ bs.length ≤ 6 ∧ WfB bs ∧ WfB cs ∧ ∀ H' : Hp, Same H H' → Q (.bl (meetB bs cs)) H'
theorem ok_shp {f : Addr} {fd : FuncData} {k : Nat} (F : FnP K "share_point" "share_point" s_share_point f fd) (C_share_integer : Cal P w K mg base CX0 "share_integer" k ["one", "other"] spShI) (m_zip : mg "zip" = none) (m_all : mg "all" = none) :
    FnOk P w K mg base CX0 (k + 1) f fd ["one", "other"] spShP := by
  obtain ⟨f_share_integer, fd_share_integer, G_share_integer, b_share_integer, m_share_integer, k_share_integer⟩ := C_share_integer
  refine F.ok sc_share_point (fun vs H Q E h => ?_) (fun cdv A outer s H vs Q E hr h => ?_)
  · obtain ⟨p, r, bs, cs, rfl, _⟩ := h
    rfl
  · obtain ⟨p, r, bs, cs, rfl, ⟨ps, hp, pp⟩, ⟨rs, hq, pr⟩, el, l6, w1, w2, q⟩ := h
    refine ⟨_, PSs.nox (pss_one (ps_ret (pe_callB (cr_all rfl) (by rfl) m_all (by decide +kernel) (pa_cons (pe_lc (own := [("first", 2), ("second", 3)]) rfl sc_share_point.nd (RZ.pi_zipA (by rfl) m_zip (pa_cons (pv 0) (pa_cons (pv 1) pa_nil))) (blkOk_by (N := n_share_point) (sc := defScope s_share_point) (by decide +kernel)) (fun _ _ _ _ _ => pg_tupK (n := 2) rfl (pgs_cons (pg_name (i := 2) sc_share_point.nd rfl (.inl rfl) (by first | exact .inl rfl | exact .inr rfl)) (pgs_cons (pg_name (i := 3) sc_share_point.nd rfl (.inl rfl) (by first | exact .inl rfl | exact .inr rfl)) (pgs_nil)))) (fun _ _ _ _ _ => pts_nil) (fun _ _ _ _ _ => (pe_call G_share_integer (hr.mono (by omega)) (by rfl) m_share_integer k_share_integer b_share_integer .nil pass0 (pa_cons (pv 2) (pa_cons (pv 3) pa_nil))))) pa_nil)))), ?_⟩
    have lp : ps.length = bs.length := Paired.length pp
    have lr : rs.length = cs.length := Paired.length pr
    refine ⟨_, rfl, _, rfl, p, r, _, _, rfl, .inr ⟨.inl (.inl hp), .inl (.inl hq), fun D nD => ?_⟩⟩
    refine lc_it (walk_zipT (n := bs.length) (xs := ps.map V.ref) (ys := rs.map V.ref) (by rw [List.length_map, List.length_map]; omega)) (fun i H' => Same H H' ∧ H' D = some (.lst ((((bs.zip cs).map shareI).take i).map V.bl))) ⟨same_upd nD, upd_same⟩ (fun i H' _ ⟨s1, _⟩ => ⟨.inl (.inl (s1 _ _ hp)), .inl (.inl (s1 _ _ hq))⟩) ?_ ?_
    · rintro i x H1 H2 hi ⟨s1, hD⟩ ⟨T, x1, y1, rfl, nT, rfl, e1, e2⟩
      obtain ⟨a, lo, hi', rfl, e3, h3⟩ := pair_at (pp.same s1) e1
      obtain ⟨b, l, h', rfl, e4, h4⟩ := pair_at (pr.same s1) e2
      have s2 := same_upd (o := .tup [V.ref a, V.ref b]) nT
      refine ⟨T, [.ref a, .ref b], rfl, .inl (.inl upd_same), rfl, _, _, rfl, _, _, rfl, rfl, rfl, ?_⟩
      have h3' := s2 _ _ h3
      have h4' := s2 _ _ h4
      have hD' := s2 _ _ hD
      have s3 := s1.trans s2
      generalize upd H1 T (.tup [V.ref a, V.ref b]) = G at h3' h4' hD' s3
      refine ⟨_, rfl, _, rfl, a, b, lo, hi', l, h', rfl, h3', h4', _, hD', ?_, same_put s3 nD, ?_⟩
      · rw [List.length_map, List.length_take, List.length_map, List.length_zip]
        exact small1000 (by omega)
      · rw [upd_same, List.take_add_one, List.getElem?_map, zip_at e3 e4, List.map_append]
        rfl
    · rintro H1 ⟨s1, hD⟩
      rw [List.take_of_length_le (by rw [List.length_map, List.length_zip]; omega)] at hD
      refine ⟨D, _, rfl, .inl (.inl hD), ?_⟩
      have e : ((bs.zip cs).map shareI).all id = meetB bs cs := by
        rw [List.all_map, ← share_meet w1 w2]
        rfl
      rw [e]
      exact q _ s1
end
end K12
set_option Elab.async false
set_option linter.all false
set_option maxRecDepth 100000
set_option maxHeartbeats 2000000
namespace K12
open PySem PySem.Spec PyProof.Rows L2 CM WD LamX
section
variable {P : Program} {w : World} {K : PySem.W.Frag} {mg : Str → Option Value} {base : Heap}
/-! ### the methods -/
def spOwn : Sp := fun vs H Q _ => ∃ (m p : Addr), vs = [.ref m, .ref p] ∧ Q (.ref p) H
theorem ok_own {f : Addr} {fd : FuncData} {k : Nat} (F : FnP K "own" "Boxes.own" s_Boxes_own f fd) : FnOk P w K mg base CX0 (k + 1) f fd ["self", "key"] spOwn := by
  refine F.ok sc_Boxes_own (fun vs H Q E h => ?_) (fun cdv A outer s H vs Q E hr h => ?_)
  · obtain ⟨m, p, rfl, _⟩ := h
    rfl
  · obtain ⟨m, p, rfl, q⟩ := h
    exact ⟨_, PSs.nox (pss_one (ps_ret (pv 1))), _, rfl, q⟩
def spJoin : Sp := fun vs H Q _ => ∃ (m p r : Addr) (bs cs : Bx), vs = [.ref m, .ref p, .ref r] ∧ BoxA H p bs ∧ BoxA H r cs ∧ bs.length = cs.length ∧ bs.length ≤ 6 ∧ ∀ (t : Addr) (H' : Hp), Same H H' → BoxA H' t (hullB bs cs) → Q (.ref t) H'
theorem ok_join {f : Addr} {fd : FuncData} {k : Nat} (F : FnP K "join" "Boxes.join" s_Boxes_join f fd) (C_hull_of_boxes : Cal P w K mg base CX0 "hull_of_boxes" k ["one", "other"] spJoined) : FnOk P w K mg base CX0 (k + 1) f fd ["self", "one", "other"] spJoin := by
  obtain ⟨f_hull_of_boxes, fd_hull_of_boxes, G_hull_of_boxes, b_hull_of_boxes, m_hull_of_boxes, k_hull_of_boxes⟩ := C_hull_of_boxes
  refine F.ok sc_Boxes_join (fun vs H Q E h => ?_) (fun cdv A outer s H vs Q E hr h => ?_)
  · obtain ⟨m, p, r, bs, cs, rfl, _⟩ := h
    rfl
  · obtain ⟨m, p, r, bs, cs, rfl, q⟩ := h
    exact ⟨_, PSs.nox (pss_one (ps_ret (pe_call G_hull_of_boxes (hr.mono (by omega)) (by rfl) m_hull_of_boxes k_hull_of_boxes b_hull_of_boxes .nil pass0 (pa_cons (pv 1) (pa_cons (pv 2) pa_nil))))), _, rfl, _, rfl, p, r, bs, cs, rfl, q⟩
def spCons : Sp := fun vs H Q _ => ∃ (m p r : Addr) (bs cs : Bx), vs = [.ref m, .ref p, .ref r] ∧ BoxA H p bs ∧ BoxA H r cs ∧ bs.length = cs.length ∧ bs.length ≤ 6 ∧ WfB bs ∧ WfB cs ∧ ∀ H' : Hp, Same H H' → Q (.bl (meetB bs cs)) H'
theorem ok_consistent {f : Addr} {fd : FuncData} {k : Nat} (F : FnP K "consistent" "Boxes.consistent" s_Boxes_consistent f fd) (C_share_point : Cal P w K mg base CX0 "share_point" k ["one", "other"] spShP) : FnOk P w K mg base CX0 (k + 1) f fd ["self", "label", "question"] spCons := by
  obtain ⟨f_share_point, fd_share_point, G_share_point, b_share_point, m_share_point, k_share_point⟩ := C_share_point
  refine F.ok sc_Boxes_consistent (fun vs H Q E h => ?_) (fun cdv A outer s H vs Q E hr h => ?_)
  · obtain ⟨m, p, r, bs, cs, rfl, _⟩ := h
    rfl
  · obtain ⟨m, p, r, bs, cs, rfl, q⟩ := h
    exact ⟨_, PSs.nox (pss_one (ps_ret (pe_call G_share_point (hr.mono (by omega)) (by rfl) m_share_point k_share_point b_share_point .nil pass0 (pa_cons (pv 1) (pa_cons (pv 2) pa_nil))))), _, rfl, _, rfl, p, r, bs, cs, rfl, q⟩
theorem ok_matches {f : Addr} {fd : FuncData} {k : Nat} (F : FnP K "matches" "Boxes.matches" s_Boxes_matches f fd) (C_share_point : Cal P w K mg base CX0 "share_point" k ["one", "other"] spShP) : FnOk P w K mg base CX0 (k + 1) f fd ["self", "key", "question"] spCons := by
  obtain ⟨f_share_point, fd_share_point, G_share_point, b_share_point, m_share_point, k_share_point⟩ := C_share_point
  refine F.ok sc_Boxes_matches (fun vs H Q E h => ?_) (fun cdv A outer s H vs Q E hr h => ?_)
  · obtain ⟨m, p, r, bs, cs, rfl, _⟩ := h
    rfl
  · obtain ⟨m, p, r, bs, cs, rfl, q⟩ := h
    exact ⟨_, PSs.nox (pss_one (ps_ret (pe_call G_share_point (hr.mono (by omega)) (by rfl) m_share_point k_share_point b_share_point .nil pass0 (pa_cons (pv 1) (pa_cons (pv 2) pa_nil))))), _, rfl, _, rfl, p, r, bs, cs, rfl, q⟩
def spPen : Sp := fun vs H Q _ => ∃ (m p r : Addr) (bs cs : Bx), vs = [.ref m, .ref p, .ref r] ∧ BoxA H p bs ∧ BoxA H r cs ∧ bs.length = cs.length ∧ bs.length ≤ 6 ∧ ∀ H' : Hp, Same H H' → Q (.int (wideB (hullB bs cs) - wideB bs)) H'
theorem ok_penalty {f : Addr} {fd : FuncData} {k : Nat} (F : FnP K "penalty" "Boxes.penalty" s_Boxes_penalty f fd) (C_hull_of_boxes : Cal P w K mg base CX0 "hull_of_boxes" k ["one", "other"] spJoined) (C_widths_of : Cal P w K mg base CX0 "widths_of" k ["box"] spWidths) :
    FnOk P w K mg base CX0 (k + 1) f fd ["self", "label", "key"] spPen := by
  obtain ⟨f_hull_of_boxes, fd_hull_of_boxes, G_hull_of_boxes, b_hull_of_boxes, m_hull_of_boxes, k_hull_of_boxes⟩ := C_hull_of_boxes
  obtain ⟨f_widths_of, fd_widths_of, G_widths_of, b_widths_of, m_widths_of, k_widths_of⟩ := C_widths_of
  refine F.ok sc_Boxes_penalty (fun vs H Q E h => ?_) (fun cdv A outer s H vs Q E hr h => ?_)
  · obtain ⟨m, p, r, bs, cs, rfl, _⟩ := h
    rfl
  · obtain ⟨m, p, r, bs, cs, rfl, hp, hq, el, l6, q⟩ := h
    refine ⟨_, PSs.nox (pss_one (ps_ret (pe_op op_sub (pe_call G_widths_of (hr.mono (by omega)) (by rfl) m_widths_of k_widths_of b_widths_of .nil pass0 (pa_cons (pe_call G_hull_of_boxes (hr.mono (by omega)) (by rfl) m_hull_of_boxes k_hull_of_boxes b_hull_of_boxes .nil pass0 (pa_cons (pv 1) (pa_cons (pv 2) pa_nil))) pa_nil)) (pe_call G_widths_of (hr.mono (by omega)) (by rfl) m_widths_of k_widths_of b_widths_of .nil pass0 (pa_cons (pv 1) pa_nil))))), ?_⟩
    refine ⟨_, rfl, _, rfl, p, r, bs, cs, rfl, hp, hq, el, l6, fun t H1 s1 ht => ⟨t, _, rfl, ht, by rw [hull_len el]; exact l6, fun H2 s2 => ?_⟩⟩
    exact ⟨_, rfl, p, bs, rfl, (hp.same s1).same s2, l6, fun H3 s3 => ⟨_, _, rfl, rfl, q H3 ((s1.trans s2).trans s3)⟩⟩
def spDist : Sp := fun vs H Q _ => ∃ (m p r : Addr) (bs : Bx) (ns : List Int), vs = [.ref m, .ref p, .ref r] ∧ BoxA H p bs ∧ H r = some (.tup (ns.map V.int)) ∧ bs.length = ns.length ∧ bs.length ≤ 6 ∧ ∀ H' : Hp, Same H H' → Q (.int (farB bs ns)) H'
theorem ok_distance {f : Addr} {fd : FuncData} {k : Nat} (F : FnP K "distance" "Boxes.distance" s_Boxes_distance f fd) (C_gaps : Cal P w K mg base CX0 "gaps" k ["box", "point"] spGaps) : FnOk P w K mg base CX0 (k + 1) f fd ["self", "key", "point"] spDist := by
  obtain ⟨f_gaps, fd_gaps, G_gaps, b_gaps, m_gaps, k_gaps⟩ := C_gaps
  refine F.ok sc_Boxes_distance (fun vs H Q E h => ?_) (fun cdv A outer s H vs Q E hr h => ?_)
  · obtain ⟨m, p, r, bs, ns, rfl, _⟩ := h
    rfl
  · obtain ⟨m, p, r, bs, ns, rfl, q⟩ := h
    exact ⟨_, PSs.nox (pss_one (ps_ret (pe_call G_gaps (hr.mono (by omega)) (by rfl) m_gaps k_gaps b_gaps .nil pass0 (pa_cons (pv 1) (pa_cons (pv 2) pa_nil))))), _, rfl, _, rfl, p, r, bs, ns, rfl, q⟩
theorem ok_bound {f : Addr} {fd : FuncData} {k : Nat} (F : FnP K "bound" "Boxes.bound" s_Boxes_bound f fd) (C_gaps : Cal P w K mg base CX0 "gaps" k ["box", "point"] spGaps) : FnOk P w K mg base CX0 (k + 1) f fd ["self", "label", "point"] spDist := by
  obtain ⟨f_gaps, fd_gaps, G_gaps, b_gaps, m_gaps, k_gaps⟩ := C_gaps
  refine F.ok sc_Boxes_bound (fun vs H Q E h => ?_) (fun cdv A outer s H vs Q E hr h => ?_)
  · obtain ⟨m, p, r, bs, ns, rfl, _⟩ := h
    rfl
  · obtain ⟨m, p, r, bs, ns, rfl, q⟩ := h
    exact ⟨_, PSs.nox (pss_one (ps_ret (pe_call G_gaps (hr.mono (by omega)) (by rfl) m_gaps k_gaps b_gaps .nil pass0 (pa_cons (pv 1) (pa_cons (pv 2) pa_nil))))), _, rfl, _, rfl, p, r, bs, ns, rfl, q⟩
/-! ### an error, a Boxes -/
def spInt (K : PySem.W.Frag) : Sp := fun vs H Q _ => ∃ (v : V) (t : Value) (bi bb : Bool), vs = [v] ∧ TyX K H v t ∧ PySem.W.kitOne K t (.type "int") = some bi ∧ (bi = true → PySem.W.kitOne K t (.type "bool") = some bb) ∧ Q (.bl (bi && !bb)) H
theorem ok_int {f : Addr} {fd : FuncData} {k : Nat} (F : FnP K "is_int" "is_int" s_is_int f fd) (m_isinstance : mg "isinstance" = none) (m_int : mg "int" = none) (m_bool : mg "bool" = none) : FnOk P w K mg base CX0 (k + 1) f fd ["thing"] (spInt K) := by
  refine F.ok sc_is_int (fun vs H Q E h => ?_) (fun cdv A outer s H vs Q E hr h => ?_)
  · obtain ⟨v, t, bi, bb, rfl, _⟩ := h
    rfl
  · obtain ⟨v, t, bi, bb, rfl, ty, ki, kb, q⟩ := h
    refine ⟨_, pss_one (ps_ret (pe_and (pe_callB call_isi (by rfl) m_isinstance (by decide +kernel) (pa_cons (pv 0) (pa_cons (pe_bltn (v := .ty "int") (by rfl) m_int (by decide +kernel) rfl) pa_nil))) (pe_one (pe_not (pe_callB call_isi (by rfl) m_isinstance (by decide +kernel) (pa_cons (pv 0) (pa_cons (pe_bltn (v := .ty "bool") (by rfl) m_bool (by decide +kernel) rfl) pa_nil))))))), ?_⟩
    refine ⟨_, rfl, v, _, t, _, bi, rfl, .ty _, ty, ki, bi, rfl, ite2 (fun e => ?_) (fun e => ?_)⟩
    · subst e
      exact ⟨_, rfl, v, _, t, _, bb, rfl, .ty _, ty, kb rfl, bb, rfl, q⟩
    · have e2 : bi = false := by simpa using e
      subst e2
      exact q
def spErr (CB : Addr) : Sp := fun vs H Q _ => ∃ (e : Addr) (v : V), vs = [.ref e, v] ∧ H e = some (exo e CB none) ∧ ∀ dx, H dx = none → dx ≠ e → Q .non (upd (upd H dx (exd dx [("value", v)])) e (exo e CB (some dx)))
theorem ok_err {CB f : Addr} {fd : FuncData} {k : Nat} (F : FnP K "__init__" "BadValue.__init__" s_BadValue___init f fd) (T : OexC K CB) (nv : PySem.W.findIn K (.ref CB) "value" = some none) : FnOk P w K mg base CX0 (k + 1) f fd ["self", "value"] (spErr CB) := by
  refine F.ok sc_BadValue___init (fun vs H Q E h => ?_) (fun cdv A outer s H vs Q E hr h => ?_)
  · obtain ⟨e, v, rfl, _⟩ := h
    rfl
  · obtain ⟨e, v, rfl, he, q⟩ := h
    refine ⟨_, pss_one (ps_ost (pv 0) (pv 1)), ?_⟩
    exact ⟨_, rfl, _, rfl, e, CB, rfl, T, nv, .inl ⟨he, fun dx n ne => q dx n ne⟩⟩
/-- what is no width, and how it shows -/
def Bad (K : PySem.W.Frag) (H : Hp) (v : V) : Prop := ∃ (t : Value) (bi bb : Bool), TyX K H v t ∧ PySem.W.kitOne K t (.type "int") = some bi ∧ (bi = true → PySem.W.kitOne K t (.type "bool") = some bb) ∧ ((bi && !bb) = true → ∃ i : Int, v = .int i ∧ ¬ (1 ≤ i ∧ i ≤ 6))
def spMakeX (K : PySem.W.Frag) (C CB : Addr) : Sp := fun vs H Q E => ∃ (x dx : Addr) (v : V), vs = [.ref x, v] ∧ H x = some (.ins C dx []) ∧
  ((∃ n : Nat, v = .int (n : Int) ∧ 1 ≤ n ∧ n ≤ 6 ∧ Q .non (upd H x (.ins C dx [("axes", .int (n : Int))]))) ∨ (Bad K H v ∧ ∀ (d : Addr) (H' : Hp), H d = none → Same H H' → H' d = some (.xd [("value", v)]) → E (.ref CB) (some d) H'))
abbrev FunS (K : PySem.W.Frag) (f : Addr) (fd : FuncData) : Prop := FunD K "__init__" "Boxes.__init__" (defArgs s_Boxes___init) (defBody s_Boxes___init) (defScope s_Boxes___init) [V.int 2] [] f fd
theorem ok_make {C CB f f_B : Addr} {fd fd_B : FuncData} {k : Nat} (F : FunS K f fd) (cl : Cls K C) (nb : NoAttr K C "axes") (m_MOST_DIMENSIONS : ∃ t, mg "MOST_DIMENSIONS" = some (.int 6 t)) (m_BadValue : mg "BadValue" = some (.ref CB)) (T_B : OexC K CB)
    (iC_B : PySem.W.findIn K (.ref CB) "__init__" = some (some (.ref f_B))) (tI_B : PySem.W.typeIn K (.ref f_B) = some (.type "function")) (G_B : FnOk P w K mg base CX0 1 f_B fd_B ["self", "value"] (spErr CB)) (b_B : Binds K fd_B ["self", "value"] [])
    (C_is_int : Cal P w K mg base CX0 "is_int" 1 ["thing"] (spInt K)) : FnOk P w K mg base (L2.CX P w) (k + 2 + 1) f fd ["self", "dimensions"] (spMakeX K C CB) := by
  obtain ⟨f_is_int, fd_is_int, G_is_int, b_is_int, m_is_int, k_is_int⟩ := C_is_int
  obtain ⟨tM, m_MOST_DIMENSIONS⟩ := m_MOST_DIMENSIONS
  refine F.ok sc_Boxes___init (fun vs H Q E h => ?_) (fun cdv A outer s H vs Q E hr h => ?_)
  · obtain ⟨x, dx, v, rfl, _⟩ := h
    rfl
  · obtain ⟨x, dx, v, rfl, hx, q⟩ := h
    refine ⟨_, pss_cons (ps_if (PW.pt (pw_or (pt_not (pt_val (pe_call G_is_int (hr.mono (by omega)) (by rfl) m_is_int k_is_int b_is_int .nil pass0 (pa_cons (pv 1) pa_nil)))) (pw_or1 (pt_not (pt_chain op_le op_le pe_int (pv 1) (pe_glob (v := .int 6) (by rfl) m_MOST_DIMENSIONS ⟨_, rfl⟩)))))) (pss_one (ps_raise rfl (takes_of rfl rfl rfl rfl) (pmk_oex T_B iC_B tI_B G_B (hr.mono (by omega)) b_B .nil pass0 (by rfl) m_BadValue (pa_cons (pv 1) pa_nil)))) (pss_nil))
    (pss_one (ps_fld (pv 0) (pv 1) rfl)), ?_⟩
    rcases q with ⟨n, rfl, n1, n2, q⟩ | ⟨⟨t, bi, bb, ty, ki, kb, hbad⟩, q⟩
    · have ti : TyX K H (V.int (n : Int)) (.type "int") := .base (.int _)
      refine ⟨_, rfl, _, _, true, false, rfl, ti, kit_ty (by decide +kernel), fun _ => kit_ty (by decide +kernel), true, rfl, iteF ?_⟩
      refine ⟨_, rfl, 1, (n : Int), rfl, rfl, _, rfl, ite2 (fun _ => ⟨(n : Int), 6, rfl, rfl, _, rfl, ite2 (fun e => ?_) (fun _ => ?_)⟩) (fun e => absurd (decide_eq_true (show (1 : Int) ≤ (n : Int) by omega)) e)⟩
      · rw [decide_eq_true (show (n : Int) ≤ 6 by omega)] at e
        cases e
      · exact ⟨_, rfl, _, rfl, x, C, dx, [], rfl, hx, cl, nb, by decide, q⟩
    · have go : tMkO CB (spErr CB) [] (tCons (tVar 1) tNil) (L2.start n_Boxes___init [V.ref x, v]) H fun cls d H' => E cls d H' := by
        refine ⟨_, rfl, by show 1 ≤ 1000; decide, fun a na => ⟨a, v, rfl, upd_same, fun d nd ne => ?_⟩⟩
        have hd : H d = none := by
          rw [upd_ne ne] at nd
          exact nd
        refine ⟨rfl, d, [("value", v)], upd_same, by rw [upd_ne ne]; exact upd_same, hd, q d _ hd (fun b o e => ?_) upd_same⟩
        have bd : b ≠ d := ne_of_none e hd
        have ba : b ≠ a := ne_of_none e na
        rw [upd_ne bd, del_ne ba, upd_ne ba, upd_ne bd, upd_ne ba]
        exact e
      refine ⟨_, rfl, v, t, bi, bb, rfl, ty, ki, kb, _, rfl, ite2 (fun _ => iteT go) (fun e => ?_)⟩
      have e2 : (bi && !bb) = true := by
        cases h : (bi && !bb) with
        | true => rfl
        | false => exact absurd (by rw [h]; rfl) e
      obtain ⟨i, rfl, hi⟩ := hbad e2
      refine ⟨_, rfl, 1, i, rfl, rfl, _, rfl, ite2 (fun e3 => ⟨i, 6, rfl, rfl, _, rfl, ite2 (fun _ => go) (fun e4 => ?_)⟩) (fun e3 => ⟨_, rfl, iteT go⟩)⟩
      have a1 : (1 : Int) ≤ i := of_decide_eq_true e3
      have a2 : ¬ i ≤ 6 := fun z => hi ⟨a1, z⟩
      rw [decide_eq_false a2] at e4
      exact absurd rfl e4
end
end K12
set_option Elab.async false
set_option linter.all false
set_option maxRecDepth 100000
set_option maxHeartbeats 2000000
namespace K12
open PySem PySem.Spec PyProof.Rows L2 CM WD LamX
section
variable {P : Program} {w : World} {K : PySem.W.Frag} {mg : Str → Option Value} {base : Heap}
/-! ### points -/
/-- the value of a def's i-th statement; a call's first argument -/
def exAt (i : Nat) (st : Stmt) : Expr := match (defBody st)[i]? with
  | some (.Return (some e) _) => e
  | some (.Assign _ e _) => e
  | _ => .Name "" ⟨0, 0, 0, 0⟩
def arg0 : Expr → Expr
  | .Call _ (e :: _) _ _ => e
  | e => e
theorem call_isiX {X : Cx} {K : PySem.W.Frag} (h : X.K = K := by rfl) : CallR X (.builtin "isinstance") (rIsi K) := by
  subst h
  exact call_isi
theorem cr_allX {X : Cx} {K : PySem.W.Frag} (hc : X.calm = true) (h : X.K = K := by rfl) : CallR X (.builtin "all") (rAll K) := by
  subst h
  exact cr_all hc
def rLenX (K : PySem.W.Frag) : List V → Hp → VK → Prop := fun xs H Q => ∃ p ys, xs = [V.ref p] ∧ (SqL K H p ys ∨ SqT K H p ys) ∧ Q (V.int (ys.length : Nat)) H
theorem cr_lenX {X : Cx} {K : PySem.W.Frag} (h : X.K = K := by rfl) : CallR X (.builtin "len") (rLenX K) := by
  subst h
  exact call_len_seq
theorem cr_sumX {X : Cx} {K : PySem.W.Frag} (hc : X.calm = true) (h : X.K = K := by rfl) : CallR X (.builtin "sum") (rSum K) := by
  subst h
  exact cr_sum hc
/-- points of w numbers -/
def Pts (H : Hp) (w : Nat) (ps : List Addr) (nss : List (List Int)) : Prop := Paired (fun p ns => H p = some (.tup (ns.map V.int)) ∧ ns.length = w) ps nss
theorem Pts.same {H H' : Hp} {w : Nat} {ps : List Addr} {nss : List (List Int)} (h : Pts H w ps nss) (s : Same H H') : Pts H' w ps nss := Paired.mapP h fun q n z => ⟨s _ _ z.1, z.2⟩
theorem pts_at {H : Hp} {w : Nat} : ∀ {ps : List Addr} {nss : List (List Int)} {t : Nat} {v : V}, Pts H w ps nss → (ps.map V.ref)[t]? = some v → ∃ (p : Addr) (ns : List Int), v = .ref p ∧ nss[t]? = some ns ∧ H p = some (.tup (ns.map V.int)) ∧ ns.length = w
  | p :: _, n :: _, 0, _, .cons h _, e => ⟨p, n, (Option.some.inj e).symm, rfl, h⟩
  | _ :: _, _ :: _, t + 1, _, .cons _ h, e => pts_at (t := t) h e
  | [], _, _, _, _, e => by cases e
theorem rep_snoc (n : Nat) : (List.replicate n true).map V.bl ++ [V.bl true] = (List.replicate (n + 1) true).map V.bl := by
  rw [List.replicate_succ', List.map_append]
  rfl
theorem rep_all (n : Nat) : (List.replicate n true).all id = true := List.all_eq_true.mpr fun b hb => by rw [List.eq_of_mem_replicate hb]; rfl
def spPts : Sp := fun vs H Q _ => ∃ (l : Addr) (ps : List Addr) (nss : List (List Int)) (w : Nat), vs = [.ref l] ∧ H l = some (.lst (ps.map V.ref)) ∧ Pts H w ps nss ∧ ps.length ≤ 8 ∧ w ≤ 6 ∧ ∀ H', Same H H' → Q (.bl (!ps.isEmpty)) H'
theorem ok_pts {f : Addr} {fd : FuncData} {k : Nat} (F : FnP K "are_points" "are_points" s_are_points f fd) (C_is_int : Cal P w K mg base CX0 "is_int" k ["thing"] (spInt K)) (m_isinstance : mg "isinstance" = none) (m_list : mg "list" = none) (m_tuple : mg "tuple" = none) (m_len : mg "len" = none) (m_all : mg "all" = none) :
    FnOk P w K mg base CX0 (k + 1) f fd ["things"] spPts := by
  obtain ⟨f_is_int, fd_is_int, G_is_int, b_is_int, m_is_int, k_is_int⟩ := C_is_int
  refine F.ok sc_are_points (fun vs H Q E h => ?_) (fun cdv A outer s H vs Q E hr h => ?_)
  · obtain ⟨l, ps, nss, w, rfl, _⟩ := h
    rfl
  · obtain ⟨l, ps, nss, w, rfl, hl, pp, h8, w6, q⟩ := h
    refine ⟨_, PSs.nox (pss_cons (ps_if (PW.pt (pw_or (pt_not (pt_val (pe_callB call_isiT (by rfl) m_isinstance (by decide +kernel) (pa_cons (pv 0) (pa_cons (pe_tup (pa_cons (pe_bltn (v := .ty "list") (by rfl) m_list (by decide +kernel) rfl) (pa_cons (pe_bltn (v := .ty "tuple") (by rfl) m_tuple (by decide +kernel) rfl) pa_nil))) pa_nil))))) (pw_or1 (pt_cmpR op_eq (pe_callB call_len_seq (by rfl) m_len PySem.boot_len (pa_cons (pv 0) pa_nil)) pe_int (nomark _))))) (pss_one (ps_ret pe_bl)) (pss_nil))
    (pss_cons (ps_if (pt_not (pt_val (pe_callB (cr_allX rfl) (by rfl) m_all (by decide +kernel) (pa_cons (pe_lc (own := [("thing", 2)]) rfl sc_are_points.nd (pi_list (pv 0)) (blkOk_by (N := n_are_points) (sc := defScope s_are_points) (by decide +kernel)) (fun _ _ _ _ _ => pg_name (i := 2) sc_are_points.nd rfl (.inl rfl)) (fun _ _ _ _ _ => pts_nil) (fun _ _ _ _ _ => (pe_callB call_isiX (by rfl) m_isinstance (by decide +kernel) (pa_cons (pv 2) (pa_cons (pe_bltn (v := .ty "tuple") (by rfl) m_tuple (by decide +kernel) rfl) pa_nil))))) pa_nil)))) (pss_one (ps_ret pe_bl)) (pss_nil))
    (pss_cons (ps_set (i := 1) sc_are_points.nd rfl (.inr rfl) (pe_callB call_len_seq (by rfl) m_len PySem.boot_len (pa_cons (pe_ix ix_list (pv 0) pe_int (fun _ _ => rfl)) pa_nil)))
    (pss_one (ps_ret (pe_callB (cr_allX rfl) (by rfl) m_all (by decide +kernel) (pa_cons (pe_lc (own := [("thing", 2)]) rfl sc_are_points.nd (pi_list (pv 0)) (blkOk_by (N := n_are_points) (sc := defScope s_are_points) (by decide +kernel)) (fun _ _ _ _ _ => pg_name (i := 2) sc_are_points.nd rfl (.inl rfl)) (fun _ _ _ _ _ => pts_nil) (fun _ _ _ _ _ => (pe_and (pe_cmpR op_eq (pe_callB cr_lenX (by rfl) m_len PySem.boot_len (pa_cons (pv 2) pa_nil)) (pv 1) (nomark _)) (pe_one (pe_callB (cr_allX rfl) (by rfl) m_all (by decide +kernel) (pa_cons (pe_lc (own := [("part", 3)]) rfl sc_are_points.nd (BI.pi_tupK (pv 2)) (blkOk_by (N := n_are_points) (sc := relS (BI.lcSc (arg0 (exAt 3 s_are_points))) (defScope s_are_points)) (by decide +kernel)) (fun _ _ _ _ _ => pg_name (i := 3) sc_are_points.nd rfl (.inl rfl)) (fun _ _ _ _ _ => pts_nil) (fun _ _ _ _ _ => (pe_call G_is_int (hr.mono (by omega)) (by rfl) m_is_int k_is_int b_is_int .nil pass0 (pa_cons (pv 3) pa_nil)))) pa_nil)))))) pa_nil))))))), ?_⟩
    refine ⟨_, rfl, by show 2 ≤ sizeLine; decide, fun tp nt => ?_⟩
    have s1 := same_upd (o := .tup [V.ty "list", V.ty "tuple"]) nt
    have ht : (upd H tp (.tup [V.ty "list", V.ty "tuple"])) tp = some (.tup [V.ty "list", V.ty "tuple"]) := upd_same
    generalize upd H tp (.tup [V.ty "list", V.ty "tuple"]) = G at s1 ht
    refine ⟨.ref l, tp, [V.ty "list", V.ty "tuple"], .type "list", [.type "list", .type "tuple"], true, rfl, ht, .cons (.ty _) (.cons (.ty _) .nil), .base (.lst (s1 _ _ hl)), kitAny_cons (b := true) (r := true) (kit_ty (by decide +kernel)) (fun e => by cases e) (fun _ => rfl), true, rfl, iteF ?_⟩
    refine ⟨_, rfl, l, _, rfl, .inl (.inl (.inl (s1 _ _ hl))), rfl, _, rfl, ite2 (fun e => ?_) (fun e => ?_)⟩
    · have l0 : ps = [] := by
        have e2 : ((ps.map V.ref).length : Int) = 0 := V.int.inj (of_decide_eq_true e)
        rw [List.length_map] at e2
        exact List.eq_nil_of_length_eq_zero (by omega)
      subst l0
      exact q _ s1
    · have l0 : 0 < ps.length := by
        cases ps with
        | nil => exact absurd rfl e
        | cons => exact Nat.succ_pos _
      have hl1 := s1 _ _ hl
      refine ⟨_, rfl, l, rfl, ⟨ps.map V.ref, .inl (.inl hl1)⟩, fun D nD => ?_⟩
      refine lc_list (xs := ps.map V.ref) (fun t H' => Same G H' ∧ H' D = some (.lst ((List.replicate t true).map V.bl))) ⟨same_upd nD, upd_same⟩ (fun t H' _ z => .inl (.inl (z.1 _ _ hl1))) ?_ ?_
      · rintro t v H4 hv ⟨s4, hD4⟩
        have ht8 : t < 8 := by
          have z := (List.getElem?_eq_some_iff.mp hv).1
          rw [List.length_map] at z
          omega
        obtain ⟨p, ns, rfl, e1, e2, _⟩ := pts_at ((pp.same s1).same s4) hv
        refine ⟨rfl, _, rfl, .ref p, _, .type "tuple", _, true, rfl, .ty _, .base (.tup e2), kit_ty (by decide +kernel), _, hD4, ?_, same_put s4 nD, ?_⟩
        · rw [List.length_map, List.length_replicate]
          exact small1000 (by omega)
        · rw [upd_same, rep_snoc]
      · rintro H4 ⟨s4, hD4⟩
        refine ⟨D, _, rfl, .inl (.inl hD4), ?_⟩
        rw [rep_all]
        refine ⟨true, rfl, iteF ?_⟩
        have hl4 := s4 _ _ hl1
        have pp4 := (pp.same s1).same s4
        obtain ⟨p0, hp0⟩ : ∃ p0, (ps.map V.ref)[0]? = some (.ref p0) := by
          cases ps with
          | nil => exact absurd l0 (Nat.lt_irrefl 0)
          | cons p _ => exact ⟨p, rfl⟩
        obtain ⟨_, ns0, e0, _, h0, w0⟩ := pts_at pp4 hp0
        cases e0
        refine ⟨_, rfl, l, _, 0, _, rfl, rfl, .inl (.inl hl4), atI_nat hp0, p0, _, rfl, .inr (.inl (.inl h0)), ?_⟩
        refine ⟨_, rfl, l, rfl, ⟨ps.map V.ref, .inl (.inl hl4)⟩, fun D2 nD2 => ?_⟩
        refine lc_list (xs := ps.map V.ref) (fun t H' => Same H4 H' ∧ H' D2 = some (.lst ((List.replicate t true).map V.bl))) ⟨same_upd nD2, upd_same⟩ (fun t H' _ z => .inl (.inl (z.1 _ _ hl4))) ?_ ?_
        · rintro t v H5 hv ⟨s5, hD5⟩
          have ht8 : t < 8 := by
            have z := (List.getElem?_eq_some_iff.mp hv).1
            rw [List.length_map] at z
            omega
          obtain ⟨p, ns, rfl, e1, e2, ew⟩ := pts_at (pp4.same s5) hv
          refine ⟨rfl, ?_⟩
          refine ⟨_, rfl, p, ns.map V.int, rfl, .inr (.inl (.inl e2)), _, rfl, rfl, _, rfl, ite2 (fun _ => ?_) (fun e9 => ?_)⟩
          · refine ⟨_, rfl, p, rfl, ⟨ns.map V.int, .inl (.inl e2)⟩, fun D3 nD3 => ?_⟩
            refine lc_tup (xs := ns.map V.int) (fun t H' => Same H5 H' ∧ H' D3 = some (.lst ((List.replicate t true).map V.bl))) ⟨same_upd nD3, upd_same⟩ (fun t H' _ z => .inl (.inl (z.1 _ _ e2))) ?_ ?_
            · rintro t3 v3 H6 hv3 ⟨s6, hD6⟩
              have ht3 : t3 < 6 := by
                have z := (List.getElem?_eq_some_iff.mp hv3).1
                rw [List.length_map] at z
                omega
              obtain ⟨n, rfl, _⟩ := int_at hv3
              refine ⟨rfl, _, rfl, .int n, .type "int", true, false, rfl, .base (.int n), kit_ty (by decide +kernel), fun _ => kit_ty (by decide +kernel), _, hD6, ?_, same_put s6 nD3, ?_⟩
              · rw [List.length_map, List.length_replicate]
                exact small1000 (by omega)
              · rw [upd_same]
                exact congrArg (fun z => some (HO.lst z)) (rep_snoc t3)
            · rintro H6 ⟨s6, hD6⟩
              refine ⟨D3, _, rfl, .inl (.inl hD6), ?_⟩
              rw [rep_all]
              refine ⟨_, s6 _ _ hD5, ?_, same_put (s5.trans s6) nD2, ?_⟩
              · rw [List.length_map, List.length_replicate]
                exact small1000 (by omega)
              · rw [upd_same, rep_snoc]
          · refine absurd ?_ e9
            refine decide_eq_true ?_
            rw [List.length_map, List.length_map, ew, w0]
        · rintro H5 ⟨s5, hD5⟩
          refine ⟨D2, _, rfl, .inl (.inl hD5), ?_⟩
          rw [rep_all]
          have z := q H5 (((s1.trans s4)).trans s5)
          rw [show (!ps.isEmpty) = true by cases ps with
            | nil => exact absurd l0 (Nat.lt_irrefl 0)
            | cons => rfl] at z
          exact z
end
end K12
set_option Elab.async false
set_option linter.all false
set_option maxRecDepth 100000
set_option maxHeartbeats 2000000
namespace K12
open PySem PySem.Spec PyProof.Rows L2 CM WD LamX
section
variable {P : Program} {w : World} {K : PySem.W.Frag} {mg : Str → Option Value} {base : Heap}
/-! ### the least box around points -/
def IsMin (m : Int) (ns : List Int) : Prop := m ∈ ns ∧ ∀ y, y ∈ ns → m ≤ y
def IsMax (m : Int) (ns : List Int) : Prop := m ∈ ns ∧ ∀ y, y ∈ ns → y ≤ m
theorem IsMin.eq {m n : Int} {ns : List Int} (a : IsMin m ns) (b : IsMin n ns) : m = n := Int.le_antisymm (a.2 _ b.1) (b.2 _ a.1)
theorem IsMax.eq {m n : Int} {ns : List Int} (a : IsMax m ns) (b : IsMax n ns) : m = n := Int.le_antisymm (b.2 _ a.1) (a.2 _ b.1)
def col (nss : List (List Int)) (k : Nat) : List Int := nss.map fun ns => ns.getD k 0
def AroundB (nss : List (List Int)) (n : Nat) (bs : Bx) : Prop := bs.length = n ∧ ∀ k b, bs[k]? = some b → IsMin b.1 (col nss k) ∧ IsMax b.2 (col nss k)
theorem AroundB.eq {nss : List (List Int)} {n : Nat} {bs cs : Bx} (a : AroundB nss n bs) (b : AroundB nss n cs) : bs = cs := by
  refine List.ext_getElem? fun k => ?_
  by_cases h : k < n
  · obtain ⟨x, hx⟩ : ∃ x, bs[k]? = some x := ⟨_, List.getElem?_eq_getElem (by rw [a.1]; exact h)⟩
    obtain ⟨y, hy⟩ : ∃ y, cs[k]? = some y := ⟨_, List.getElem?_eq_getElem (by rw [b.1]; exact h)⟩
    have h1 := a.2 k x hx
    have h2 := b.2 k y hy
    rw [hx, hy]
    exact congrArg some (Prod.ext (h1.1.eq h2.1) (h1.2.eq h2.2))
  · rw [List.getElem?_eq_none (by rw [a.1]; omega), List.getElem?_eq_none (by rw [b.1]; omega)]
theorem AroundB.snoc {nss : List (List Int)} {n : Nat} {bs : Bx} {lo hi : Int} (a : AroundB nss n bs) (h1 : IsMin lo (col nss n)) (h2 : IsMax hi (col nss n)) : AroundB nss (n + 1) (bs ++ [(lo, hi)]) := by
  refine ⟨by rw [List.length_append, a.1]; rfl, fun k b hb => ?_⟩
  by_cases h : k < n
  · rw [List.getElem?_append_left (by rw [a.1]; exact h)] at hb
    exact a.2 k b hb
  · have e : k = n := by
      have z := (List.getElem?_eq_some_iff.mp hb).1
      rw [List.length_append, a.1, List.length_singleton] at z
      omega
    subst e
    rw [List.getElem?_append_right (by rw [a.1]; exact Nat.le_refl _), a.1, Nat.sub_self] at hb
    cases hb
    exact ⟨h1, h2⟩
theorem col_row {K : PySem.W.Frag} {H : Hp} {w i : Nat} (hi : i < w) : ∀ {ps : List Addr} {nss : List (List Int)} {row : List V}, Pts H w ps nss → Paired (fun p v => ∀ xs, SqT K H p xs → xs[i]? = some v) ps row → row = (col nss i).map V.int
  | _, _, _, .nil, .nil => rfl
  | p :: ps, ns :: nss, v :: row, .cons a t, .cons b u => by
    have hv := b _ (.inl (.inl a.1))
    rw [List.getElem?_map] at hv
    have e : ns[i]? = some (ns.getD i 0) := by
      rw [List.getD_eq_getElem?_getD, List.getElem?_eq_getElem (by rw [a.2]; exact hi)]
      rfl
    rw [e] at hv
    rw [← Option.some.inj hv, col_row hi t u]
    rfl
def spAround (CB : Addr) : Sp := fun vs H Q E => ∃ (l : Addr) (ps : List Addr) (nss : List (List Int)) (w : Nat), vs = [.ref l] ∧ H l = some (.lst (ps.map V.ref)) ∧ Pts H w ps nss ∧ ps.length ≤ 8 ∧ w ≤ 6 ∧
  (ps = [] → ∀ (d : Addr) (H' : Hp), H d = none → Same H H' → H' d = some (.xd [("value", .ref l)]) → E (.ref CB) (some d) H') ∧ (ps ≠ [] → ∀ (t : Addr) (H' : Hp) (bs : Bx), Same H H' → BoxA H' t bs → AroundB nss w bs → Q (.ref t) H')
theorem ok_around {CB f f_B : Addr} {fd fd_B : FuncData} {k : Nat} (F : FnP K "around" "Boxes.around" s_Boxes_around f fd) (m_BadValue : mg "BadValue" = some (.ref CB)) (T_B : OexC K CB)
    (iC_B : PySem.W.findIn K (.ref CB) "__init__" = some (some (.ref f_B))) (tI_B : PySem.W.typeIn K (.ref f_B) = some (.type "function")) (G_B : FnOk P w K mg base CX0 (k + 1) f_B fd_B ["self", "value"] (spErr CB)) (b_B : Binds K fd_B ["self", "value"] [])
    (C_are_points : Cal P w K mg base CX0 "are_points" (k + 2) ["things"] spPts) (m_tuple : mg "tuple" = none) (m_min : mg "min" = none) (m_max : mg "max" = none) (m_zip : mg "zip" = none) : FnOk P w K mg base (L2.CX P w) (k + 2 + 1) f fd ["points"] (spAround CB) := by
  obtain ⟨f_are_points, fd_are_points, G_are_points, b_are_points, m_are_points, k_are_points⟩ := C_are_points
  refine F.ok sc_Boxes_around (fun vs H Q E h => ?_) (fun cdv A outer s H vs Q E hr h => ?_)
  · obtain ⟨l, ps, nss, w, rfl, _⟩ := h
    rfl
  · obtain ⟨l, ps, nss, w, rfl, hl, pp, h8, w6, qe, qq⟩ := h
    refine ⟨_, pss_cons (ps_if (pt_not (pt_val (pe_call G_are_points (hr.mono (by omega)) (by rfl) m_are_points k_are_points b_are_points .nil pass0 (pa_cons (pv 0) pa_nil)))) (pss_one (ps_raise rfl (takes_of rfl rfl rfl rfl) (pmk_oex T_B iC_B tI_B G_B (hr.mono (by omega)) b_B .nil pass0 (by rfl) m_BadValue (pa_cons (pv 0) pa_nil)))) (pss_nil))
    (pss_one (ps_ret (pe_callTy call_tuple_of (by rfl) m_tuple (by decide +kernel) (pa_cons (pe_lc (own := [("numbers", 1)]) rfl sc_Boxes_around.nd (ZN.pi_zipS (by rfl) m_zip (pv 0)) (blkOk_by (N := n_Boxes_around) (sc := defScope s_Boxes_around) (by decide +kernel)) (fun _ _ _ _ _ => pg_name (i := 1) sc_Boxes_around.nd rfl (.inl rfl)) (fun _ _ _ _ _ => pts_nil) (fun _ _ _ _ _ => (pe_tup (pa_cons (pe_callB (TU.cr_minT rfl) (by rfl) m_min (by decide +kernel) (pa_cons (pv 1) pa_nil)) (pa_cons (pe_callB (TU.cr_maxT rfl) (by rfl) m_max (by decide +kernel) (pa_cons (pv 1) pa_nil)) pa_nil))))) pa_nil)))), ?_⟩
    have go : ps = [] → ∀ G : Hp, Same H G → tMkO CB (spErr CB) [] (tCons (tVar 0) tNil) (L2.start n_Boxes_around [V.ref l]) G fun cls d H' => E cls d H' := fun e G sG => by
      refine ⟨_, rfl, by show 1 ≤ 1000; decide, fun a na => ⟨a, .ref l, rfl, upd_same, fun d nd ne => ?_⟩⟩
      have hd : G d = none := by
        rw [upd_ne ne] at nd
        exact nd
      have hdH : H d = none := by
        cases z : H d with
        | none => rfl
        | some o =>
          rw [sG _ _ z] at hd
          cases hd
      refine ⟨rfl, d, [("value", .ref l)], upd_same, by rw [upd_ne ne]; exact upd_same, hd, qe e d _ hdH (sG.trans fun b o e => ?_) upd_same⟩
      have bd : b ≠ d := ne_of_none e hd
      have ba : b ≠ a := ne_of_none e na
      rw [upd_ne bd, del_ne ba, upd_ne ba, upd_ne bd, upd_ne ba]
      exact e
    refine ⟨_, rfl, l, ps, nss, w, rfl, hl, pp, h8, w6, fun H1 s1 => ⟨_, rfl, ite2 (fun e => go ?_ H1 s1) (fun e => ?_)⟩⟩
    · cases ps with
      | nil => rfl
      | cons => exact absurd e (by simp)
    · have hne : ps ≠ [] := fun z => by
        rw [z] at e
        exact e rfl
      have pp1 := pp.same s1
      have hl1 := s1 _ _ hl
      have rows : Paired (fun p xs => SqT K H1 p xs ∧ xs.length = w) ps (nss.map fun ns => ns.map V.int) := by
        have z : ∀ {ps : List Addr} {nss : List (List Int)}, Pts H1 w ps nss → Paired (fun p xs => SqT K H1 p xs ∧ xs.length = w) ps (nss.map fun ns => ns.map V.int) := by
          intro ps nss g
          unfold Pts at g
          induction g with
          | nil => exact .nil
          | cons a t ih => exact .cons ⟨.inl (.inl a.1), by rw [List.length_map]; exact a.2⟩ ih
        exact z pp1
      refine ⟨_, rfl, l, ps, rfl, .inr (.inl (.inl hl1)), hne, h8, fun p hp => ?_, fun D nD => ?_⟩
      · have z : ∀ {ps : List Addr} {rs : List (List V)}, Paired (fun p xs => SqT K H1 p xs ∧ xs.length = w) ps rs → ∀ p ∈ ps, ∃ xs, SqT K H1 p xs := by
          intro ps rs g
          induction g with
          | nil => exact fun p hp => by cases hp
          | cons a t ih =>
            intro p hp
            rcases List.mem_cons.mp hp with rfl | hp
            · exact ⟨_, a.1⟩
            · exact ih p hp
        exact z rows p hp
      · refine lc_it (ZN.walk_zipN (n := w) (rows := nss.map fun ns => ns.map V.int) hne) (fun i H' => ∃ (ts : List Addr) (bs : Bx), H' D = some (.lst (ts.map V.ref)) ∧ Prs H' ts bs ∧ AroundB nss i bs ∧ Same H1 H') ⟨[], [], upd_same, .nil, ⟨rfl, fun k b e => by cases e⟩, same_upd nD⟩ (fun i H' _ ⟨_, _, _, _, _, s2⟩ => Paired.mapP rows fun p xs z => ⟨BI.seqT s2 z.1, z.2⟩) ?_ ?_
        · rintro i x H2 H3 hi ⟨ts, bs, hD, pb, ab, s2⟩ ⟨T, row, rfl, nT, rfl, hr⟩
          have er : row = (col nss i).map V.int := col_row hi (pp1.same s2) hr
          subst er
          have s3 := same_upd (o := .tup ((col nss i).map V.int)) nT
          have hT : (upd H2 T (.tup ((col nss i).map V.int))) T = some (.tup ((col nss i).map V.int)) := upd_same
          have hD' := s3 _ _ hD
          have pb' := pb.same s3
          have sG := s2.trans s3
          generalize upd H2 T (.tup ((col nss i).map V.int)) = G at hT hD' pb' sG
          have lc : 0 < (col nss i).length := by
            unfold col
            rw [List.length_map, ← Paired.length pp1]
            cases ps with
            | nil => exact absurd rfl hne
            | cons => exact Nat.succ_pos _
          refine ⟨rfl, _, rfl, T, col nss i, rfl, .inl (.inl hT), lc, fun lo l1 l2 => ⟨_, rfl, T, col nss i, rfl, .inl (.inl hT), lc, fun hi' g1 g2 => ⟨by show 2 ≤ sizeLine; decide, fun t nt => ?_⟩⟩⟩
          have s4 := same_upd (o := .tup [V.int lo, V.int hi']) nt
          have tD : t ≠ D := (ne_of_none hD' nt).symm
          refine ⟨_, s4 _ _ hD', ?_, ts ++ [t], bs ++ [(lo, hi')], ?_, ?_, ab.snoc ⟨l1, l2⟩ ⟨g1, g2⟩, ?_⟩
          · rw [List.length_map, Paired.length pb, ab.1]
            exact small1000 (by omega)
          · rw [upd_same, List.map_append]
            rfl
          · refine .snoc ((pb'.same s4).put (s4 _ _ hD')) ?_
            exact (upd_ne tD).trans upd_same
          · exact same_put (sG.trans s4) nD
        · rintro H2 ⟨ts, bs, hD, pb, ab, s2⟩
          exact ⟨D, _, rfl, .inl ⟨.inl (.inl hD), fun t nt => qq hne t _ bs ((s1.trans s2).trans (same_upd nt)) ⟨ts, upd_same, pb.same (same_upd nt)⟩ ab⟩⟩
end
end K12
set_option Elab.async false
set_option linter.all false
set_option maxRecDepth 100000
set_option maxHeartbeats 2000000
namespace K12
open PySem PySem.Spec PyProof.Rows L2 CM WD LamX
section
variable {P : Program} {w : World} {K : PySem.W.Frag} {mg : Str → Option Value} {base : Heap}
/-! ### halves -/
def less (ns : List Int) (x : Int) (i k : Nat) : Bool := HT.lexLt [ns.getD k 0, 0 + (k : Int)] [x, (i : Int)]
def ahead (ns : List Int) (x : Int) (i j : Nat) : List Int := ((List.range j).filter fun (k : Nat) => less ns x i k).map fun (k : Nat) => 0 + ((k : Nat) : Int)
theorem ahead_succ (ns : List Int) (x : Int) (i j : Nat) : ahead ns x i (j + 1) = if less ns x i j = true then ahead ns x i j ++ [0 + (j : Int)] else ahead ns x i j := by
  unfold ahead
  rw [List.range_succ, List.filter_append, List.map_append]
  by_cases h : less ns x i j = true
  · rw [if_pos h, List.filter_cons_of_pos h]
    rfl
  · rw [if_neg h, List.filter_cons_of_neg h]
    simp
theorem ahead_len (ns : List Int) (x : Int) (i j : Nat) : (ahead ns x i j).length ≤ j := by
  unfold ahead
  rw [List.length_map]
  have z := List.length_filter_le (fun (k : Nat) => less ns x i k) (List.range j)
  rw [List.length_range] at z
  exact z
def half (ns : List Int) (x : Int) (i : Nat) : Int := if decide ((ns.length : Int) / 2 ≤ ((ahead ns x i ns.length).length : Int)) = true then 1 else 0
/-- the sides that halves by these numbers tell -/
def halvesOf (ns : List Int) : List Int := (List.range ns.length).map fun i => half ns (ns.getD i 0) i
theorem halves_len (ns : List Int) : (halvesOf ns).length = ns.length := by
  unfold halvesOf
  rw [List.length_map, List.length_range]
theorem halves_at {ns : List Int} {i : Nat} {x : Int} (h : ns[i]? = some x) : (halvesOf ns)[i]? = some (half ns x i) := by
  have hi := (List.getElem?_eq_some_iff.mp h).1
  unfold halvesOf
  rw [List.getElem?_map, List.getElem?_range hi, Option.map_some, List.getD_eq_getElem?_getD, h]
  rfl
/-! ### halves_by, marks that are ints -/
abbrev TT (K : PySem.W.Frag) : List (Addr × Str) := [((He.cT K ("halves_by", none)).2, ("halves_by" ++ ".<locals>.") ++ "<lambda>")]
def spHB (K : PySem.W.Frag) : Sp := fun vs H Q _ => ∃ (l : Addr) (ns : List Int), vs = [.ref l] ∧ SqL K H l (ns.map V.int) ∧ ns.length ≤ 900 ∧ Tabs (TT K) H ∧
  ∀ (D : Addr) (H' : Hp), ExtN H H' → Tabs (TT K) H' → H' D = some (.lst (SL.halvesL (SL.ltI ns) ns.length)) → Q (.ref D) H'
theorem ok_halvesby {fd : FuncData} {k : Nat} (F : FnP K "halves_by" "halves_by" s_halves_by (He.fAd K ("halves_by", none)) fd) (TB : TabB base mg (He.cT K ("halves_by", none)).1 (He.cT K ("halves_by", none)).2)
    (m_sorted : mg "sorted" = none) (m_list : mg "list" = none) (m_range : mg "range" = none) (m_len : mg "len" = none) : FnOk P w K mg base CX0 (k + 1) (He.fAd K ("halves_by", none)) fd ["marks"] (spHB K) := by
  refine SL.okC F sc_halves_by (fun vs H Q E h => ?_) (fun A outer s H vs Q E hr h => ?_)
  · obtain ⟨l, ns, rfl, _⟩ := h
    rfl
  · obtain ⟨l, ns, rfl, hl, hn, hT, q⟩ := h
    refine ⟨_, PSs.nox (pss_cons (ps_set (i := 1) sc_halves_by.nd rfl (.inl rfl) (SL.pe_sortL (β := Nat) hr TB rfl (List.mem_singleton.mpr rfl) (SL.one_tab rfl) (SL.lam1_by (sc := defScope s_halves_by) (by decide +kernel)) rfl (fun _ _ _ _ _ _ => rfl) (by rfl) m_sorted (pe_listRg rfl (by rfl) m_list (prg_1 (by rfl) m_range (pe_callB call_len_seq (by rfl) m_len PySem.boot_len (pa_cons (pv 0) pa_nil))))))
    (pss_cons (ps_set (i := 2) sc_halves_by.nd rfl (.inr rfl) (pe_dc (own := [("at", 3)]) rfl sc_halves_by.nd (pi_list (pe_slice sl_list (pv 1) po_none (po_some (pe_op op_fdiv (pe_callB call_len_seq (by rfl) m_len PySem.boot_len (pa_cons (pv 0) pa_nil)) pe_int)))) (blkOk_by (N := n_halves_by) (sc := defScope s_halves_by) (by decide +kernel)) (fun _ _ _ _ _ => pg_name (i := 3) sc_halves_by.nd rfl (.inl rfl)) (fun _ _ _ _ _ => pts_nil) (fun _ _ _ _ _ => (pv 3)) (fun _ _ _ _ _ => pe_bl)))
    (pss_one (ps_ret (pe_lc (own := [("at", 3)]) rfl sc_halves_by.nd (pi_range1 (by rfl) m_range (pa_cons (pe_callB call_len_seq (by rfl) m_len PySem.boot_len (pa_cons (pv 0) pa_nil)) pa_nil)) (blkOk_by (N := n_halves_by) (sc := defScope s_halves_by) (by decide +kernel)) (fun _ _ _ _ _ => pg_name (i := 3) sc_halves_by.nd rfl (.inl rfl)) (fun _ _ _ _ _ => pts_nil) (fun _ _ _ _ _ => (pe_ifExp (pt_cmp (pc_din (hu_of hr) (pv 3) (pv 2))) pe_int pe_int))))))), ?_⟩
    have lm : (ns.map V.int).length = ns.length := List.length_map ..
    refine ⟨_, rfl, l, ns.map V.int, rfl, .inl hl, _, rfl, RgOk.of_le (by omega) (by omega) (by omega) (by omega), fun q0 n0 => ?_⟩
    have eR : rgV 0 ((ns.map V.int).length : Int) = (List.range ns.length).map fun b : Nat => V.int (b : Int) := by
      unfold rgV
      rw [lm]
      refine List.map_congr_left fun b _ => ?_
      simp
    rw [eR]
    refine ⟨SL.Tabs.same hT (same_upd n0), q0, List.range ns.length, fun b : Nat => V.int (b : Int), SL.keyI ns, rfl, .inl (.inl upd_same), fun _ _ _ _ => rfl, PySem.W.Sortable.tuples fun _ => ⟨_, _, rfl⟩, fun _ _ => by show 1 ≤ 60; decide, ?_, ?_⟩
    · intro pins s2 H2 b v I2 eN hb rv
      have hb := List.mem_range.mp hb
      have hb1 : ns[b]? = some (ns.getD b 0) := by
        rw [List.getD_eq_getElem?_getD, List.getElem?_eq_getElem hb]
        rfl
      have hb2 : (ns.map V.int)[b]? = some (V.int (ns.getD b 0)) := by rw [List.getElem?_map, hb1]; rfl
      exact SL.kr_pair (i := 0) I2 rfl rfl rfl rfl rfl (SL.ExtN.seqL eN ((same_upd n0).seq hl)) hb2 (.int _) rv
    · intro O H1 e1 nO t1 hO
      have hl1 := SL.ExtN.seqL e1 ((same_upd (o := .lst ((List.range ns.length).map fun b : Nat => V.int (b : Int))) n0).seq hl)
      have e0 : ExtN H H1 := (SL.ExtN.of_same (same_upd n0)).trans e1
      generalize hord : (List.range ns.length).mergeSort (PySem.W.dataLe false (SL.keyI ns)) = ord at hO
      have lo : ord.length = ns.length := by rw [← hord, List.length_mergeSort, List.length_range]
      -- the first half, a dict
      refine ⟨_, rfl, _, rfl, l, _, rfl, .inl hl1, _, 2, rfl, rfl, ⟨by decide, by decide⟩, _, rfl, O, _, rfl, .inl (.inl hO), fun P0 nP => ⟨P0, rfl, ⟨_, .inl (.inl upd_same)⟩, fun D nD => ?_⟩⟩
      have ec : cutV (ord.map fun b : Nat => V.int (b : Int)) none (some (((ns.map V.int).length : Int) / 2)) = (ord.take (ns.length / 2)).map fun b : Nat => V.int (b : Int) := SL.cut_half lo lm
      rw [ec] at nD ⊢
      generalize hhs : ord.take (ns.length / 2) = hs at nD ⊢
      have lhs : hs.length ≤ 900 := by
        rw [← hhs, List.length_take]
        omega
      have s2 : Same H1 (upd H1 P0 (.lst (hs.map fun b : Nat => V.int (b : Int)))) := same_upd nP
      have hP : (upd H1 P0 (.lst (hs.map fun b : Nat => V.int (b : Int)))) P0 = some (.lst (hs.map fun b : Nat => V.int (b : Int))) := upd_same
      have t2 := SL.Tabs.same t1 s2
      have hl2 := s2.seq hl1
      have e2 := e0.trans (SL.ExtN.of_same s2)
      generalize upd H1 P0 (.lst (hs.map fun b : Nat => V.int (b : Int))) = H2 at nD hP t2 hl2 e2
      refine SL.dc_list (K := K) (a := P0) (xs := hs.map fun b : Nat => V.int (b : Int)) (fun i H' => Same H2 H' ∧ ∃ kvs : List (L2.Key × V), H' D = some (.dK kvs) ∧ kvs.length ≤ i ∧ ∀ b : Nat, (valV kvs (Sum.inl (b : Int))).isSome = decide (b ∈ hs.take i))
        ⟨same_upd nD, [], upd_same, Nat.le_refl _, fun b => by simp [valV]⟩ (fun i H' _ ⟨z, _⟩ => .inl (.inl (z _ _ hP))) ?_ ?_
      · rintro i x H3 hi ⟨s3, kvs, hD, lk, hk⟩
        obtain ⟨b, hb, rfl⟩ : ∃ b, hs[i]? = some b ∧ V.int (b : Int) = x := by
          rw [List.getElem?_map] at hi
          cases e : hs[i]? with
          | none => rw [e] at hi; cases hi
          | some b => rw [e] at hi; exact ⟨b, rfl, Option.some.inj hi⟩
        have li := (List.getElem?_eq_some_iff.mp hb).1
        refine ⟨rfl, _, rfl, kvs, Sum.inl (b : Int), rfl, hD, small1000 (by omega), ?_, _, upd_same, ?_, fun j => ?_⟩
        · exact same_put s3 nD
        · exact Nat.le_trans (length_putK ..) (by omega)
        · rw [valV_put, List.take_add_one, hb]
          by_cases e : j = b
          · subst e
            simp
          · rw [if_neg (fun z => e (by have z := Sum.inl.inj z; omega)), hk j]
            simp [e]
      · rintro H3 ⟨s3, kvs, hD, lk, hk⟩
        rw [List.length_map, List.take_length] at hk
        refine ⟨_, rfl, l, _, rfl, .inl (s3.seq hl2), _, rfl, by omega, by omega, fun R nR => ?_⟩
        rw [lm, Int.toNat_natCast]
        have t3 := SL.Tabs.same t2 s3
        have e3 := e2.trans (SL.ExtN.of_same s3)
        refine lc_range (lo := 0) (n := ns.length) (fun j H' => Same H3 H' ∧ H' R = some (.lst ((SL.halvesL (SL.ltI ns) ns.length).take j))) ⟨same_upd nR, upd_same⟩ ?_ ?_
        · rintro j H4 hj ⟨s4, hR⟩
          have hin : decide (j ∈ hs) = decide (SL.aheadN (SL.ltI ns) ns.length j < ns.length / 2) := by
            rw [← hhs, ← hord]
            have z := SL.in_half (h := ns.length / 2) (SL.ltI_irr ns) (SL.ltI_tr ns) (SL.ltI_tot ns) (fun a b => congrFun (congrFun (SL.leI ns) a) b) hj
            exact decide_eq_decide.mpr z
          refine ⟨rfl, _, rfl, _, rfl, D, valV kvs (Sum.inl (0 + (j : Int))), rfl, DGet.k (k := Sum.inl (0 + (j : Int))) (s4 _ _ hD), _, rfl, ?_⟩
          rw [Int.zero_add, hk j, hin]
          have lr : ((SL.halvesL (SL.ltI ns) ns.length).take j).length < sizeLine := small1000 (by rw [List.length_take]; omega)
          have et : ∀ v : Int, v = (if SL.aheadN (SL.ltI ns) ns.length j < ns.length / 2 then 0 else 1) → (SL.halvesL (SL.ltI ns) ns.length).take j ++ [V.int v] = (SL.halvesL (SL.ltI ns) ns.length).take (j + 1) := fun v ev => by
            rw [ev, List.take_add_one, SL.halvesL_at hj]
            rfl
          refine ite2 (fun e => ?_) (fun e => ?_)
          · refine ⟨_, hR, lr, same_put s4 nR, ?_⟩
            rw [upd_same, et 0 (by rw [if_pos (of_decide_eq_true e)])]
          · refine ⟨_, hR, lr, same_put s4 nR, ?_⟩
            rw [upd_same, et 1 (by rw [if_neg (fun z => e (decide_eq_true z))])]
        · rintro H4 ⟨s4, hR⟩
          refine q R H4 (e3.trans (SL.ExtN.of_same s4)) (SL.Tabs.same t3 s4) ?_
          rw [hR, List.take_of_length_le (by unfold SL.halvesL; rw [List.length_map, List.length_range]; exact Nat.le_refl _)]
theorem halvesL_eq (ns : List Int) : SL.halvesL (SL.ltI ns) ns.length = (halvesOf ns).map V.int := by
  unfold SL.halvesL halvesOf
  rw [List.map_map]
  refine List.map_congr_left fun i hi => congrArg V.int ?_
  have e : ((ahead ns (ns.getD i 0) i ns.length).length : Int) = (SL.aheadN (SL.ltI ns) ns.length i : Int) := by
    unfold ahead SL.aheadN
    rw [List.length_map]
    refine congrArg (fun l : List Nat => (l.length : Int)) (List.filter_congr fun k hk => ?_)
    unfold less SL.ltI
    generalize ns.getD k 0 = a
    generalize ns.getD i 0 = b
    rw [HT.lexLt_cons, HT.lexLt_cons, HT.lexLt_nil_nil]
    by_cases e1 : a = b
    · rw [if_pos e1]
      by_cases e2 : 0 + (k : Int) = (i : Int)
      · rw [if_pos e2, decide_eq_false (by omega)]
      · rw [if_neg e2]
        exact decide_eq_decide.mpr (by omega)
    · rw [if_neg e1]
      exact decide_eq_decide.mpr (by omega)
  show _ = (if decide ((ns.length : Int) / 2 ≤ ((ahead ns (ns.getD i 0) i ns.length).length : Int)) = true then (1 : Int) else 0)
  rw [e]
  by_cases h : SL.aheadN (SL.ltI ns) ns.length i < ns.length / 2
  · rw [if_pos h, if_neg (fun z => by have z := of_decide_eq_true z; omega)]
  · rw [if_neg h, if_pos (decide_eq_true (by omega))]
/-! ### in which dimension -/
def mid (b : Int × Int) : Int := b.1 + b.2
def mids (bss : List Bx) (k : Nat) : List Int := bss.map fun bs => mid (bs.getD k (0, 0))
def mx : List Int → Int
  | [] => 0
  | [a] => a
  | a :: b :: l => max a (mx (b :: l))
def mn : List Int → Int
  | [] => 0
  | [a] => a
  | a :: b :: l => min a (mn (b :: l))
theorem mx_is : ∀ {ns : List Int}, 0 < ns.length → IsMax (mx ns) ns
  | [a], _ => ⟨List.mem_cons_self .., fun y hy => by rw [List.mem_singleton.mp hy]; exact Int.le_refl _⟩
  | a :: b :: l, _ => by
    have ih := mx_is (ns := b :: l) (Nat.succ_pos _)
    refine ⟨?_, fun y hy => ?_⟩
    · show max a (mx (b :: l)) ∈ a :: b :: l
      rw [Int.max_def]
      split
      · exact List.mem_cons_of_mem _ ih.1
      · exact List.mem_cons_self ..
    · show y ≤ max a (mx (b :: l))
      rcases List.mem_cons.mp hy with rfl | hy
      · exact Int.le_max_left ..
      · exact Int.le_trans (ih.2 y hy) (Int.le_max_right ..)
theorem mn_is : ∀ {ns : List Int}, 0 < ns.length → IsMin (mn ns) ns
  | [a], _ => ⟨List.mem_cons_self .., fun y hy => by rw [List.mem_singleton.mp hy]; exact Int.le_refl _⟩
  | a :: b :: l, _ => by
    have ih := mn_is (ns := b :: l) (Nat.succ_pos _)
    refine ⟨?_, fun y hy => ?_⟩
    · show min a (mn (b :: l)) ∈ a :: b :: l
      rw [Int.min_def]
      split
      · exact List.mem_cons_self ..
      · exact List.mem_cons_of_mem _ ih.1
    · show min a (mn (b :: l)) ≤ y
      rcases List.mem_cons.mp hy with rfl | hy
      · exact Int.min_le_left ..
      · exact Int.le_trans (Int.min_le_right ..) (ih.2 y hy)
def spr (bss : List Bx) (k : Nat) : Int := mx (mids bss k) - mn (mids bss k)
theorem spr_pos {bss : List Bx} (h : 0 < bss.length) (k : Nat) : 0 ≤ spr bss k := by
  have l : 0 < (mids bss k).length := by
    unfold mids
    rw [List.length_map]
    exact h
  have a := (mn_is l).2 _ (mx_is l).1
  unfold spr
  omega
/-- the first dimension of the greatest spread -/
def First (S : Nat → Int) (n k : Nat) : Prop := k < n ∧ (∀ j, j < n → S j ≤ S k) ∧ ∀ j, j < k → S j < S k
theorem First.eq {S : Nat → Int} {n j k : Nat} (a : First S n j) (b : First S n k) : j = k := by
  rcases Nat.lt_trichotomy j k with h | h | h
  · have := b.2.2 j h
    have := a.2.1 k b.1
    omega
  · exact h
  · have := a.2.2 k h
    have := b.2.1 j a.1
    omega
theorem least {p : Nat → Prop} [DecidablePred p] : ∀ n, p n → ∃ k, k ≤ n ∧ p k ∧ ∀ j, j < k → ¬ p j := by
  intro n
  induction n using Nat.strongRecOn with
  | _ n ih =>
    intro h
    by_cases e : ∃ m, m < n ∧ p m
    · obtain ⟨m, hm, pm⟩ := e
      obtain ⟨k, hk, pk, nk⟩ := ih m hm pm
      exact ⟨k, by omega, pk, nk⟩
    · exact ⟨n, Nat.le_refl _, h, fun j hj pj => e ⟨j, hj, pj⟩⟩
/-- boxes of n ranges -/
def Rows (H : Hp) (n : Nat) (ps : List Addr) (bss : List Bx) : Prop := Paired (fun p bs => BoxA H p bs ∧ bs.length = n) ps bss
theorem Rows.same {H H' : Hp} {n : Nat} {ps : List Addr} {bss : List Bx} (h : Rows H n ps bss) (s : Same H H') : Rows H' n ps bss := Paired.mapP h fun q b z => ⟨z.1.same s, z.2⟩
theorem rows_at {H : Hp} {n : Nat} : ∀ {ps : List Addr} {bss : List Bx} {t : Nat} {v : V}, Rows H n ps bss → (ps.map V.ref)[t]? = some v → ∃ (p : Addr) (bs : Bx), v = .ref p ∧ bss[t]? = some bs ∧ BoxA H p bs ∧ bs.length = n
  | p :: _, b :: _, 0, _, .cons h _, e => ⟨p, b, (Option.some.inj e).symm, rfl, h⟩
  | _ :: _, _ :: _, t + 1, _, .cons _ h, e => rows_at (t := t) h e
  | [], _, _, _, _, e => by cases e
theorem box_at {H : Hp} {p : Addr} {bs : Bx} {k : Nat} (h : BoxA H p bs) (hk : k < bs.length) : ∃ (qs : List Addr) (q : Addr), H p = some (.tup (qs.map V.ref)) ∧ (qs.map V.ref)[k]? = some (.ref q) ∧ Tup2 H q (bs.getD k (0, 0)).1 (bs.getD k (0, 0)).2 := by
  obtain ⟨qs, hp, pr⟩ := h
  have lq : qs.length = bs.length := Paired.length pr
  have e : (qs.map V.ref)[k]? = some (.ref (qs[k]'(by omega))) := by
    rw [List.getElem?_map, List.getElem?_eq_getElem (by omega)]
    rfl
  obtain ⟨q, lo, hi, eq, e2, h2⟩ := pair_at pr e
  rw [List.getD_eq_getElem?_getD, e2]
  refine ⟨qs, q, hp, by rw [e, eq], h2⟩
theorem mids_at {bss : List Bx} {t k : Nat} {bs : Bx} (h : bss[t]? = some bs) : (mids bss k)[t]? = some (mid (bs.getD k (0, 0))) := by
  unfold mids
  rw [List.getElem?_map, h]
  rfl
theorem mids_len (bss : List Bx) (k : Nat) : (mids bss k).length = bss.length := by
  unfold mids
  rw [List.length_map]
end
end K12
set_option Elab.async false
set_option linter.all false
set_option maxRecDepth 100000
set_option maxHeartbeats 2000000
namespace K12
open PySem PySem.Spec PyProof.Rows L2 CM WD LamX
section
variable {P : Program} {w : World} {K : PySem.W.Frag} {mg : Str → Option Value} {base : Heap}
/-! ### the sides that the law tells -/
def spLS : Sp := fun vs H Q _ => ∃ (l : Addr) (ps : List Addr) (bss : List Bx) (n : Nat), vs = [.ref l, .int (n : Int)] ∧ H l = some (.lst (ps.map V.ref)) ∧ Rows H n ps bss ∧ 0 < ps.length ∧ ps.length ≤ 30 ∧ 1 ≤ n ∧ n ≤ 6 ∧
  ∀ (k : Nat) (R : Addr) (H' : Hp), First (spr bss) n k → Same H H' → H' R = some (.lst ((halvesOf (mids bss k)).map V.int)) → Q (.ref R) H'
theorem ok_lsides {f : Addr} {fd : FuncData} {k : Nat} (F : FnP K "_law_sides" "_law_sides" s_law_sides f fd) (m_range : mg "range" = none) (m_max : mg "max" = none) (m_min : mg "min" = none) (m_enumerate : mg "enumerate" = none) (m_len : mg "len" = none) (m_int : mg "int" = none) :
    FnOk P w K mg base CX0 (k + 1) f fd ["_law_tags", "_law_count"] spLS := by
  refine F.ok sc_law_sides (fun vs H Q E h => ?_) (fun cdv A outer s H vs Q E hr h => ?_)
  · obtain ⟨l, ps, bss, n, rfl, _⟩ := h
    rfl
  · obtain ⟨l, ps, bss, n, rfl, hl, pp, p0, p30, n1, n6, q⟩ := h
    refine ⟨_, PSs.nox (pss_cons (ps_asg (pe_tup (pa_cons (pe_lst (pa_nil)) (pa_cons (pe_un un_neg pe_int) pa_nil))) (pg_tup rfl (pgs_cons (pg_name (i := 2) sc_law_sides.nd rfl (.inr rfl)) (pgs_cons (pg_name (i := 3) sc_law_sides.nd rfl (.inl rfl)) (pgs_nil)))))
    (pss_cons (ps_for PassesOwn.never rfl (pi_range1 (by rfl) m_range (pa_cons (pv 1) pa_nil)) (pg_name (i := 4) sc_law_sides.nd rfl (.inr rfl))
      (pss_cons (ps_setLc (i := 5) (own := [("_law_tag", 10)]) rfl sc_law_sides.nd rfl rfl (sw_true rfl rfl rfl (by decide +kernel)) (pi_list (pv 0)) (blkOk_by (N := n_law_sides) (sc := defScope s_law_sides) (by decide +kernel)) (fun _ _ _ _ _ => pg_name (i := 10) sc_law_sides.nd rfl (.inl rfl)) (fun _ _ _ _ _ => pts_nil) (fun _ _ _ _ _ => (pe_op op_add (pe_ix ix_tupK (pe_ix ix_tupK (pv 10) (pv 4) (fun _ _ => rfl)) pe_int (fun _ _ => rfl)) (pe_ix ix_tupK (pe_ix ix_tupK (pv 10) (pv 4) (fun _ _ => rfl)) pe_int (fun _ _ => rfl)))))
      (pss_one (ps_if (pt_cmpR op_gt (pe_op op_sub (pe_callB (cr_max rfl) (by rfl) m_max (by decide +kernel) (pa_cons (pv 5) pa_nil)) (pe_callB (cr_min rfl) (by rfl) m_min (by decide +kernel) (pa_cons (pv 5) pa_nil))) (pv 3) (nomark _)) (pss_one (ps_asg (pe_tup (pa_cons (pv 5) (pa_cons (pe_op op_sub (pe_callB (cr_max rfl) (by rfl) m_max (by decide +kernel) (pa_cons (pv 5) pa_nil)) (pe_callB (cr_min rfl) (by rfl) m_min (by decide +kernel) (pa_cons (pv 5) pa_nil))) pa_nil))) (pg_tup rfl (pgs_cons (pg_name (i := 2) sc_law_sides.nd rfl (.inr rfl)) (pgs_cons (pg_name (i := 3) sc_law_sides.nd rfl (.inl rfl)) (pgs_nil)))))) (pss_nil)))))
    (pss_cons (ps_set (i := 6) sc_law_sides.nd rfl (.inl rfl) (pe_lst (pa_nil)))
    (pss_cons (ps_for PassesOwn.never rfl (pi_enum (by rfl) m_enumerate (pa_cons (pv 2) pa_nil)) (pg_tup rfl (pgs_cons (pg_name (i := 7) sc_law_sides.nd rfl (.inr rfl)) (pgs_cons (pg_name (i := 8) sc_law_sides.nd rfl (.inr rfl)) (pgs_nil))))
      (pss_cons (ps_setLc (i := 9) (own := [("_law_k", 4)]) rfl sc_law_sides.nd rfl rfl (sw_true rfl rfl rfl (by decide +kernel)) (pi_range1 (by rfl) m_range (pa_cons (pe_callB call_len_seq (by rfl) m_len PySem.boot_len (pa_cons (pv 2) pa_nil)) pa_nil)) (blkOk_by (N := n_law_sides) (sc := defScope s_law_sides) (by decide +kernel)) (fun _ _ _ _ _ => pg_name (i := 4) sc_law_sides.nd rfl (.inl rfl)) (fun _ _ _ _ _ => pts_one (pt_cmpR (op_ltTK hr.units0) (pe_tup (pa_cons (pe_ix ix_listK (pv 2) (pv 4) (fun _ _ => rfl)) (pa_cons (pv 4) pa_nil))) (pe_tup (pa_cons (pv 8) (pa_cons (pv 7) pa_nil))) (nomark _))) (fun _ _ _ _ _ => (pv 4)))
      (pss_one (ps_expr (pe_bm PySem.F.plainAttrs_list PySem.F.slot_list_append PySem.F.type_list_append mt_append (pv 6) (pa_cons (pe_callTy call_int1 (by rfl) m_int boot_int (pa_cons (pe_cmpR op_ge (pe_callB call_len_seq (by rfl) m_len PySem.boot_len (pa_cons (pv 9) pa_nil)) (pe_op op_fdiv (pe_callB call_len_seq (by rfl) m_len PySem.boot_len (pa_cons (pv 2) pa_nil)) pe_int) (nomark _)) pa_nil)) pa_nil))))))
    (pss_one (ps_ret (pv 6))))))), ?_⟩
    have lp : ps.length = bss.length := Paired.length pp
    refine ⟨by show 0 ≤ sizeLine; decide, fun B nB => ⟨1, rfl, by show 2 ≤ sizeLine; decide, fun T nT => ?_⟩⟩
    have sB := same_upd (o := .lst []) nB
    have sT := same_upd (o := .tup [V.ref B, V.int (-1)]) nT
    refine ⟨T, [.ref B, .int (-1)], rfl, .inl (.inl upd_same), rfl, _, _, rfl, _, _, rfl, rfl, ?_⟩
    have s0 := sB.trans sT
    have hB := sT _ _ (upd_same (H := H) (a := B) (o := .lst []))
    generalize upd (upd H B (.lst [])) T (.tup [V.ref B, V.int (-1)]) = G0 at s0 hB
    refine ⟨_, rfl, _, rfl, by omega, by omega, for_range (n := n) (fun i σ H' => ∃ (B : Addr) (sp : Int) (ns : List Int) (v4 v5 v6 v7 v8 v9 v10 : Option V), σ = [some (.ref l), some (.int (n : Int)), some (.ref B), some (.int sp), v4, v5, v6, v7, v8, v9, v10] ∧ Same H H' ∧ H' B = some (.lst (ns.map V.int)) ∧
      ((i = 0 ∧ ns = [] ∧ sp = -1) ∨ ∃ k, First (spr bss) i k ∧ ns = mids bss k ∧ sp = spr bss k)) ⟨B, -1, [], _, _, _, _, _, _, _, rfl, s0, hB, .inl ⟨rfl, rfl, rfl⟩⟩ ?_ ?_⟩
    · rintro i σ H1 hi ⟨B, sp, ns, v4, v5, v6, v7, v8, v9, v10, rfl, s1, hB, alt⟩
      have hl1 := s1 _ _ hl
      refine ⟨_, rfl, l, rfl, ⟨ps.map V.ref, .inl (.inl hl1)⟩, fun D nD => ?_⟩
      refine lc_list (xs := ps.map V.ref) (fun t H' => Same H1 H' ∧ H' D = some (.lst (((mids bss i).take t).map V.int))) ⟨same_upd nD, upd_same⟩ (fun t H' _ z => .inl (.inl (z.1 _ _ hl1))) ?_ ?_
      · rintro t v H2 hv ⟨s2, hD⟩
        obtain ⟨p, bs, rfl, e1, hp, eb⟩ := rows_at ((pp.same s1).same s2) hv
        obtain ⟨qs, q', hp', eq', hq'⟩ := box_at (k := i) hp (by omega)
        refine ⟨rfl, _, rfl, _, rfl, p, qs.map V.ref, 0 + (i : Int), .ref q', rfl, rfl, .inl (.inl hp'), by rw [Int.zero_add]; exact atI_nat eq', q', _, 0, _, rfl, rfl, .inl (.inl hq'), rfl, ?_⟩
        refine ⟨_, rfl, _, rfl, p, qs.map V.ref, 0 + (i : Int), .ref q', rfl, rfl, .inl (.inl hp'), by rw [Int.zero_add]; exact atI_nat eq', q', _, 1, _, rfl, rfl, .inl (.inl hq'), rfl, _, _, rfl, rfl, _, hD, ?_, same_put s2 nD, ?_⟩
        · have z := (List.getElem?_eq_some_iff.mp hv).1
          rw [List.length_map] at z
          rw [List.length_map, List.length_take]
          exact small1000 (by omega)
        · rw [upd_same, List.take_add_one, mids_at e1, List.map_append]
          rfl
      · rintro H2 ⟨s2, hD⟩
        rw [List.length_map, List.take_of_length_le (by rw [mids_len, lp]; exact Nat.le_refl _)] at hD
        have pos : 0 < (mids bss i).length := by rw [mids_len]; omega
        have s12 := s1.trans s2
        have hB2 := s2 _ _ hB
        refine ⟨_, rfl, D, _, rfl, .inl (.inl hD), pos, fun M a1 a2 => ⟨_, rfl, D, _, rfl, .inl (.inl hD), pos, fun m b1 b2 => ?_⟩⟩
        obtain rfl : M = mx (mids bss i) := IsMax.eq ⟨a1, a2⟩ (mx_is pos)
        obtain rfl : m = mn (mids bss i) := IsMin.eq ⟨b1, b2⟩ (mn_is pos)
        refine ⟨_, _, rfl, rfl, _, rfl, _, _, rfl, rfl, _, rfl, ite2 (fun e => ?_) (fun e => ?_)⟩
        · have e1 : spr bss i > sp := of_decide_eq_true e
          refine ⟨_, rfl, _, rfl, D, _, rfl, .inl (.inl hD), pos, fun M a1 a2 => ⟨_, rfl, D, _, rfl, .inl (.inl hD), pos, fun m b1 b2 => ?_⟩⟩
          obtain rfl : M = mx (mids bss i) := IsMax.eq ⟨a1, a2⟩ (mx_is pos)
          obtain rfl : m = mn (mids bss i) := IsMin.eq ⟨b1, b2⟩ (mn_is pos)
          refine ⟨_, _, rfl, rfl, by show 2 ≤ sizeLine; decide, fun T2 nT2 => ⟨T2, _, rfl, .inl (.inl upd_same), rfl, _, _, rfl, _, _, rfl, rfl, ?_⟩⟩
          refine ⟨D, spr bss i, mids bss i, _, _, _, _, _, _, _, rfl, s12.trans (same_upd nT2), same_upd nT2 _ _ hD, .inr ⟨i, ⟨Nat.lt_succ_self i, fun j hj => ?_, fun j hj => ?_⟩, rfl, rfl⟩⟩
          · rcases alt with ⟨rfl, _, _⟩ | ⟨k, fk, _, rfl⟩
            · obtain rfl : j = 0 := by omega
              exact Int.le_refl _
            · rcases Nat.lt_or_ge j i with h | h
              · have := fk.2.1 j h
                omega
              · obtain rfl : j = i := by omega
                exact Int.le_refl _
          · rcases alt with ⟨rfl, _, _⟩ | ⟨k, fk, _, rfl⟩
            · exact absurd hj (Nat.not_lt_zero _)
            · have := fk.2.1 j hj
              omega
        · have e1 : ¬ spr bss i > sp := fun z => e (decide_eq_true z)
          refine ⟨B, sp, ns, _, _, _, _, _, _, _, rfl, s12, hB2, ?_⟩
          rcases alt with ⟨rfl, _, rfl⟩ | ⟨k, fk, h1, rfl⟩
          · exact absurd (Int.lt_of_lt_of_le (by decide) (spr_pos (by omega) 0)) e1
          · refine .inr ⟨k, ⟨Nat.lt_succ_of_lt fk.1, fun j hj => ?_, fk.2.2⟩, h1, rfl⟩
            rcases Nat.lt_or_ge j i with h | h
            · exact fk.2.1 j h
            · obtain rfl : j = i := by omega
              omega
    · rintro σ H1 ⟨B, sp, ns, v4, v5, v6, v7, v8, v9, v10, rfl, s1, hB, alt⟩
      obtain ⟨kk, fk, rfl, rfl⟩ : ∃ k, First (spr bss) n k ∧ ns = mids bss k ∧ sp = spr bss k := by
        rcases alt with ⟨z, _, _⟩ | z
        · omega
        · exact z
      have hn : (mids bss kk).length ≤ 30 := by rw [mids_len]; omega
      have q := fun R H' => q kk R H' fk
      generalize mids bss kk = ns at hB hn q
      generalize spr bss kk = sp
      refine ⟨by show 0 ≤ sizeLine; decide, fun F0 nF => ?_⟩
      have lm : (ns.map V.int).length = ns.length := List.length_map ..
      refine ⟨_, rfl, B, ns.map V.int, rfl, (same_upd nF).seq (.inl (.inl hB)), for_it (walk_enum (K := K) (a := B) (xs := ns.map V.int)) (fun i σ H' => ∃ v4 v5 v7 v8 v9 v10 : Option V, σ = [some (.ref l), some (.int (n : Int)), some (.ref B), some (.int sp), v4, v5, some (.ref F0), v7, v8, v9, v10] ∧ Same H1 H' ∧ H' F0 = some (.lst (((halvesOf ns).take i).map V.int)))
        ⟨_, _, _, _, _, _, rfl, same_upd nF, upd_same⟩ (fun i σ H' _ ⟨_, _, _, _, _, _, _, s1, _⟩ => .inl (.inl (s1 _ _ hB))) ?_ ?_⟩
      · rintro i x σ H2 H3 hi ⟨v4, v5, v7, v8, v9, v10, rfl, s2, hF⟩ ⟨T0, x0, y0, rfl, nT, rfl, hx0, hy0⟩
        have hx1 : V.int (i : Int) = x0 := Option.some.inj hx0
        subst hx1
        rw [lm] at hi
        have hy1 : V.int ns[i] = y0 := by
          have hy2 : (ns.map V.int)[i]? = some y0 := hy0
          rw [List.getElem?_map, List.getElem?_eq_getElem hi] at hy2
          exact Option.some.inj hy2
        subst hy1
        have hxi : ns[i]? = some ns[i] := List.getElem?_eq_getElem hi
        generalize ns[i] = x at hxi hy0
        have s3 : Same H1 (upd H2 T0 (.tup [.int (i : Int), .int x])) := s2.trans (same_upd nT)
        refine ⟨T0, [.int (i : Int), .int x], rfl, .inl (.inl upd_same), rfl, _, _, rfl, _, _, rfl, rfl, ?_⟩
        have hF2 := same_upd (o := .tup [V.int (i : Int), V.int x]) nT _ _ hF
        generalize upd H2 T0 (.tup [.int (i : Int), .int x]) = G at s3 hF2
        have hBG := s3 _ _ hB
        refine ⟨_, rfl, B, ns.map V.int, rfl, .inl (.inl (.inl hBG)), _, rfl, by rw [lm]; omega, by rw [lm]; omega, fun D nD => ?_⟩
        rw [lm, Int.toNat_natCast]
        refine lc_range (lo := 0) (n := ns.length) (fun j H' => Same G H' ∧ H' D = some (.lst ((ahead ns x i j).map V.int))) ⟨same_upd nD, upd_same⟩ ?_ ?_
        · rintro j H4 hj ⟨s4, hD⟩
          have hj1 : (ns.map V.int)[j]? = some (.int (ns.getD j 0)) := by
            rw [List.getElem?_map, List.getElem?_eq_getElem hj, List.getD_eq_getElem?_getD, List.getElem?_eq_getElem hj]
            rfl
          refine ⟨rfl, _, rfl, _, rfl, B, ns.map V.int, 0 + (j : Int), _, rfl, rfl, .inl (.inl (s4 _ _ hBG)), by rw [Int.zero_add]; exact atI_nat hj1, _, rfl, by show 2 ≤ sizeLine; decide, fun T1 n1 => ?_⟩
          refine ⟨_, rfl, _, rfl, by show 2 ≤ sizeLine; decide, fun T2 n2 => ⟨T1, T2, [ns.getD j 0, 0 + (j : Int)], [x, (i : Int)], rfl, rfl, .inl (.inl (same_upd n2 _ _ upd_same)), .inl (.inl upd_same), less ns x i j, rfl, ?_⟩⟩
          have s5 : Same G _ := s4.trans ((same_upd (o := .tup [V.int (ns.getD j 0), V.int (0 + (j : Int))]) n1).trans (same_upd (o := .tup [V.int x, V.int (i : Int)]) n2))
          have hD5 := ((same_upd (o := .tup [V.int (ns.getD j 0), V.int (0 + (j : Int))]) n1).trans (same_upd (o := .tup [V.int x, V.int (i : Int)]) n2)) _ _ hD
          refine ite2 (fun e => ?_) (fun e => ?_)
          · refine ⟨_, rfl, _, hD5, ?_, ?_, ?_⟩
            · rw [List.length_map]
              exact small1000 (Nat.le_trans (ahead_len ..) (by omega))
            · exact same_put s5 nD
            · rw [upd_same, ahead_succ, if_pos e, List.map_append]
              rfl
          · refine ⟨s5, ?_⟩
            rw [ahead_succ, if_neg e]
            exact hD5
        · rintro H4 ⟨s4, hD⟩
          have hF4 := s4 _ _ hF2
          have s34 := s3.trans s4
          have la : ((ahead ns x i ns.length).map V.int).length = (ahead ns x i ns.length).length := List.length_map ..
          refine ⟨_, rfl, .inl ⟨rfl, _, .inl (.inl hF4)⟩, _, rfl, D, _, rfl, .inl (.inl (.inl hD)), _, rfl, B, _, rfl, .inl (.inl (.inl (s34 _ _ hB))), _, 2, rfl, rfl, ⟨by decide, by decide⟩, _, _, rfl, rfl, .inr ⟨_, rfl, F0, _, _, rfl, rfl, hF4, small1000 ?_, ?_⟩⟩
          · rw [List.length_map, List.length_take, halves_len]
            omega
          · refine ⟨_, _, _, _, _, _, rfl, fun b o e => ?_, ?_⟩
            · have hb : b ≠ F0 := ne_of_none e nF
              rw [upd_ne hb]
              exact s34 _ _ e
            · rw [upd_same, List.take_add_one, halves_at hxi, List.map_append, la, lm]
              rfl
      · rintro σ H2 ⟨v4, v5, v7, v8, v9, v10, rfl, s2, hF⟩
        rw [lm, List.take_of_length_le (by rw [halves_len]; exact Nat.le_refl _)] at hF
        exact ⟨_, rfl, q _ _ (s1.trans s2) hF⟩
end
end K12
set_option Elab.async false
set_option linter.all false
set_option maxRecDepth 100000
set_option maxHeartbeats 2000000
namespace K12
open PySem PySem.Spec PyProof.Rows L2 CM WD LamX
section
variable {P : Program} {w : World} {K : PySem.W.Frag} {mg : Str → Option Value} {base : Heap}
/-! ### the sides that Boxes tells -/
def Bxs (C : Addr) (n : Nat) (H : Hp) (m : Addr) : Prop := ∃ dx, H m = some (.ins C dx [("axes", .int (n : Int))])
theorem Bxs.same {C m : Addr} {n : Nat} {H H' : Hp} (h : Bxs C n H m) (s : Same H H') : Bxs C n H' m := let ⟨dx, e⟩ := h; ⟨dx, s _ _ e⟩
def Mids (D : Addr) (H : Hp) (ds : List Addr) (nss : List (List Int)) : Prop := Paired (fun d ns => d ≠ D ∧ H d = some (.lst (ns.map V.int))) ds nss
theorem Mids.same {D : Addr} {H H' : Hp} {ds : List Addr} {nss : List (List Int)} (h : Mids D H ds nss) (s : Same H H') : Mids D H' ds nss := Paired.mapP h fun d ns z => ⟨z.1, s _ _ z.2⟩
theorem Mids.put {D : Addr} {H : Hp} {o : HO} {ds : List Addr} {nss : List (List Int)} (h : Mids D H ds nss) : Mids D (upd H D o) ds nss := Paired.mapP h fun d ns z => ⟨z.1, (upd_ne z.1).trans z.2⟩
theorem mid_at {D : Addr} {H : Hp} : ∀ {ds : List Addr} {nss : List (List Int)} {t : Nat} {v : V}, Mids D H ds nss → (ds.map V.ref)[t]? = some v → ∃ (d : Addr) (ns : List Int), v = .ref d ∧ nss[t]? = some ns ∧ H d = some (.lst (ns.map V.int))
  | d :: _, n :: _, 0, _, .cons h _, e => ⟨d, n, (Option.some.inj e).symm, rfl, h.2⟩
  | _ :: _, _ :: _, t + 1, _, .cons _ h, e => mid_at (t := t) h e
  | [], _, _, _, _, e => by cases e
def sprs (bss : List Bx) (n : Nat) : List Int := (List.range n).map (spr bss)
theorem sprs_at {bss : List Bx} {n k : Nat} (h : k < n) : (sprs bss n)[k]? = some (spr bss k) := by
  unfold sprs
  rw [List.getElem?_map, List.getElem?_range h]
  rfl
theorem eqV_int (a b : Int) : eqV (.int a) (.int b) = decide (a = b) := by
  first
  | rfl
  | (simp [eqV])
def spSides (K : PySem.W.Frag) (C : Addr) : Sp := fun vs H Q _ => ∃ (m l : Addr) (ps : List Addr) (bss : List Bx) (n : Nat), vs = [.ref m, .ref l] ∧ Bxs C n H m ∧ H l = some (.lst (ps.map V.ref)) ∧ Rows H n ps bss ∧ 0 < ps.length ∧ ps.length ≤ 30 ∧ 1 ≤ n ∧ n ≤ 6 ∧ Tabs (TT K) H ∧
  ∀ (k : Nat) (R : Addr) (H' : Hp), First (spr bss) n k → ExtN H H' → Tabs (TT K) H' → H' R = some (.lst ((halvesOf (mids bss k)).map V.int)) → Q (.ref R) H'
theorem ok_sides {C f : Addr} {fd : FuncData} {k : Nat} (F : FnP K "sides" "Boxes.sides" s_Boxes_sides f fd) (cl : Cls K C) (nb : NoAttr K C "axes") (C_halves_by : Cal P w K mg base CX0 "halves_by" k ["marks"] (spHB K)) (m_range : mg "range" = none) (m_len : mg "len" = none) (m_max : mg "max" = none) (m_min : mg "min" = none) (m_sum : mg "sum" = none) :
    FnOk P w K mg base CX0 (k + 1) f fd ["self", "labels"] (spSides K C) := by
  obtain ⟨f_halves_by, fd_halves_by, G_halves_by, b_halves_by, m_halves_by, k_halves_by⟩ := C_halves_by
  refine F.ok sc_Boxes_sides (fun vs H Q E h => ?_) (fun cdv A outer s H vs Q E hr h => ?_)
  · obtain ⟨m, l, ps, bss, n, rfl, _⟩ := h
    rfl
  · obtain ⟨m, l, ps, bss, n, rfl, ⟨dx, hm⟩, hl, pp, p0, p30, n1, n6, hT, q⟩ := h
    refine ⟨_, PSs.nox (pss_cons (ps_if (pt_cmpR op_eq (pe_callB call_len_seq (by rfl) m_len PySem.boot_len (pa_cons (pv 1) pa_nil)) pe_int (nomark _)) (pss_one (ps_ret (pe_lst (pa_nil)))) (pss_nil))
    (pss_cons (ps_setLc (i := 2) (own := [("axis", 4)]) rfl sc_Boxes_sides.nd rfl rfl (sw_true rfl rfl rfl (by decide +kernel)) (pi_range1 (by rfl) m_range (pa_cons (pe_fld (pv 0) rfl) pa_nil)) (blkOk_by (N := n_Boxes_sides) (sc := defScope s_Boxes_sides) (by decide +kernel)) (fun _ _ _ _ _ => pg_name (i := 4) sc_Boxes_sides.nd rfl (.inr rfl)) (fun _ _ _ _ _ => pts_nil) (fun _ _ _ _ _ => (pe_lc (own := [("label", 6)]) rfl sc_Boxes_sides.nd (BI.pi_listK (pv 1)) (blkOk_by (N := n_Boxes_sides) (sc := relS (BI.lcSc (exAt 1 s_Boxes_sides)) (defScope s_Boxes_sides)) (by decide +kernel)) (fun _ _ _ _ _ => pg_name (i := 6) sc_Boxes_sides.nd rfl (.inl rfl)) (fun _ _ _ _ _ => pts_nil) (fun _ _ _ _ _ => (pe_callB (TU.cr_sumT rfl) (by rfl) m_sum (by decide +kernel) (pa_cons (pe_ix ix_tupK (pv 6) (pv 4) (fun _ _ => rfl)) pa_nil))))))
    (pss_cons (ps_setLc (i := 3) (own := [("row", 5)]) rfl sc_Boxes_sides.nd rfl rfl (sw_true rfl rfl rfl (by decide +kernel)) (pi_list (pv 2)) (blkOk_by (N := n_Boxes_sides) (sc := defScope s_Boxes_sides) (by decide +kernel)) (fun _ _ _ _ _ => pg_name (i := 5) sc_Boxes_sides.nd rfl (.inl rfl)) (fun _ _ _ _ _ => pts_nil) (fun _ _ _ _ _ => (pe_op op_sub (pe_callB (TU.cr_maxK rfl) (by rfl) m_max (by decide +kernel) (pa_cons (pv 5) pa_nil)) (pe_callB (TU.cr_minK rfl) (by rfl) m_min (by decide +kernel) (pa_cons (pv 5) pa_nil)))))
    (pss_one (ps_ret (pe_call G_halves_by (hr.mono (by omega)) (by rfl) m_halves_by k_halves_by b_halves_by .nil pass0 (pa_cons (pe_ix ix_list (pv 2) (pe_bm PySem.F.plainAttrs_list PySem.F.slot_list_index PySem.F.type_list_index mt_index (pv 3) (pa_cons (pe_callB (cr_max rfl) (by rfl) m_max (by decide +kernel) (pa_cons (pv 3) pa_nil)) pa_nil)) (fun _ _ => rfl)) pa_nil))))))), ?_⟩
    have lp : ps.length = bss.length := Paired.length pp
    refine ⟨_, rfl, l, _, rfl, .inl (.inl (.inl hl)), rfl, _, rfl, ite2 (fun e => ?_) (fun _ => ?_)⟩
    · have e2 : ((ps.map V.ref).length : Int) = 0 := V.int.inj (of_decide_eq_true e)
      rw [List.length_map] at e2
      omega
    · refine ⟨_, rfl, m, C, dx, _, _, rfl, hm, cl, nb, rfl, _, rfl, by omega, by omega, fun D nD => ?_⟩
      rw [Int.toNat_natCast]
      refine lc_range (lo := 0) (n := n) (fun i H' => ∃ ds : List Addr, H' D = some (.lst (ds.map V.ref)) ∧ Mids D H' ds ((List.range i).map (mids bss)) ∧ Same H H') ⟨[], upd_same, .nil, same_upd nD⟩ ?_ ?_
      · rintro i H1 hi ⟨ds, hD, md, s1⟩
        have hl1 := s1 _ _ hl
        refine ⟨rfl, _, rfl, l, rfl, ⟨ps.map V.ref, .inl (.inl hl1)⟩, fun D2 nD2 => ?_⟩
        refine lc_list (xs := ps.map V.ref) (fun t H' => Same H1 H' ∧ H' D2 = some (.lst (((mids bss i).take t).map V.int))) ⟨same_upd nD2, upd_same⟩ (fun t H' _ z => .inl (.inl (z.1 _ _ hl1))) ?_ ?_
        · rintro t v H2 hv ⟨s2, hD2⟩
          obtain ⟨p, bs, rfl, e1, hp, eb⟩ := rows_at ((pp.same s1).same s2) hv
          obtain ⟨qs, q', hp', eq', hq'⟩ := box_at (k := i) hp (by omega)
          refine ⟨rfl, _, rfl, _, rfl, p, qs.map V.ref, 0 + (i : Int), .ref q', rfl, rfl, .inl (.inl hp'), by rw [Int.zero_add]; exact atI_nat eq', q', [(bs.getD i (0, 0)).1, (bs.getD i (0, 0)).2], rfl, .inl (.inl hq'), _, hD2, ?_, same_put s2 nD2, ?_⟩
          · have z := (List.getElem?_eq_some_iff.mp hv).1
            rw [List.length_map] at z
            rw [List.length_map, List.length_take]
            exact small1000 (by omega)
          · rw [upd_same, List.take_add_one, mids_at e1, List.map_append]
            refine congrArg (fun z : Int => some (HO.lst (_ ++ [V.int z]))) ?_
            show (bs.getD i (0, 0)).1 + ((bs.getD i (0, 0)).2 + 0) = (bs.getD i (0, 0)).1 + (bs.getD i (0, 0)).2
            rw [Int.add_zero]
        · rintro H2 ⟨s2, hD2⟩
          rw [List.length_map, List.take_of_length_le (by rw [mids_len, lp]; exact Nat.le_refl _)] at hD2
          have ne : D2 ≠ D := fun z => by
            rw [z, hD] at nD2
            cases nD2
          refine ⟨_, s2 _ _ hD, ?_, ds ++ [D2], ?_, ?_, ?_⟩
          · rw [List.length_map, Paired.length md, List.length_map, List.length_range]
            exact small1000 (by omega)
          · rw [upd_same, List.map_append]
            rfl
          · rw [List.range_succ, List.map_append]
            exact .snoc ((md.same s2).put) ⟨ne, (upd_ne ne).trans hD2⟩
          · exact same_put (s1.trans s2) nD
      · rintro H1 ⟨ds, hD, md, s1⟩
        have ld : ds.length = n := by rw [Paired.length md, List.length_map, List.length_range]
        have posm : ∀ i, 0 < (mids bss i).length := fun i => by rw [mids_len]; omega
        refine ⟨_, rfl, D, rfl, ⟨ds.map V.ref, .inl (.inl hD)⟩, fun D3 nD3 => ?_⟩
        refine lc_list (xs := ds.map V.ref) (fun t H' => Same H1 H' ∧ H' D3 = some (.lst (((sprs bss n).take t).map V.int))) ⟨same_upd nD3, upd_same⟩ (fun t H' _ z => .inl (.inl (z.1 _ _ hD))) ?_ ?_
        · rintro t v H2 hv ⟨s2, hD3⟩
          have ht : t < n := by
            have z := (List.getElem?_eq_some_iff.mp hv).1
            rw [List.length_map] at z
            omega
          obtain ⟨d, ns, rfl, e1, e2⟩ := mid_at (md.same s2) hv
          rw [List.getElem?_map, List.getElem?_range ht] at e1
          obtain rfl : mids bss t = ns := Option.some.inj e1
          refine ⟨rfl, _, rfl, d, _, rfl, .inl (.inl e2), posm t, fun M a1 a2 => ⟨_, rfl, d, _, rfl, .inl (.inl e2), posm t, fun m' b1 b2 => ?_⟩⟩
          obtain rfl : M = mx (mids bss t) := IsMax.eq ⟨a1, a2⟩ (mx_is (posm t))
          obtain rfl : m' = mn (mids bss t) := IsMin.eq ⟨b1, b2⟩ (mn_is (posm t))
          refine ⟨_, _, rfl, rfl, _, hD3, ?_, same_put s2 nD3, ?_⟩
          · rw [List.length_map, List.length_take]
            exact small1000 (by omega)
          · rw [upd_same, List.take_add_one, sprs_at ht, List.map_append]
            rfl
        · rintro H2 ⟨s2, hD3⟩
          have ls : (sprs bss n).length = n := by unfold sprs; rw [List.length_map, List.length_range]
          rw [List.length_map, ld, List.take_of_length_le (by rw [ls]; exact Nat.le_refl _)] at hD3
          have hD2 := s2 _ _ hD
          refine ⟨_, rfl, _, rfl, .inl ⟨rfl, _, .inl (.inl hD3)⟩, _, rfl, D3, sprs bss n, rfl, .inl (.inl hD3), by omega, fun M m1 m2 => ?_⟩
          obtain ⟨k0, hk0, rfl⟩ : ∃ k0, k0 < n ∧ spr bss k0 = M := by
            unfold sprs at m1
            obtain ⟨k0, h0, e0⟩ := List.mem_map.mp m1
            exact ⟨k0, List.mem_range.mp h0, e0⟩
          obtain ⟨j, hj, pj, nj⟩ := least (p := fun j => spr bss j = spr bss k0) k0 rfl
          have hjn : j < n := by omega
          have fj : First (spr bss) n j := by
            refine ⟨hjn, fun i hi => ?_, fun i hi => ?_⟩
            · rw [pj]
              exact m2 _ (List.mem_of_getElem? (sprs_at hi))
            · have a := m2 _ (List.mem_of_getElem? (sprs_at (bss := bss) (show i < n by omega)))
              have b := nj i hi
              rw [pj]
              omega
          have at1 : ((sprs bss n).map V.int)[j]? = some (.int (spr bss j)) := by
            rw [List.getElem?_map, sprs_at hjn]
            rfl
          refine ⟨D3, (sprs bss n).map V.int, .int (spr bss k0), j, .int (spr bss j), rfl, rfl, .inl (.inl hD3), rfl, List.all_eq_true.mpr fun v hv => ?_, at1, by rw [eqV_int]; exact decide_eq_true pj, fun i z' hi hz => ?_, ?_⟩
          · obtain ⟨i, _, rfl⟩ := List.mem_map.mp hv
            rfl
          · rw [List.getElem?_map, sprs_at (show i < n by omega)] at hz
            rw [← Option.some.inj hz, eqV_int]
            exact decide_eq_false (nj i hi)
          · obtain ⟨d, hd⟩ : ∃ d, (ds.map V.ref)[j]? = some (.ref d) := ⟨ds[j]'(by omega), by rw [List.getElem?_map, List.getElem?_eq_getElem (by omega)]; rfl⟩
            obtain ⟨_, ns, e0, e1, e2⟩ := mid_at (md.same s2) hd
            cases e0
            rw [List.getElem?_map, List.getElem?_range hjn] at e1
            obtain rfl : mids bss j = ns := Option.some.inj e1
            have s12 := s1.trans s2
            refine ⟨D, _, (j : Int), _, rfl, rfl, .inl (.inl hD2), atI_nat hd, d, mids bss j, rfl, .inl (.inl e2), by rw [mids_len]; omega, SL.Tabs.same hT s12, fun R H3 e3 t3 hR => ?_⟩
            refine q j R H3 fj ((SL.ExtN.of_same s12).trans e3) t3 ?_
            rw [halvesL_eq] at hR
            exact hR
end
end K12
set_option Elab.async false
set_option linter.all false
set_option maxRecDepth 100000
set_option maxHeartbeats 2000000
namespace K12
open PySem PySem.Spec PyProof.Rows L2 CM WD LamX
section
variable {P : Program} {w : World} {K : PySem.W.Frag} {mg : Str → Option Value} {base : Heap}
/-! ### boxes compared -/
theorem eqAt_pair {A : Around} {s : Shared} {a b : Addr} {lo hi : Int} {t1 t2 t3 t4 : Tok} (hu : A.units < cLine) (h1 : s.heap.IsTuple a #[.int lo t1, .int hi t2]) (h2 : s.heap.IsTuple b #[.int lo t3, .int hi t4]) : SeqAt.EqAt A s (.ref a) (.ref b) true := by
  by_cases e : a = b
  · subst e
    exact SeqAt.EqAt.same _
  · refine SeqAt.EqAt.of_refs e fun prog w E Q hq => ?_
    refine SeqAt.eq_tupleAt (e := fun _ => true) h1 h2 hu (fun j g1 g2 => ?_) hq
    match j, g1, g2 with
    | 0, _, _ =>
      have z := SeqAt.EqAt.int_int (A := A.in1) (s := s) lo t1 lo t3
      rw [beq_self_eq_true] at z
      exact z
    | 1, _, _ =>
      have z := SeqAt.EqAt.int_int (A := A.in1) (s := s) hi t2 hi t4
      rw [beq_self_eq_true] at z
      exact z
    | n + 2, g1, _ => exact absurd g1 (by simp)
theorem prs_eqAt {X : Cx} {pins : List (Addr × Obj)} {σ : L2.St} {H : Hp} {s : Shared} (I : Inv X pins σ H s) {A : Around} (hu : A.units < cLine) : ∀ {ps rs : List Addr} {bs : Bx}, Prs H ps bs → Prs H rs bs → ∀ j (h1 : j < ps.length) (h2 : j < rs.length), SeqAt.EqAt A s (.ref ps[j]) (.ref rs[j]) true
  | _, _, _, .nil, .nil, j, h1, _ => absurd h1 (Nat.not_lt_zero j)
  | p :: ps, r :: rs, b :: bs, .cons a t, .cons c u, 0, _, _ => by
    obtain ⟨us, r1, p1, _⟩ := I.tuple (.inl (.inl a))
    obtain ⟨ws, r2, p2, _⟩ := I.tuple (.inl (.inl c))
    obtain ⟨u1, u2, rfl, ⟨t1, rfl⟩, ⟨t2, rfl⟩⟩ := vals2 r1
    obtain ⟨w1, w2, rfl, ⟨t3, rfl⟩, ⟨t4, rfl⟩⟩ := vals2 r2
    exact eqAt_pair hu p1 p2
  | p :: ps, r :: rs, b :: bs, .cons a t, .cons c u, j + 1, h1, h2 => prs_eqAt I hu t u j (Nat.lt_of_succ_lt_succ h1) (Nat.lt_of_succ_lt_succ h2)
def rNeBox : R2 := fun x y H Q => ∃ (a b : Addr) (bs : Bx), x = .ref a ∧ y = .ref b ∧ BoxA H a bs ∧ BoxA H b bs ∧ Q (.bl false) H
theorem op_neBox {X : Cx} (hu : X.A.units + 64 < cLine) : OpR X (compareOp .NotEq) rNeBox := by
  intro pns s σ H x y v u Q I rx ry h
  obtain ⟨a, b, bs, rfl, rfl, ⟨ps, ha, pa⟩, ⟨rs, hb, pr⟩, q⟩ := h
  cases (show v = Value.ref a from rx)
  cases (show u = Value.ref b from ry)
  obtain ⟨us, r1, p1, _⟩ := I.tuple (.inl (.inl ha))
  obtain ⟨ws, r2, p2, _⟩ := I.tuple (.inl (.inl hb))
  have e1 := ZN.vals_refs r1
  have e2 := ZN.vals_refs r2
  subst e1 e2
  have l1 : ps.length = bs.length := Paired.length pa
  have l2 : rs.length = bs.length := Paired.length pr
  have hz : (ps.map Value.ref).toArray.size = (rs.map Value.ref).toArray.size := by simp [l1, l2]
  refine SeqAt.RcNeAt.tuples (e := fun _ => true) p1 p2 (by omega) (fun j h1 h2 => ?_) X.prog X.w X.xe _ ?_
  · have g1 : j < ps.length := by simpa using h1
    have g2 : j < rs.length := by simpa using h2
    have z := prs_eqAt (A := X.A.in1) I (by show X.A.units + 1 < cLine; omega) pa pr j g1 g2
    simpa using z
  · rw [show ((List.range (min (ps.map Value.ref).toArray.size (rs.map Value.ref).toArray.size)).all fun _ => true) = true from List.all_eq_true.mpr fun _ _ => rfl, hz]
    exact ⟨.bl _, H, I, rfl, by simpa using q⟩
theorem passF {X : Cx} : Passes (L2.CX X.prog X.w) X (fun _ _ _ => False) := fun _ _ _ _ _ _ _ h => by
  obtain ⟨_, _, _, _, _, _, _, _, _, _, _, _, z⟩ := h
  exact z.elim
def noE : L2.St → XK := fun _ _ _ _ => False
theorem passFA {X : Cx} : ∀ σ, PassesAt (L2.CX X.prog X.w) X σ (noE σ) := fun σ pins H s e s' I c => passF pins σ H s e s' I c
end
end K12
set_option Elab.async false
set_option linter.all false
set_option maxRecDepth 100000
set_option maxHeartbeats 2000000
namespace K12
open PySem PySem.Spec PyProof.Rows L2 CM WD LamX
section
variable {P : Program} {w : World} {K : PySem.W.Frag} {mg : Str → Option Value} {base : Heap}
/-! ### around, asked by the law -/
theorem pts_col {w i : Nat} (hi : i < w) {H : Hp} {ps : List Addr} {nss : List (List Int)} {t : Nat} {v : V} (h : Pts H w ps nss) (e : (ps.map V.ref)[t]? = some v) : ∃ (p : Addr) (ns : List Int), v = .ref p ∧ H p = some (.tup (ns.map V.int)) ∧ (ns.map V.int)[i]? = some (.int (ns.getD i 0)) ∧ (col nss i)[t]? = some (ns.getD i 0) := by
  obtain ⟨p, ns, rfl, e1, e2, e3⟩ := pts_at h e
  refine ⟨p, ns, rfl, e2, ?_, ?_⟩
  · rw [List.getElem?_map, List.getD_eq_getElem?_getD, List.getElem?_eq_getElem (by rw [e3]; exact hi)]
    rfl
  · unfold col
    rw [List.getElem?_map, e1]
    rfl
def spAR : Sp := fun vs H Q _ => ∃ (a : Addr) (sz x c : Int) (n : Nat), vs = [.ref a, .int sz, .int (n : Int)] ∧ H a = some (.lst [.int x, .int c]) ∧ 0 ≤ sz ∧ Sz (2 * sz + 1) ∧ 1 ≤ n ∧ n ≤ 6 ∧ ∀ H', Kp a H H' → Q (.bl true) H'
theorem ok_ar {f C CB f_S f_A : Addr} {fd fd_S fd_A : FuncData} {k : Nat} (F : FnP K "_law_around_right" "_law_around_right" s_law_around_right f fd) (m_S : mg "Boxes" = some (.ref C)) (m_BadValue : mg "BadValue" = some (.ref CB)) (XF : XfC K CB) (nV : PySem.W.findIn K (.ref CB) "value" = some none) (te : PySem.W.exmOne K (.ref CB) (.ref CB) = some true)
    (M_S : Mk K C f_S) (G_S : FnOk P w K mg base (L2.CX P w) (k + 1) f_S fd_S ["self", "dimensions"] (spMakeX K C CB)) (b_S : Binds K fd_S ["self", "dimensions"] []) (rd : ClX.CRead K C (.type "type")) (me : SM.SMet K C (.type "type") "around" (He.ma K C "around") f_A) (mi : SM.SInst K C "around" (He.ma K C "around") f_A)
    (kp_A : PySem.W.keepIn K (.ref f_A) = true) (G_A : FnOk P w K mg base (L2.CX P w) (k + 1) f_A fd_A ["points"] (spAround CB)) (b_A : Binds K fd_A ["points"] []) (C_draw : Cal P w K mg base CX0 "_law_draw" (k + 1) ["_law_well_here", "_law_many"] spDraw)
    (m_range : mg "range" = none) (m_tuple : mg "tuple" = none) (m_min : mg "min" = none) (m_max : mg "max" = none) : FnOk P w K mg base CX0 (k + 2 + 1) f fd ["_law_well_here", "_law_size", "_law_count"] spAR := by
  obtain ⟨f_law_draw, fd_law_draw, G_law_draw, b_law_draw, m_law_draw, k_law_draw⟩ := C_draw
  refine F.ok sc_law_around_right (fun vs H Q E h => ?_) (fun cdv A outer s H vs Q E hr h => ?_)
  · obtain ⟨a, sz, x, c, n, rfl, _⟩ := h
    rfl
  · obtain ⟨a, sz, x, c, n, rfl, ha, z0, z1, n1, n6, q⟩ := h
    refine ⟨_, PSs.nox (pss_cons (ps_set (i := 3) sc_law_around_right.nd rfl (.inl rfl) (pe_lst (pa_nil)))
    (pss_cons (ps_for PassesOwn.never rfl (pi_range1 (by rfl) m_range (pa_cons (pe_op op_add pe_int (pe_call G_law_draw (hr.mono (by omega)) (by rfl) m_law_draw k_law_draw b_law_draw .nil pass0 (pa_cons (pv 0) (pa_cons pe_int pa_nil)))) pa_nil)) (pg_name (i := 4) sc_law_around_right.nd rfl (.inl rfl))
      (pss_one (ps_expr (pe_bm PySem.F.plainAttrs_list PySem.F.slot_list_append PySem.F.type_list_append mt_append (pv 3) (pa_cons (pe_callTy call_tuple_of (by rfl) m_tuple (by decide +kernel) (pa_cons (pe_lc (own := [("_law_j", 5)]) rfl sc_law_around_right.nd (pi_range1 (by rfl) m_range (pa_cons (pv 2) pa_nil)) (blkOk_by (N := n_law_around_right) (sc := defScope s_law_around_right) (by decide +kernel)) (fun _ _ _ _ _ => pg_name (i := 5) sc_law_around_right.nd rfl (.inl rfl)) (fun _ _ _ _ _ => pts_nil) (fun _ _ _ _ _ => (pe_op op_sub (pe_call G_law_draw (hr.mono (by omega)) (by rfl) m_law_draw k_law_draw b_law_draw .nil pass0 (pa_cons (pv 0) (pa_cons (pe_op op_add (pe_op op_mul pe_int (pv 1)) pe_int) pa_nil))) (pv 1)))) pa_nil)) pa_nil)))))
    (pss_cons (ps_set (i := 6) sc_law_around_right.nd rfl (.inl rfl) (pe_lst (pa_nil)))
    (pss_cons (ps_for PassesOwn.never rfl (pi_range1 (by rfl) m_range (pa_cons (pv 2) pa_nil)) (pg_name (i := 5) sc_law_around_right.nd rfl (.inr rfl))
      (pss_one (ps_expr (pe_bm PySem.F.plainAttrs_list PySem.F.slot_list_append PySem.F.type_list_append mt_append (pv 6) (pa_cons (pe_tup (pa_cons (pe_callB (cr_min rfl) (by rfl) m_min (by decide +kernel) (pa_cons (pe_lc (own := [("_law_spot", 9)]) rfl sc_law_around_right.nd (pi_list (pv 3)) (blkOk_by (N := n_law_around_right) (sc := defScope s_law_around_right) (by decide +kernel)) (fun _ _ _ _ _ => pg_name (i := 9) sc_law_around_right.nd rfl (.inl rfl)) (fun _ _ _ _ _ => pts_nil) (fun _ _ _ _ _ => (pe_ix ix_tupK (pv 9) (pv 5) (fun _ _ => rfl)))) pa_nil)) (pa_cons (pe_callB (cr_max rfl) (by rfl) m_max (by decide +kernel) (pa_cons (pe_lc (own := [("_law_spot", 9)]) rfl sc_law_around_right.nd (pi_list (pv 3)) (blkOk_by (N := n_law_around_right) (sc := defScope s_law_around_right) (by decide +kernel)) (fun _ _ _ _ _ => pg_name (i := 9) sc_law_around_right.nd rfl (.inl rfl)) (fun _ _ _ _ _ => pts_nil) (fun _ _ _ _ _ => (pe_ix ix_tupK (pv 9) (pv 5) (fun _ _ => rfl)))) pa_nil)) pa_nil))) pa_nil)))))
    (pss_cons (ps_if (PW.pt (pw_or (pt_cmpR (op_neBox hr.units) (SM.pe_smeth (E := noE) (pe_glob (v := .ref C) (by rfl) m_S rfl) rd me kp_A G_A (hr.mono (by omega)) b_A passFA (pa_cons (pv 3) pa_nil)) (pe_callTy call_tuple_of (by rfl) m_tuple (by decide +kernel) (pa_cons (pv 6) pa_nil)) (nomark _)) (pw_or1 (pt_cmpR (op_neBox hr.units) (SM.pe_ismeth (E := noE) (RZ.pe_makeS (E := noE) M_S G_S (hr.mono (by omega)) (by rfl) m_S b_S passFA (pa_cons (pv 2) pa_nil)) mi kp_A G_A (hr.mono (by omega)) b_A passFA (pa_cons (pe_slice sl_list (pv 3) po_none (po_some pe_int)) pa_nil)) (pe_callTy call_tuple_of (by rfl) m_tuple (by decide +kernel) (pa_cons (pe_lc (own := [("_law_x", 8)]) rfl sc_law_around_right.nd (pi_tup (pe_ix ix_list (pv 3) pe_int (fun _ _ => rfl))) (blkOk_by (N := n_law_around_right) (sc := defScope s_law_around_right) (by decide +kernel)) (fun _ _ _ _ _ => pg_name (i := 8) sc_law_around_right.nd rfl (.inl rfl)) (fun _ _ _ _ _ => pts_nil) (fun _ _ _ _ _ => (pe_tup (pa_cons (pv 8) (pa_cons (pv 8) pa_nil))))) pa_nil)) (nomark _))))) (pss_one (ps_ret pe_bl)) (pss_nil))
    (pss_cons (ps_try_as (i := 7) rfl rfl sc_law_around_right.nd rfl rfl ⟨rfl, by decide, .inl m_BadValue⟩ LamX.takes0 (fun W pn xe tk _ => pss_one (ps_expr (SM.pe_smeth (pe_glob (v := .ref C) (by rfl) m_S rfl) rd me kp_A G_A (hr.mono (by omega)) b_A (fun σ => passAt tk σ) (pa_cons (pe_lst pa_nil) pa_nil)))) (fun a oe cls d pn hz hf => pss_one (ps_ret (pe_cmpR (WD.op_eqNilL hr.units) (pe_xf XF nV hz hf (pv 7)) (pe_lst pa_nil) (nomark _)))))
    (pss_one (ps_ret pe_bl)))))))), ?_⟩
    refine ⟨by show 0 ≤ sizeLine; decide, fun S nS => ?_⟩
    have Sa : S ≠ a := fun e => by
      rw [e, ha] at nS
      cases nS
    have k0 : Kp a H (upd H S (.lst [])) := .same (same_upd nS)
    have a0 := same_upd (o := .lst []) nS _ _ ha
    have S0 : (upd H S (.lst [])) S = some (.lst []) := upd_same
    generalize upd H S (.lst []) = H0 at k0 a0 S0
    refine ⟨_, rfl, a, x, c, 8, rfl, a0, by decide, .of (k := 4) (by decide) (by decide), fun r x1 c1 r0 r1 => ⟨1, r, rfl, rfl, ?_⟩⟩
    obtain ⟨j, rfl⟩ := Int.eq_ofNat_of_zero_le r0
    have j8 : j < 8 := by omega
    have kA := k0.trans (Kp.set (o := .lst [.int x1, .int c1]))
    have aA : (upd H0 a (.lst [.int x1, .int c1])) a = some (.lst [.int x1, .int c1]) := upd_same
    have SA := (Kp.set (o := .lst [.int x1, .int c1])) _ _ Sa S0
    generalize upd H0 a (.lst [.int x1, .int c1]) = H1 at kA aA SA
    refine ⟨_, rfl, by omega, by omega, for_range (n := 1 + j) (fun i σ H' => ∃ (ps : List Addr) (nss : List (List Int)) (x' c' : Int) (v4 v5 v6 v7 v8 v9 : Option V), σ = [some (.ref a), some (.int sz), some (.int (n : Int)), some (.ref S), v4, v5, v6, v7, v8, v9] ∧ H' S = some (.lst (ps.map V.ref)) ∧ Pts H' n ps nss ∧ ps.length = i ∧ Kp a H H' ∧ H' a = some (.lst [.int x', .int c']))
      ⟨[], [], x1, c1, _, _, _, _, _, _, rfl, SA, .nil, rfl, kA, aA⟩ ?_ ?_⟩
    · rintro i σ H2 hi ⟨ps, nss, x2, c2, v4, v5, v6, v7, v8, v9, rfl, hS, pp, lp, kB, aB⟩
      refine ⟨_, rfl, .inl ⟨rfl, _, .inl (.inl hS)⟩, _, rfl, _, rfl, by omega, by omega, fun D nD => ?_⟩
      rw [Int.toNat_natCast]
      have Da : D ≠ a := fun e => by
        rw [e, aB] at nD
        cases nD
      refine lc_range (lo := 0) (n := n) (fun t H' => ∃ (ns : List Int) (x' c' : Int), H' D = some (.lst (ns.map V.int)) ∧ ns.length = t ∧ Kp a H2 H' ∧ H' a = some (.lst [.int x', .int c'])) ⟨[], x2, c2, upd_same, rfl, .same (same_upd nD), same_upd nD _ _ aB⟩ ?_ ?_
      · rintro t H3 ht ⟨ns, x3, c3, hD, ln, kC, aC⟩
        refine ⟨rfl, _, rfl, _, rfl, 2, sz, rfl, rfl, .inl (by decide), _, 1, rfl, rfl, a, x3, c3, 2 * sz + 1, rfl, aC, by omega, z1, fun r x4 c4 _ _ => ?_⟩
        have hD4 : (upd H3 a (.lst [.int x4, .int c4])) D = some (.lst (ns.map V.int)) := (upd_ne Da).trans hD
        refine ⟨_, rfl, r, sz, rfl, rfl, _, hD4, by rw [List.length_map]; exact small1000 (by omega), ns ++ [r - sz], x4, c4, ?_, by rw [List.length_append, ln]; rfl, fun b o nb e => ?_, ?_⟩
        · rw [upd_same, List.map_append]
          rfl
        · rw [upd_ne (ne_of_none e nD), upd_ne nb]
          exact kC _ _ nb e
        · rw [upd_ne (Ne.symm Da)]
          exact upd_same
      · rintro H3 ⟨ns, x3, c3, hD, ln, kC, aC⟩
        have hS3 := kC _ _ Sa hS
        have pp3 : Pts H3 n ps nss := Paired.mapP pp fun p ns z => ⟨kC _ _ (fun e => by
          rw [e, aB] at z
          cases z.1) z.1, z.2⟩
        refine ⟨D, _, rfl, .inl ⟨.inl (.inl hD), fun t nt => ?_⟩⟩
        have s4 := same_upd (o := .tup (ns.map V.int)) nt
        have tS : t ≠ S := (ne_of_none hS3 nt).symm
        refine ⟨S, _, _, rfl, rfl, s4 _ _ hS3, by rw [List.length_map]; exact small1000 (by omega), ps ++ [t], nss ++ [ns], x3, c3, _, _, _, _, _, _, rfl, ?_, ?_, by rw [List.length_append, lp]; rfl, fun b o nb e => ?_, ?_⟩
        · rw [upd_same, List.map_append]
          rfl
        · refine .snoc (Paired.mapP (pp3.same s4) fun p ns z => ⟨(upd_ne fun e => ?_).trans z.1, z.2⟩) ⟨(upd_ne tS).trans upd_same, ln⟩
          have y := z.1
          rw [e, s4 _ _ hS3] at y
          cases y
        · rw [upd_ne (ne_of_none e nS)]
          exact s4 _ _ (kC _ _ nb (kB _ _ nb e))
        · rw [upd_ne (Ne.symm Sa)]
          exact s4 _ _ aC
    · rintro σ H2 ⟨ps, nss, x2, c2, v4, v5, v6, v7, v8, v9, rfl, hS, pp, lp, kB, aB⟩
      have lps : 0 < ps.length := by omega
      have l8 : ps.length ≤ 8 := by omega
      have hne : ps ≠ [] := fun e => by
        rw [e] at lps
        exact absurd lps (Nat.lt_irrefl 0)
      have poscol : ∀ i, 0 < (col nss i).length := fun i => by
        unfold col
        rw [List.length_map, ← Paired.length pp]
        exact lps
      have lcol : ∀ i, (col nss i).length = ps.length := fun i => by
        unfold col
        rw [List.length_map, ← Paired.length pp]
      refine ⟨by show 0 ≤ sizeLine; decide, fun U nU => ?_⟩
      have sU := same_upd (o := .lst []) nU
      refine ⟨_, rfl, _, rfl, by omega, by omega, for_range (n := n) (fun i σ H' => ∃ (us : List Addr) (bs : Bx) (v4 v5 v7 v8 v9 : Option V), σ = [some (.ref a), some (.int sz), some (.int (n : Int)), some (.ref S), v4, v5, some (.ref U), v7, v8, v9] ∧ H' U = some (.lst (us.map V.ref)) ∧ Prs H' us bs ∧ AroundB nss i bs ∧ Same H2 H')
        ⟨[], [], _, _, _, _, _, rfl, upd_same, .nil, ⟨rfl, fun k b e => by cases e⟩, sU⟩ ?_ ?_⟩
      · rintro i σ H3 hi ⟨us, bs, v4, v5, v7, v8, v9, rfl, hU, pu, ab, s3⟩
        have hS3 := s3 _ _ hS
        refine ⟨_, rfl, .inl ⟨rfl, _, .inl (.inl hU)⟩, _, rfl, S, rfl, ⟨ps.map V.ref, .inl (.inl hS3)⟩, fun D nD => ?_⟩
        refine lc_list (xs := ps.map V.ref) (fun t H' => Same H3 H' ∧ H' D = some (.lst (((col nss i).take t).map V.int))) ⟨same_upd nD, upd_same⟩ (fun t H' _ z => .inl (.inl (z.1 _ _ hS3))) ?_ ?_
        · rintro t v H4 hv ⟨s4, hD⟩
          obtain ⟨p, ns, rfl, e1, e2, e3⟩ := pts_col hi ((pp.same s3).same s4) hv
          refine ⟨rfl, _, rfl, _, rfl, p, _, 0 + (i : Int), _, rfl, rfl, .inl (.inl e1), by rw [Int.zero_add]; exact atI_nat e2, _, hD, ?_, same_put s4 nD, ?_⟩
          · rw [List.length_map, List.length_take, lcol]
            exact small1000 (by omega)
          · rw [upd_same, List.take_add_one, e3, List.map_append]
            rfl
        · rintro H4 ⟨s4, hD⟩
          rw [List.length_map, List.take_of_length_le (by rw [lcol]; exact Nat.le_refl _)] at hD
          have hS4 := s4 _ _ hS3
          refine ⟨D, _, rfl, .inl (.inl hD), poscol i, fun lo l1 l2 => ⟨_, rfl, S, rfl, ⟨ps.map V.ref, .inl (.inl hS4)⟩, fun D2 nD2 => ?_⟩⟩
          refine lc_list (xs := ps.map V.ref) (fun t H' => Same H4 H' ∧ H' D2 = some (.lst (((col nss i).take t).map V.int))) ⟨same_upd nD2, upd_same⟩ (fun t H' _ z => .inl (.inl (z.1 _ _ hS4))) ?_ ?_
          · rintro t v H5 hv ⟨s5, hD2⟩
            obtain ⟨p, ns, rfl, e1, e2, e3⟩ := pts_col hi (((pp.same s3).same s4).same s5) hv
            refine ⟨rfl, _, rfl, _, rfl, p, _, 0 + (i : Int), _, rfl, rfl, .inl (.inl e1), by rw [Int.zero_add]; exact atI_nat e2, _, hD2, ?_, same_put s5 nD2, ?_⟩
            · rw [List.length_map, List.length_take, lcol]
              exact small1000 (by omega)
            · rw [upd_same, List.take_add_one, e3, List.map_append]
              rfl
          · rintro H5 ⟨s5, hD2⟩
            rw [List.length_map, List.take_of_length_le (by rw [lcol]; exact Nat.le_refl _)] at hD2
            refine ⟨D2, _, rfl, .inl (.inl hD2), poscol i, fun hi' g1 g2 => ⟨by show 2 ≤ sizeLine; decide, fun t nt => ?_⟩⟩
            have s6 := same_upd (o := .tup [V.int lo, V.int hi']) nt
            have sA := (s4.trans s5).trans s6
            have hU6 := sA _ _ hU
            have tU : t ≠ U := fun e => by
              rw [e, (s4.trans s5) _ _ hU] at nt
              cases nt
            refine ⟨U, _, _, rfl, rfl, hU6, by rw [List.length_map, Paired.length pu, ab.1]; exact small1000 (by omega), us ++ [t], bs ++ [(lo, hi')], _, _, _, _, _, rfl, ?_, ?_, ab.snoc ⟨l1, l2⟩ ⟨g1, g2⟩, ?_⟩
            · rw [upd_same, List.map_append]
              rfl
            · refine .snoc ((pu.same sA).put hU6) ?_
              exact (upd_ne tU).trans upd_same
            · exact same_put (s3.trans sA) nU
      · rintro σ H3 ⟨us, bs, v4, v5, v7, v8, v9, rfl, hU, pu, ab, s3⟩
        have hS3 := s3 _ _ hS
        have pp3 := pp.same s3
        refine ⟨rfl, _, rfl, S, ps, nss, n, rfl, hS3, pp3, l8, n6, fun e => absurd e hne, fun _ t H4 cs s4 bt ar => ?_⟩
        obtain rfl : bs = cs := ab.eq ar
        have hU4 := s4 _ _ hU
        refine ⟨_, rfl, U, _, rfl, .inl ⟨.inl (.inl hU4), fun p np => ?_⟩⟩
        have s5 := same_upd (o := .tup (us.map V.ref)) np
        refine ⟨t, p, bs, rfl, rfl, bt.same s5, ⟨us, upd_same, (pu.same s4).same s5⟩, _, rfl, ite2 (fun e => absurd e (by decide)) (fun _ => ?_)⟩
        have sB := (s3.trans s4).trans s5
        have hS5 := (s4.trans s5) _ _ hS3
        generalize upd H4 p (.tup (us.map V.ref)) = H5 at sB hS5
        obtain ⟨p0, ps', rfl⟩ : ∃ p0 ps', ps = p0 :: ps' := by
          cases ps with
          | nil => exact absurd rfl hne
          | cons p0 ps' => exact ⟨p0, ps', rfl⟩
        obtain ⟨ns0, nss', rfl⟩ : ∃ ns0 nss', nss = ns0 :: nss' := by
          cases pp with
          | cons _ _ => exact ⟨_, _, rfl⟩
        obtain ⟨h0, w0⟩ : H2 p0 = some (.tup (ns0.map V.int)) ∧ ns0.length = n := by
          cases pp with
          | cons z _ => exact z
        refine ⟨_, rfl, fun x dx nx ndx ne => ⟨x, dx, .int (n : Int), rfl, upd_same, .inl ⟨n, rfl, n1, n6, rfl, ?_⟩⟩⟩
        have sM : Same H5 (upd (upd (upd H5 dx (.own x)) x (.ins C dx [])) x (.ins C dx [("axes", .int (n : Int))])) := fun b o e => by
          rw [upd_ne (ne_of_none e nx), upd_ne (ne_of_none e nx), upd_ne (ne_of_none e ndx)]
          exact e
        refine ⟨x, dx, _, rfl, upd_same, rfl, _, rfl, 1, rfl, S, _, rfl, .inl (.inl (sM _ _ hS5)), fun c nc => ?_⟩
        generalize upd (upd (upd H5 dx (.own x)) x (.ins C dx [])) x (.ins C dx [("axes", .int (n : Int))]) = H6 at sM nc
        have ec : cutV ((p0 :: ps').map V.ref) none (some 1) = [p0].map V.ref := by
          have l1 : HT.sIx ((p0 :: ps').map V.ref).length 0 none = 0 := rfl
          have l2 : HT.sIx ((p0 :: ps').map V.ref).length ((p0 :: ps').map V.ref).length (some 1) = 1 := by
            rw [List.length_map, List.length_cons]
            unfold HT.sIx
            simp
            try omega
          unfold cutV
          rw [l1, l2]
          rfl
        rw [ec]
        have sC := same_upd (o := .lst ([p0].map V.ref)) nc
        have sD := (sB.trans sM).trans sC
        have hc : (upd H6 c (.lst ([p0].map V.ref))) c = some (.lst ([p0].map V.ref)) := upd_same
        have hS7 := sC _ _ (sM _ _ hS5)
        generalize upd H6 c (.lst ([p0].map V.ref)) = H7 at sD hc hS7
        refine ⟨c, [p0], [ns0], n, rfl, hc, .cons ⟨sD _ _ h0, w0⟩ .nil, by show 1 ≤ 8; decide, n6, (fun e => by cases e), fun _ t2 H8 cs2 s8 bt2 ar2 => ?_⟩
        have hS8 := s8 _ _ hS7
        have h08 := s8 _ _ (sD _ _ h0)
        refine ⟨_, rfl, S, (p0 :: ps').map V.ref, 0, .ref p0, rfl, rfl, .inl (.inl hS8), atI_nat (j := 0) (xs := (p0 :: ps').map V.ref) rfl, p0, rfl, ⟨ns0.map V.int, .inl (.inl h08)⟩, fun D nD => ?_⟩
        refine lc_tup (xs := ns0.map V.int) (fun i H' => ∃ ts : List Addr, H' D = some (.lst (ts.map V.ref)) ∧ Prs H' ts ((ns0.map fun x => (x, x)).take i) ∧ Same H8 H') ⟨[], upd_same, .nil, same_upd nD⟩ (fun t H' _ z => by
          obtain ⟨_, _, _, z⟩ := z
          exact .inl (.inl (z _ _ h08))) ?_ ?_
        · rintro i v H9 hv ⟨ts, hD, pt, s9⟩
          obtain ⟨y, rfl, e1⟩ := int_at hv
          have hi : i < n := by
            have z := (List.getElem?_eq_some_iff.mp e1).1
            omega
          refine ⟨rfl, _, rfl, _, rfl, by show 2 ≤ sizeLine; decide, fun u nu => ?_⟩
          have sE := same_upd (o := .tup [V.int y, V.int y]) nu
          have uD : u ≠ D := (ne_of_none hD nu).symm
          refine ⟨_, sE _ _ hD, ?_, ts ++ [u], ?_, ?_, same_put (s9.trans sE) nD⟩
          · rw [List.length_map, Paired.length pt, List.length_take]
            exact small1000 (by omega)
          · rw [upd_same, List.map_append]
            rfl
          · rw [List.take_add_one, List.getElem?_map, e1]
            refine .snoc ((pt.same sE).put (sE _ _ hD)) ?_
            exact (upd_ne uD).trans upd_same
        · rintro H9 ⟨ts, hD, pt, s9⟩
          rw [List.length_map, List.take_of_length_le (by rw [List.length_map]; exact Nat.le_refl _)] at pt
          refine ⟨D, _, rfl, .inl ⟨.inl (.inl hD), fun p2 np2 => ?_⟩⟩
          have sF := same_upd (o := .tup (ts.map V.ref)) np2
          have e2 : cs2 = ns0.map fun x => (x, x) := by
            refine ar2.eq ⟨by rw [List.length_map, w0], fun k b hb => ?_⟩
            rw [List.getElem?_map] at hb
            cases e : ns0[k]? with
            | none =>
              rw [e] at hb
              cases hb
            | some y =>
              rw [e] at hb
              cases hb
              have ey : ns0.getD k 0 = y := by rw [List.getD_eq_getElem?_getD, e]; rfl
              have ecol : col [ns0] k = [y] := by
                show [ns0.getD k 0] = [y]
                rw [ey]
              rw [ecol]
              exact ⟨⟨List.mem_cons_self .., fun z hz => by rw [List.mem_singleton.mp hz]; exact Int.le_refl _⟩, ⟨List.mem_cons_self .., fun z hz => by rw [List.mem_singleton.mp hz]; exact Int.le_refl _⟩⟩
          subst e2
          refine ⟨t2, p2, _, rfl, rfl, (bt2.same s9).same sF, ⟨ts, upd_same, pt.same sF⟩, _, rfl, ite2 (fun e => absurd e (by decide)) (fun _ => ?_)⟩
          have sG := ((sD.trans s8).trans s9).trans sF
          generalize upd H9 p2 (.tup (ts.map V.ref)) = H10 at sG
          refine ⟨rfl, by show 0 ≤ sizeLine; decide, fun N nN => ⟨N, [], [], n, rfl, upd_same, .nil, by show 0 ≤ 8; decide, n6, fun _ d H11 nd s11 hd => ?_, fun e => absurd rfl e⟩⟩
          refine ⟨true, te, fun _ a' na' => ?_, fun e => by cases e⟩
          have sN := same_upd (o := .lst []) nN
          have hN : H11 N = some (.lst []) := s11 _ _ upd_same
          have sH := (sG.trans sN).trans s11
          refine ⟨_, rfl, rfl, rfl, d, _, .ref N, rfl, hd, rfl, by show 0 ≤ sizeLine; decide, fun M nM => ⟨N, M, [], rfl, rfl, .inl (.inl (same_upd nM _ _ hN)), .inl (.inl upd_same), ?_⟩⟩
          exact q _ (kB.trans (.same (sH.trans (same_upd nM))))
end
end K12
set_option Elab.async false
set_option linter.all false
set_option maxRecDepth 100000
set_option maxHeartbeats 2000000
namespace K12
open PySem PySem.Spec PyProof.Rows L2 CM WD LamX
section
variable {P : Program} {w : World} {K : PySem.W.Frag} {mg : Str → Option Value} {base : Heap}
/-! ### the law's turns -/
theorem Prs.kp' {a : Addr} {H H' : Hp} {x c : V} {ps : List Addr} {ns : Bx} (h : Prs H ps ns) (s : Kp a H H') (ha : H a = some (.lst [x, c])) : Prs H' ps ns := h.kp s ha
def spRight (K : PySem.W.Frag) : Sp := fun vs H Q _ => ∃ (a : Addr) (x c : Int), vs = [.ref a] ∧ H a = some (.lst [.int x, .int c]) ∧ Tabs (TT K) H ∧ ∀ H' : Hp, SL.KpN a H H' → Tabs (TT K) H' → Q (.bl true) H'
theorem ok_right {f C CB f_S p_w g_w : Addr} {fd fd_S fd_w : FuncData} {k : Nat} {gS : List Value → List Value → List Value} (F : FnP K "_law_right" "_law_right" s_law_right f fd) (m_range : mg "range" = none) (m_list : mg "list" = none) (m_tuple : mg "tuple" = none) (cl_C : Cls K C)
    (M_S : Mk K C f_S) (G_S : FnOk P w K mg base (L2.CX P w) k f_S fd_S ["self", "dimensions"] (spMakeX K C CB)) (m_S : mg "Boxes" = some (.ref C)) (kb_S : KBn K fd_S ["self", "dimensions"] 1 ["dimensions"] gS (fun vs zs => vs ++ zs))
    (pr_w : PropOf K C "dimensions" p_w g_w) (G_w : FnOk P w K mg base CX0 1 g_w fd_w ["self"] (getSp C "axes")) (b_w : Binds K fd_w ["self"] [])
    (C_draw : Cal P w K mg base CX0 "_law_draw" k ["_law_well_here", "_law_many"] spDraw) (C_one : Cal P w K mg base CX0 "_law_one" k ["_law_well_here", "_law_some"] (spOne K))
    (C_box : Cal P w K mg base CX0 "_law_box" k ["_law_well_here", "_law_size", "_law_count"] spBox) (C_joined : Cal P w K mg base CX0 "_law_joined" k ["_law_one_here", "_law_two"] spJoined)
    (C_meets : Cal P w K mg base CX0 "_law_meets" k ["_law_one_here", "_law_two"] spMeets) (C_wide : Cal P w K mg base CX0 "_law_wide" k ["_law_box_here"] spWide) (C_far : Cal P w K mg base CX0 "_law_far" k ["_law_box_here", "_law_spot"] spFar)
    (C_sides : Cal P w K mg base CX0 "_law_sides" k ["_law_tags", "_law_count"] spLS) (C_ar : Cal P w K mg base CX0 "_law_around_right" k ["_law_well_here", "_law_size", "_law_count"] spAR)
    (D_own : CalM P w K mg base CX0 C "own" k ["self", "key"] spOwn) (D_join : CalM P w K mg base CX0 C "join" k ["self", "one", "other"] spJoin)
    (D_consistent : CalM P w K mg base CX0 C "consistent" k ["self", "label", "question"] spCons) (D_matches : CalM P w K mg base CX0 C "matches" k ["self", "key", "question"] spCons)
    (D_penalty : CalM P w K mg base CX0 C "penalty" k ["self", "label", "key"] spPen) (D_sides : CalM P w K mg base CX0 C "sides" k ["self", "labels"] (spSides K C))
    (D_distance : CalM P w K mg base CX0 C "distance" k ["self", "key", "point"] spDist) (D_bound : CalM P w K mg base CX0 C "bound" k ["self", "label", "point"] spDist) :
    FnOk P w K mg base CX0 (k + 3) f fd ["_law_well_here"] (spRight K) := by
  obtain ⟨f_law_draw, fd_law_draw, G_law_draw, b_law_draw, m_law_draw, k_law_draw⟩ := C_draw
  obtain ⟨f_law_one, fd_law_one, G_law_one, b_law_one, m_law_one, k_law_one⟩ := C_one
  obtain ⟨f_law_box, fd_law_box, G_law_box, b_law_box, m_law_box, k_law_box⟩ := C_box
  obtain ⟨f_law_joined, fd_law_joined, G_law_joined, b_law_joined, m_law_joined, k_law_joined⟩ := C_joined
  obtain ⟨f_law_meets, fd_law_meets, G_law_meets, b_law_meets, m_law_meets, k_law_meets⟩ := C_meets
  obtain ⟨f_law_wide, fd_law_wide, G_law_wide, b_law_wide, m_law_wide, k_law_wide⟩ := C_wide
  obtain ⟨f_law_far, fd_law_far, G_law_far, b_law_far, m_law_far, k_law_far⟩ := C_far
  obtain ⟨f_law_sides, fd_law_sides, G_law_sides, b_law_sides, m_law_sides, k_law_sides⟩ := C_sides
  obtain ⟨f_law_around_right, fd_law_around_right, G_law_around_right, b_law_around_right, m_law_around_right, k_law_around_right⟩ := C_ar
  obtain ⟨f_own, fd_own, G_own, b_own, me_own⟩ := D_own
  obtain ⟨f_join, fd_join, G_join, b_join, me_join⟩ := D_join
  obtain ⟨f_consistent, fd_consistent, G_consistent, b_consistent, me_consistent⟩ := D_consistent
  obtain ⟨f_matches, fd_matches, G_matches, b_matches, me_matches⟩ := D_matches
  obtain ⟨f_penalty, fd_penalty, G_penalty, b_penalty, me_penalty⟩ := D_penalty
  obtain ⟨f_sides, fd_sides, G_sides, b_sides, me_sides⟩ := D_sides
  obtain ⟨f_distance, fd_distance, G_distance, b_distance, me_distance⟩ := D_distance
  obtain ⟨f_bound, fd_bound, G_bound, b_bound, me_bound⟩ := D_bound
  refine F.ok sc_law_right (fun vs H Q E h => ?_) (fun cdv A outer s H vs Q E hr h => ?_)
  · obtain ⟨a, x, c, rfl, _⟩ := h
    rfl
  · obtain ⟨a, x, c, rfl, ha, hT, q⟩ := h
    refine ⟨_, PSs.nox (pss_cons (ps_asg (pe_tup (pa_cons (pe_op op_add pe_int (pe_call G_law_draw (hr.mono (by omega)) (by rfl) m_law_draw k_law_draw b_law_draw .nil pass0 (pa_cons (pv 0) (pa_cons pe_int pa_nil)))) (pa_cons (pe_call G_law_one (hr.mono (by omega)) (by rfl) m_law_one k_law_one b_law_one .nil pass0 (pa_cons (pv 0) (pa_cons (pe_lst (pa_cons pe_int (pa_cons pe_int (pa_cons pe_int (pa_cons (pe_op op_pow pe_int pe_int) pa_nil))))) pa_nil))) pa_nil))) (pg_tup rfl (pgs_cons (pg_name (i := 1) sc_law_right.nd rfl (.inr rfl)) (pgs_cons (pg_name (i := 2) sc_law_right.nd rfl (.inr rfl)) (pgs_nil)))))
    (pss_cons (ps_set (i := 3) sc_law_right.nd rfl (.inl rfl) (pe_makeK0 M_S G_S (hr.mono (by omega)) (by rfl) m_S kb_S passF (pk_cons (pv 1) pk_nil)))
    (pss_cons (ps_if (pt_cmpR op_ne (pe_prop (pv 3) cl_C pr_w G_w (hr.mono (by omega)) b_w .nil pass0 rfl) (pv 1) (nomark _)) (pss_one (ps_ret pe_bl)) (pss_nil))
    (pss_cons (ps_for PassesOwn.never rfl (pi_range1 (by rfl) m_range (pa_cons pe_int pa_nil)) (pg_name (i := 4) sc_law_right.nd rfl (.inl rfl))
      (pss_cons (ps_par3 (i := 5) (j := 6) (l := 7) rfl sc_law_right.nd rfl rfl rfl (by decide) (by decide) (by decide) rfl rfl rfl (pa_cons (pe_call G_law_box (hr.mono (by omega)) (by rfl) m_law_box k_law_box b_law_box .nil pass0 (pa_cons (pv 0) (pa_cons (pv 2) (pa_cons (pv 1) pa_nil)))) (pa_cons (pe_call G_law_box (hr.mono (by omega)) (by rfl) m_law_box k_law_box b_law_box .nil pass0 (pa_cons (pv 0) (pa_cons (pv 2) (pa_cons (pv 1) pa_nil)))) (pa_cons (pe_call G_law_box (hr.mono (by omega)) (by rfl) m_law_box k_law_box b_law_box .nil pass0 (pa_cons (pv 0) (pa_cons (pv 2) (pa_cons (pv 1) pa_nil)))) pa_nil))) (by rfl))
      (pss_cons (ps_set (i := 8) sc_law_right.nd rfl (.inl rfl) (pe_callTy call_tuple_of (by rfl) m_tuple (by decide +kernel) (pa_cons (pe_lc (own := [("_law_k", 11)]) rfl sc_law_right.nd (pi_range1 (by rfl) m_range (pa_cons (pv 1) pa_nil)) (blkOk_by (N := n_law_right) (sc := defScope s_law_right) (by decide +kernel)) (fun _ _ _ _ _ => pg_name (i := 11) sc_law_right.nd rfl (.inl rfl)) (fun _ _ _ _ _ => pts_nil) (fun _ _ _ _ _ => (pe_op op_sub (pe_call G_law_draw (hr.mono (by omega)) (by rfl) m_law_draw k_law_draw b_law_draw .nil pass0 (pa_cons (pv 0) (pa_cons (pe_op op_add (pe_op op_mul pe_int (pv 2)) pe_int) pa_nil))) (pv 2)))) pa_nil)))
      (pss_cons (ps_if (PW.pt (pw_or (pt_cmpR (op_neBox hr.units) (pe_meth (pv 3) cl_C me_own G_own (hr.mono (by omega)) b_own .nil pass0 (pa_cons (pv 5) pa_nil)) (pv 5) (nomark _)) (pw_or1 (pt_cmpR (op_neBox hr.units) (pe_meth (pv 3) cl_C me_join G_join (hr.mono (by omega)) b_join .nil pass0 (pa_cons (pv 5) (pa_cons (pv 6) pa_nil))) (pe_call G_law_joined (hr.mono (by omega)) (by rfl) m_law_joined k_law_joined b_law_joined .nil pass0 (pa_cons (pv 5) (pa_cons (pv 6) pa_nil))) (nomark _))))) (pss_one (ps_ret pe_bl)) (pss_nil))
      (pss_cons (ps_set (i := 9) sc_law_right.nd rfl (.inl rfl) (pe_call G_law_meets (hr.mono (by omega)) (by rfl) m_law_meets k_law_meets b_law_meets .nil pass0 (pa_cons (pv 5) (pa_cons (pv 7) pa_nil))))
      (pss_cons (ps_if (PW.pt (pw_or (pt_cmpR op_ne (pe_meth (pv 3) cl_C me_matches G_matches (hr.mono (by omega)) b_matches .nil pass0 (pa_cons (pv 5) (pa_cons (pv 7) pa_nil))) (pv 9) (nomark _)) (pw_or1 (pt_cmpR op_ne (pe_meth (pv 3) cl_C me_consistent G_consistent (hr.mono (by omega)) b_consistent .nil pass0 (pa_cons (pv 5) (pa_cons (pv 7) pa_nil))) (pv 9) (nomark _))))) (pss_one (ps_ret pe_bl)) (pss_nil))
      (pss_cons (ps_if (pt_cmpR op_ne (pe_meth (pv 3) cl_C me_penalty G_penalty (hr.mono (by omega)) b_penalty .nil pass0 (pa_cons (pv 5) (pa_cons (pv 6) pa_nil))) (pe_op op_sub (pe_call G_law_wide (hr.mono (by omega)) (by rfl) m_law_wide k_law_wide b_law_wide .nil pass0 (pa_cons (pe_call G_law_joined (hr.mono (by omega)) (by rfl) m_law_joined k_law_joined b_law_joined .nil pass0 (pa_cons (pv 5) (pa_cons (pv 6) pa_nil))) pa_nil)) (pe_call G_law_wide (hr.mono (by omega)) (by rfl) m_law_wide k_law_wide b_law_wide .nil pass0 (pa_cons (pv 5) pa_nil))) (nomark _)) (pss_one (ps_ret pe_bl)) (pss_nil))
      (pss_one (ps_if (PW.pt (pw_or (pt_cmpR op_ne (pe_meth (pv 3) cl_C me_distance G_distance (hr.mono (by omega)) b_distance .nil pass0 (pa_cons (pv 5) (pa_cons (pv 8) pa_nil))) (pe_call G_law_far (hr.mono (by omega)) (by rfl) m_law_far k_law_far b_law_far .nil pass0 (pa_cons (pv 5) (pa_cons (pv 8) pa_nil))) (nomark _)) (pw_or1 (pt_cmpR op_ne (pe_meth (pv 3) cl_C me_bound G_bound (hr.mono (by omega)) b_bound .nil pass0 (pa_cons (pv 6) (pa_cons (pv 8) pa_nil))) (pe_call G_law_far (hr.mono (by omega)) (by rfl) m_law_far k_law_far b_law_far .nil pass0 (pa_cons (pv 6) (pa_cons (pv 8) pa_nil))) (nomark _))))) (pss_one (ps_ret pe_bl)) (pss_nil))))))))))
    (pss_cons (ps_setLc (i := 10) (own := [("_law_k", 11)]) rfl sc_law_right.nd rfl rfl (sw_true rfl rfl rfl (by decide +kernel)) (pi_range1 (by rfl) m_range (pa_cons (pe_op op_add pe_int (pe_call G_law_draw (hr.mono (by omega)) (by rfl) m_law_draw k_law_draw b_law_draw .nil pass0 (pa_cons (pv 0) (pa_cons pe_int pa_nil)))) pa_nil)) (blkOk_by (N := n_law_right) (sc := defScope s_law_right) (by decide +kernel)) (fun _ _ _ _ _ => pg_name (i := 11) sc_law_right.nd rfl (.inl rfl)) (fun _ _ _ _ _ => pts_nil) (fun _ _ _ _ _ => (pe_call G_law_box (hr.mono (by omega)) (by rfl) m_law_box k_law_box b_law_box .nil pass0 (pa_cons (pv 0) (pa_cons (pv 2) (pa_cons (pv 1) pa_nil))))))
    (pss_one (ps_ret (pe_and (pe_cmpR (op_eqS hr.units) (pe_callTy call_list_of (by rfl) m_list (by decide +kernel) (pa_cons (pe_meth (pv 3) cl_C me_sides G_sides (hr.mono (by omega)) b_sides .nil pass0 (pa_cons (pv 10) pa_nil)) pa_nil)) (pe_call G_law_sides (hr.mono (by omega)) (by rfl) m_law_sides k_law_sides b_law_sides .nil pass0 (pa_cons (pv 10) (pa_cons (pv 1) pa_nil))) (nomark _)) (pe_one (pe_call G_law_around_right (hr.mono (by omega)) (by rfl) m_law_around_right k_law_around_right b_law_around_right .nil pass0 (pa_cons (pv 0) (pa_cons (pv 2) (pa_cons (pv 1) pa_nil))))))))))))), ?_⟩
    refine ⟨_, rfl, a, x, c, 6, rfl, ha, by decide, .of (k := 3) (by decide) (by decide), fun r x1 c1 r0 r1 => ⟨1, r, rfl, rfl, ?_⟩⟩
    obtain ⟨j, rfl⟩ := Int.eq_ofNat_of_zero_le r0
    have k0 : Kp a H (upd H a (.lst [.int x1, .int c1])) := Kp.set
    have a0 : (upd H a (.lst [.int x1, .int c1])) a = some (.lst [.int x1, .int c1]) := upd_same
    generalize upd H a (.lst [.int x1, .int c1]) = G0 at k0 a0
    refine ⟨_, rfl, 10, 30, rfl, rfl, ⟨by decide, by decide, by decide⟩, by show 4 ≤ sizeLine; decide, fun l nl => ?_⟩
    have la : l ≠ a := fun z => by
      rw [z, a0] at nl
      cases nl
    dsimp only
    obtain ⟨xs, hxs⟩ : ∃ xs : List V, xs = [V.int 2, V.int 4, V.int 30, V.int (10 ^ Int.toNat 30)] := ⟨_, rfl⟩
    rw [← hxs]
    have k1 : Kp a H (upd G0 l (.lst xs)) := k0.trans (.same (same_upd nl))
    have a1 : (upd G0 l (.lst xs)) a = some (.lst [.int x1, .int c1]) := same_upd nl _ _ a0
    have l1 : (upd G0 l (.lst xs)) l = some (.lst xs) := upd_same
    generalize upd G0 l (.lst xs) = G1 at k1 a1 l1
    refine ⟨a, l, x1, c1, xs, rfl, a1, .inl (.inl l1), fun x' c' => .inl (.inl ((Kp.set (o := .lst [.int x', .int c'])) _ _ la l1)), by rw [hxs]; decide, by rw [hxs]; decide, fun v x2 c2 hv => ?_⟩
    obtain ⟨sz, rfl, z0, z1⟩ : ∃ sz : Int, v = .int sz ∧ 0 ≤ sz ∧ sz ≤ 10 ^ 30 := by
      rw [hxs] at hv
      rcases List.mem_cons.mp hv with rfl | hv
      · exact ⟨_, rfl, by decide, by decide +kernel⟩
      rcases List.mem_cons.mp hv with rfl | hv
      · exact ⟨_, rfl, by decide, by decide +kernel⟩
      rcases List.mem_cons.mp hv with rfl | hv
      · exact ⟨_, rfl, by decide, by decide +kernel⟩
      rcases List.mem_cons.mp hv with rfl | hv
      · exact ⟨_, rfl, by decide +kernel, by decide +kernel⟩
      · cases hv
    have zz1 : Sz (2 * sz + 1) := .of (k := 140) (by omega) (by decide)
    have zz2 : Sz (sz + 1) := .of (k := 140) (by omega) (by decide)
    have k2 := k1.trans (Kp.set (o := .lst [.int x2, .int c2]))
    have a2 : (upd G1 a (.lst [.int x2, .int c2])) a = some (.lst [.int x2, .int c2]) := upd_same
    generalize upd G1 a (.lst [.int x2, .int c2]) = G at k2 a2
    have hw : (1 : Int) + (j : Int) = ((j + 1 : Nat) : Int) := by omega
    have j6 : j < 6 := by omega
    try dsimp only
    rw [hw]
    generalize hW : j + 1 = w
    have w1 : 1 ≤ w := by omega
    have w6 : w ≤ 6 := by omega
    refine ⟨by show 2 ≤ sizeLine; decide, fun T nT => ⟨T, _, rfl, .inl (.inl upd_same), rfl, _, _, rfl, _, _, rfl, rfl, ?_⟩⟩
    have k2T := k2.trans (.same (same_upd (o := .tup [V.int (w : Int), V.int sz]) nT))
    have a2T := same_upd (o := .tup [V.int (w : Int), V.int sz]) nT _ _ a2
    generalize upd G T (.tup [V.int (w : Int), V.int sz]) = G2 at k2T a2T
    refine ⟨_, rfl, rfl, rfl, fun m dx nm ndx hne => ?_⟩
    refine ⟨m, dx, .int (w : Int), rfl, upd_same, .inl ⟨w, rfl, w1, w6, rfl, ?_⟩⟩
    have hma : m ≠ a := fun z => by
      rw [z, a2T] at nm
      cases nm
    have hda : dx ≠ a := fun z => by
      rw [z, a2T] at ndx
      cases ndx
    have k3 : Kp a H (upd (upd (upd G2 dx (.own m)) m (.ins C dx [])) m (.ins C dx [("axes", .int (w : Int))])) := k2T.trans fun b o _ e => by
      rw [upd_ne (ne_of_none e nm), upd_ne (ne_of_none e nm), upd_ne (ne_of_none e ndx)]
      exact e
    have m3 : (upd (upd (upd G2 dx (.own m)) m (.ins C dx [])) m (.ins C dx [("axes", .int (w : Int))])) m = some (.ins C dx [("axes", .int (w : Int))]) := upd_same
    have a3 : (upd (upd (upd G2 dx (.own m)) m (.ins C dx [])) m (.ins C dx [("axes", .int (w : Int))])) a = some (.lst [.int x2, .int c2]) := by
      rw [upd_ne (Ne.symm hma), upd_ne (Ne.symm hma), upd_ne (Ne.symm hda)]
      exact a2T
    generalize upd (upd (upd G2 dx (.own m)) m (.ins C dx [])) m (.ins C dx [("axes", .int (w : Int))]) = G3 at k3 m3 a3
    refine ⟨_, rfl, m, dx, _, rfl, m3, m, dx, _, _, rfl, m3, rfl, _, rfl, rfl, _, rfl, ite2 (fun e => absurd e (by simp)) (fun _ => ?_)⟩
    refine ⟨_, rfl, by decide, by decide, for_range (n := 8) (fun _ σ H' => ∃ (v4 v5 v6 v7 v8 v9 v10 v11 : Option V) (x' c' : Int), σ = [some (.ref a), some (.int (w : Int)), some (.int sz), some (.ref m), v4, v5, v6, v7, v8, v9, v10, v11] ∧
      Kp a H H' ∧ H' m = some (.ins C dx [("axes", .int (w : Int))]) ∧ H' a = some (.lst [.int x', .int c'])) ⟨_, _, _, _, _, _, _, _, _, _, rfl, k3, m3, a3⟩ ?_ ?_⟩
    · rintro i σ H1 _ ⟨v4, v5, v6, v7, v8, v9, v10, v11, x', c', rfl, kA, mA, aA⟩
      refine ⟨_, rfl, _, rfl, _, rfl, a, sz, x', c', w, rfl, aA, z0, zz1, zz2, w6, fun H2 p1 bs1 x3 c3 kB aB bB _ l1' wf1 => ?_⟩
      refine ⟨_, rfl, _, rfl, _, rfl, a, sz, x3, c3, w, rfl, aB, z0, zz1, zz2, w6, fun H3 p2 bs2 x4 c4 kC aC bC _ l2' wf2 => ?_⟩
      refine ⟨_, rfl, _, rfl, _, rfl, a, sz, x4, c4, w, rfl, aC, z0, zz1, zz2, w6, fun H4 p3 bs3 x5 c5 kD aD bD _ l3' wf3 => ⟨_, _, _, rfl, ?_⟩⟩
      have b1 := (bB.kp kC aB).kp kD aC
      have b2 := bC.kp kD aC
      have mD := kD _ _ hma (kC _ _ hma (kB _ _ hma mA))
      have kE := ((kA.trans kB).trans kC).trans kD
      refine ⟨_, rfl, _, rfl, by omega, by omega, fun D nD => ?_⟩
      rw [Int.toNat_natCast]
      have Da : D ≠ a := fun e => by
        rw [e, aD] at nD
        cases nD
      refine lc_range (lo := 0) (n := w) (fun t H' => ∃ (ns : List Int) (x' c' : Int), H' D = some (.lst (ns.map V.int)) ∧ ns.length = t ∧ Kp a H4 H' ∧ H' a = some (.lst [.int x', .int c'])) ⟨[], x5, c5, upd_same, rfl, .same (same_upd nD), same_upd nD _ _ aD⟩ ?_ ?_
      · rintro t H5 ht ⟨ns, x6, c6, hD, ln, kF, aF⟩
        refine ⟨rfl, _, rfl, _, rfl, 2, sz, rfl, rfl, .inl (by decide), _, 1, rfl, rfl, a, x6, c6, 2 * sz + 1, rfl, aF, by omega, zz1, fun r x7 c7 _ _ => ?_⟩
        have hD4 : (upd H5 a (.lst [.int x7, .int c7])) D = some (.lst (ns.map V.int)) := (upd_ne Da).trans hD
        refine ⟨_, rfl, r, sz, rfl, rfl, _, hD4, by rw [List.length_map]; exact small1000 (by omega), ns ++ [r - sz], x7, c7, ?_, by rw [List.length_append, ln]; rfl, fun b o nb e => ?_, ?_⟩
        · rw [upd_same, List.map_append]
          rfl
        · rw [upd_ne (ne_of_none e nD), upd_ne nb]
          exact kF _ _ nb e
        · rw [upd_ne (Ne.symm Da)]
          exact upd_same
      · rintro H5 ⟨ns, x6, c6, hD, ln, kF, aF⟩
        refine ⟨D, _, rfl, .inl ⟨.inl (.inl hD), fun sp nsp => ?_⟩⟩
        have s1 := same_upd (o := .tup (ns.map V.int)) nsp
        have kG := (kE.trans kF).trans (.same s1)
        have c1' := (b1.kp kF aD).same s1
        have c2' := (b2.kp kF aD).same s1
        have c3' := (bD.kp kF aD).same s1
        have mG := s1 _ _ (kF _ _ hma mD)
        have aG := s1 _ _ aF
        have hsp : (upd H5 sp (.tup (ns.map V.int))) sp = some (.tup (ns.map V.int)) := upd_same
        generalize upd H5 sp (.tup (ns.map V.int)) = H6 at kG c1' c2' c3' mG aG hsp
        -- own
        refine ⟨_, rfl, m, dx, _, rfl, mG, rfl, _, rfl, m, p1, rfl, _, rfl, p1, p1, bs1, rfl, rfl, c1', c1', _, rfl, ite2 (fun e => absurd e (by decide)) (fun _ => ?_)⟩
        -- join
        refine ⟨_, rfl, m, dx, _, rfl, mG, rfl, _, rfl, _, rfl, m, p1, p2, bs1, bs2, rfl, c1', c2', by omega, by omega, fun t1 H7 s7 bt1 => ?_⟩
        refine ⟨_, rfl, _, rfl, p1, p2, bs1, bs2, rfl, c1'.same s7, c2'.same s7, by omega, by omega, fun t2 H8 s8 bt2 => ?_⟩
        refine ⟨t1, t2, _, rfl, rfl, bt1.same s8, bt2, _, rfl, ite2 (fun e => absurd e (by decide)) (fun _ => ?_)⟩
        have sH := s7.trans s8
        have kH := kG.trans (.same sH)
        have d1 := c1'.same sH
        have d2 := c2'.same sH
        have d3 := c3'.same sH
        have mH := sH _ _ mG
        have aH := sH _ _ aG
        have hspH := sH _ _ hsp
        -- meets
        refine ⟨_, rfl, _, rfl, p1, p3, bs1, bs3, rfl, d1, d3, by omega, by omega, fun H9 s9 => ?_⟩
        refine ⟨_, rfl, m, dx, _, rfl, s9 _ _ mH, rfl, _, rfl, _, rfl, m, p1, p3, bs1, bs3, rfl, d1.same s9, d3.same s9, by omega, by omega, wf1, wf3, fun H10 s10 => ⟨_, rfl, rfl, _, rfl, ite2 (fun e => absurd e (by simp)) (fun _ => ?_)⟩⟩
        have sI := s9.trans s10
        refine ⟨_, rfl, m, dx, _, rfl, sI _ _ mH, rfl, _, rfl, _, rfl, m, p1, p3, bs1, bs3, rfl, d1.same sI, d3.same sI, by omega, by omega, wf1, wf3, fun H11 s11 => ⟨_, rfl, rfl, _, rfl, ite2 (fun e => absurd e (by simp)) (fun _ => ?_)⟩⟩
        have sJ := sI.trans s11
        -- penalty
        refine ⟨_, rfl, m, dx, _, rfl, sJ _ _ mH, rfl, _, rfl, _, rfl, m, p1, p2, bs1, bs2, rfl, d1.same sJ, d2.same sJ, by omega, by omega, fun H12 s12 => ?_⟩
        have sK := sJ.trans s12
        refine ⟨_, rfl, _, rfl, p1, p2, bs1, bs2, rfl, d1.same sK, d2.same sK, by omega, by omega, fun t3 H13 s13 bt3 => ⟨t3, _, rfl, bt3, by rw [hull_len (by omega)]; omega, fun H14 s14 => ?_⟩⟩
        have sL := (sK.trans s13).trans s14
        refine ⟨_, rfl, p1, bs1, rfl, d1.same sL, by omega, fun H15 s15 => ⟨_, _, rfl, rfl, rfl, _, rfl, ite2 (fun e => absurd e (by simp)) (fun _ => ?_)⟩⟩
        have sM := sL.trans s15
        -- distance, bound
        refine ⟨_, rfl, m, dx, _, rfl, sM _ _ mH, rfl, _, rfl, _, rfl, m, p1, sp, bs1, ns, rfl, d1.same sM, sM _ _ hspH, by omega, by omega, fun H16 s16 => ?_⟩
        have sN := sM.trans s16
        refine ⟨_, rfl, _, rfl, p1, sp, bs1, ns, rfl, d1.same sN, sN _ _ hspH, by omega, by omega, fun H17 s17 => ⟨rfl, _, rfl, ite2 (fun e => absurd e (by simp)) (fun _ => ?_)⟩⟩
        have sO := sN.trans s17
        refine ⟨_, rfl, m, dx, _, rfl, sO _ _ mH, rfl, _, rfl, _, rfl, m, p2, sp, bs2, ns, rfl, d2.same sO, sO _ _ hspH, by omega, by omega, fun H18 s18 => ?_⟩
        have sP := sO.trans s18
        refine ⟨_, rfl, _, rfl, p2, sp, bs2, ns, rfl, d2.same sP, sP _ _ hspH, by omega, by omega, fun H19 s19 => ⟨rfl, _, rfl, ite2 (fun e => absurd e (by simp)) (fun _ => ?_)⟩⟩
        have sQ := sP.trans s19
        exact ⟨_, _, _, _, _, _, _, _, _, _, rfl, kH.trans (.same sQ), sQ _ _ mH, sQ _ _ aH⟩
    · rintro σ H1 ⟨v4, v5, v6, v7, v8, v9, v10, v11, x', c', rfl, kA, mA, aA⟩
      refine ⟨_, rfl, a, x', c', 12, rfl, aA, by decide, .of (k := 4) (by decide) (by decide), fun r x2 c2 r0 r1 => ⟨2, r, rfl, rfl, ?_⟩⟩
      obtain ⟨i, rfl⟩ := Int.eq_ofNat_of_zero_le r0
      have i12 : i < 12 := by omega
      have kB := kA.trans (Kp.set (o := .lst [.int x2, .int c2]))
      have mB := (Kp.set (o := .lst [.int x2, .int c2])) _ _ hma mA
      have aB : (upd H1 a (.lst [.int x2, .int c2])) a = some (.lst [.int x2, .int c2]) := upd_same
      generalize upd H1 a (.lst [.int x2, .int c2]) = H2 at kB mB aB
      refine ⟨_, rfl, by omega, by omega, fun D nD => ?_⟩
      have Da : D ≠ a := fun z => by
        rw [z, aB] at nD
        cases nD
      refine lc_range (lo := 0) (n := 2 + i) (fun t H' => ∃ (ps : List Addr) (bss : List Bx) (x' c' : Int), H' D = some (.lst (ps.map V.ref)) ∧ ps.length = t ∧ Rows H' w ps bss ∧ Kp a H2 H' ∧ H' a = some (.lst [.int x', .int c'])) ⟨[], [], x2, c2, upd_same, rfl, .nil, .same (same_upd nD), same_upd nD _ _ aB⟩ ?_ ?_
      · rintro t H3 ht ⟨ps, bss, x3, c3, hD, hl, pp, kC, aC⟩
        refine ⟨rfl, ?_⟩
        refine ⟨_, rfl, _, rfl, _, rfl, a, sz, x3, c3, w, rfl, aC, z0, zz1, zz2, w6, fun H4 p bs x4 c4 kD aD hp np l' wf => ?_⟩
        have hD4 := kD _ _ Da hD
        refine ⟨_, hD4, by rw [List.length_map]; exact small1000 (by omega), ps ++ [p], bss ++ [bs], x4, c4, ?_, by rw [List.length_append, hl]; rfl, ?_, ?_, ?_⟩
        · rw [upd_same, List.map_append]
          rfl
        · refine .snoc (Paired.mapP pp fun q b z => ⟨?_, z.2⟩) ⟨hp.kp (a := D) (Kp.set (a := D)) hD4, l'⟩
          exact (z.1.kp kD aC).kp (a := D) (Kp.set (a := D)) hD4
        · exact fun b o nb e => by
            rw [upd_ne (ne_of_none e nD)]
            exact kD _ _ nb (kC _ _ nb e)
        · rw [upd_ne (Ne.symm Da)]
          exact aD
      · rintro H3 ⟨ps, bss, x3, c3, hD, hl, pp, kC, aC⟩
        have mC := kC _ _ hma mB
        refine ⟨_, rfl, m, dx, _, rfl, mC, rfl, _, rfl, m, D, ps, bss, w, rfl, ⟨dx, mC⟩, hD, pp, by omega, by omega, w1, w6, SL.Tabs.kp hT ha (kB.trans kC), fun k1' R H4 f1 s1 tt hR => ⟨R, _, rfl, .inl (.inl (.inl hR)), fun l nl => ?_⟩⟩
        have s2 := s1.trans (SL.ExtN.of_same (same_upd (o := .lst ((halvesOf (mids bss k1')).map V.int)) nl))
        have t2 := SL.Tabs.same tt (same_upd (o := .lst ((halvesOf (mids bss k1')).map V.int)) nl)
        have hlL : (upd H4 l (.lst ((halvesOf (mids bss k1')).map V.int))) l = some (.lst ((halvesOf (mids bss k1')).map V.int)) := upd_same
        generalize upd H4 l (.lst ((halvesOf (mids bss k1')).map V.int)) = H5 at s2 t2 hlL
        have hD5 := s2 _ _ hD (fun _ z => by cases z)
        have a5 := s2 _ _ aC (fun _ z => by cases z)
        have pp5 : Rows H5 w ps bss := Paired.mapP pp fun q b z => ⟨by
          obtain ⟨⟨qs, h1, h2⟩, _⟩ := z
          exact ⟨qs, s2 _ _ h1 (fun _ z => by cases z), Paired.mapP h2 fun q' n' z' => s2 _ _ z' (fun _ z => by cases z)⟩, z.2⟩
        refine ⟨_, rfl, _, rfl, D, ps, bss, w, rfl, hD5, pp5, by omega, by omega, w1, w6, fun k2' R2 H6 f2 s3 hR2 => ?_⟩
        obtain rfl : k1' = k2' := f1.eq f2
        refine ⟨l, R2, _, rfl, rfl, .inl (.inl (s3 _ _ hlL)), .inl (.inl hR2), fun v hv => ?_, true, rfl, iteT ?_⟩
        · obtain ⟨n, _, rfl⟩ := List.mem_map.mp hv
          exact okV_int _
        · have kZ : SL.KpN a H H6 := (SL.KpN.of (kB.trans kC)).trans (SL.KpN.ext (s2.trans (SL.ExtN.of_same s3)))
          have tZ := SL.Tabs.same t2 s3
          have aZ := s3 _ _ a5
          refine ⟨_, rfl, _, rfl, _, rfl, a, sz, x3, c3, w, rfl, aZ, z0, zz1, w1, w6, fun H7 kY => ?_⟩
          exact q H7 (kZ.trans (SL.KpN.of kY)) (SL.Tabs.kp tZ aZ kY)
end
end K12
set_option Elab.async false
set_option linter.all false
set_option maxRecDepth 100000
set_option maxHeartbeats 2000000
namespace K12
open PySem PySem.Spec PyProof.Rows L2 CM WD LamX
section
variable {P : Program} {w : World} {K : PySem.W.Frag} {mg : Str → Option Value} {base : Heap}
/-! ### what is no number of dimensions -/
def OddV (K : PySem.W.Frag) (H : Hp) (v : V) : Prop := Bad K H v ∧ ∃ d : PyData, RZ.Says H v d ∧ d.showable = true ∧ d.depth ≤ 80 ∧ d.shown.length ≤ sizeLine
theorem bad_of {H : Hp} {v : V} {t : String} {bi bb : Bool} (ty : TyX K H v (.type t)) (k1 : L2.kitB t "int" = some bi) (k2 : bi = true → L2.kitB t "bool" = some bb) (h : (bi && !bb) = true → ∃ i : Int, v = .int i ∧ ¬ (1 ≤ i ∧ i ≤ 6)) : Bad K H v :=
  ⟨_, bi, bb, ty, kit_ty k1, fun e => kit_ty (k2 e), h⟩
theorem odd_int {H : Hp} {i : Int} (h : ¬ (1 ≤ i ∧ i ≤ 6)) (hz : (PyData.int i).showable = true) (hl : (PyData.int i).shown.length ≤ sizeLine) : OddV K H (.int i) :=
  ⟨bad_of (.base (.int i)) (bi := true) (bb := false) (by decide +kernel) (fun _ => by decide +kernel) fun _ => ⟨i, rfl, h⟩, _, .inl (.int i), hz, by simp [PyData.depth], hl⟩
theorem odd_all {H : Hp} {p1 p2 p3 : Addr} (h1 : H p1 = some (.tup [.int 2])) (h2 : H p2 = some (.lst [])) (h3 : H p3 = some (.dK [])) :
    ∀ v ∈ [V.int 0, .int 7, .int (-1), .bl true, .non, .str "2", .ref p1, .ref p2, .ref p3, .int (10 ^ 20)], OddV K H v := fun v hv => by
  have nf : ∀ {p : Bool}, (false && p) = true → ∀ {q : Prop}, q := fun h => by cases h
  rcases List.mem_cons.mp hv with rfl | hv
  · exact odd_int (by decide) (by decide +kernel) (by decide +kernel)
  rcases List.mem_cons.mp hv with rfl | hv
  · exact odd_int (by decide) (by decide +kernel) (by decide +kernel)
  rcases List.mem_cons.mp hv with rfl | hv
  · exact odd_int (by decide) (by decide +kernel) (by decide +kernel)
  rcases List.mem_cons.mp hv with rfl | hv
  · exact ⟨bad_of (.base (.bl true)) (bi := true) (bb := true) (by decide +kernel) (fun _ => by decide +kernel) (fun e => by cases e), _, .inl (.bl true), by decide +kernel, by decide, by decide +kernel⟩
  rcases List.mem_cons.mp hv with rfl | hv
  · exact ⟨bad_of (.base .non) (bi := false) (bb := false) (by decide +kernel) (fun e => by cases e) (fun e => by cases e), _, .inl .non, by decide +kernel, by decide, by decide +kernel⟩
  rcases List.mem_cons.mp hv with rfl | hv
  · exact ⟨bad_of (.base (.str _)) (bi := false) (bb := false) (by decide +kernel) (fun e => by cases e) (fun e => by cases e), _, .inl (.str _), by decide +kernel, by decide, by decide +kernel⟩
  rcases List.mem_cons.mp hv with rfl | hv
  · exact ⟨bad_of (.base (.tup h1)) (bi := false) (bb := false) (by decide +kernel) (fun e => by cases e) (fun e => by cases e), _, .inl (.tup h1 (.cons (.int 2) .nil)), by decide +kernel, by decide, by decide +kernel⟩
  rcases List.mem_cons.mp hv with rfl | hv
  · exact ⟨bad_of (.base (.lst h2)) (bi := false) (bb := false) (by decide +kernel) (fun e => by cases e) (fun e => by cases e), _, .inl (.lst h2 .nil), by decide +kernel, by decide, by decide +kernel⟩
  rcases List.mem_cons.mp hv with rfl | hv
  · exact ⟨bad_of (.base (.dK h3)) (bi := false) (bb := false) (by decide +kernel) (fun e => by cases e) (fun e => by cases e), _, .inr ⟨p3, rfl, h3, rfl⟩, by decide +kernel, by decide, by decide +kernel⟩
  rcases List.mem_cons.mp hv with rfl | hv
  · exact odd_int (by decide +kernel) (by decide +kernel) (by decide +kernel)
  · cases hv
def spOdd : Sp := fun vs H Q _ => vs = [] ∧ ∀ H', Same H H' → Q (.bl true) H'
theorem ok_odd {f C CB f_S p_w g_w : Addr} {fd fd_S fd_w : FuncData} {k : Nat} {ds8 : List Value} (F : FnP K "_law_odd_right" "_law_odd_right" s_law_odd_right f fd) (m_repr : mg "repr" = none) (cl_C : Cls K C) (m_BadValue : mg "BadValue" = some (.ref CB))
    (XF : XfC K CB) (nV : PySem.W.findIn K (.ref CB) "value" = some none) (te : PySem.W.exmOne K (.ref CB) (.ref CB) = some true)
    (M_S : Mk K C f_S) (G_S : FnOk P w K mg base (L2.CX P w) k f_S fd_S ["self", "dimensions"] (spMakeX K C CB)) (m_S : mg "Boxes" = some (.ref C)) (b_S : Binds K fd_S ["self", "dimensions"] []) (b_S8 : Binds K fd_S ["self", "dimensions"] ds8) (r_S8 : Vals [V.int 2] ds8)
    (pr_w : PropOf K C "dimensions" p_w g_w) (G_w : FnOk P w K mg base CX0 1 g_w fd_w ["self"] (getSp C "axes")) (b_w : Binds K fd_w ["self"] []) :
    GD.FnG P w K mg base CX0 (k + 3) f fd [] spOdd := by
  refine GD.okG F sc_law_odd_right (fun vs H Q E h => ?_) (fun cdv A outer s H vs Q E hr gd h => ?_)
  · obtain ⟨rfl, _⟩ := h
    rfl
  · obtain ⟨rfl, q⟩ := h
    have hu : (A.deeper (envOfC "_law_odd_right" (defScope s_law_odd_right) s.heap.objs.size f cdv)).units + 90 < cLine := by
      have := hr.un
      omega
    refine ⟨_, PSs.nox (pss_cons (ps_for PassesOwn.never rfl (pi_tup (pe_tup (pa_cons pe_int (pa_cons pe_int (pa_cons (pe_un un_neg pe_int) (pa_cons pe_bl (pa_cons pe_non (pa_cons pe_str (pa_cons (pe_tup (pa_cons pe_int pa_nil)) (pa_cons (pe_lst (pa_nil)) (pa_cons pe_dnewK (pa_cons (pe_op op_pow pe_int pe_int) pa_nil)))))))))))) (pg_name (i := 0) sc_law_odd_right.nd rfl (.inl rfl))
      (pss_cons (ps_set (i := 1) sc_law_odd_right.nd rfl (.inl rfl) pe_str)
      (pss_cons (ps_try_as (i := 2) rfl rfl sc_law_odd_right.nd rfl rfl ⟨rfl, by decide, .inl m_BadValue⟩ LamX.takes0 (fun W pn xe tk _ => pss_one (ps_expr (RZ.pe_makeS M_S G_S (hr.mono (by omega)) (by rfl) m_S b_S (fun σ => passAt tk σ) (pa_cons (pv 0) pa_nil)))) (fun a oe cls d pn hz hf => pss_one (ps_set (i := 1) sc_law_odd_right.nd rfl (.inl rfl) (pe_callB (RZ.call_reprD gd hu) (by rfl) m_repr (by decide +kernel) (pa_cons (pe_xf XF nV hz hf (pv 2)) pa_nil)))))
      (pss_one (ps_if (pt_cmpR op_ne (pv 1) (pe_callB (RZ.call_reprD gd hu) (by rfl) m_repr (by decide +kernel) (pa_cons (pv 0) pa_nil)) (nomark _)) (pss_one (ps_ret pe_bl)) (pss_nil))))))
    (pss_one (ps_ret (pe_cmpR op_eq (pe_prop (pe_make0 M_S G_S (hr.mono (by omega)) (by rfl) m_S b_S8 r_S8 passF) cl_C pr_w G_w (hr.mono (by omega)) b_w .nil pass0 rfl) pe_int (nomark _))))), ?_⟩
    refine ⟨1, rfl, by show 1 ≤ sizeLine; decide, fun p1 n1 => ⟨by show 0 ≤ sizeLine; decide, fun p2 n2 p3 n3 => ⟨10, 20, rfl, rfl, ⟨by decide, by decide, by decide⟩, by show 10 ≤ sizeLine; decide, fun pt nt => ?_⟩⟩⟩
    have s1 := same_upd (o := .tup [V.int 2]) n1
    have s2 := same_upd (o := .lst []) n2
    have s3 := same_upd (o := .dK []) n3
    obtain ⟨xs, hxs⟩ : ∃ xs : List V, xs = [V.int 0, .int 7, .int (-1), .bl true, .non, .str "2", .ref p1, .ref p2, .ref p3, .int (10 ^ Int.toNat 20)] := ⟨_, rfl⟩
    try dsimp only
    rw [← hxs]
    have s4 := same_upd (o := .tup xs) nt
    have h1 := s4 _ _ (s3 _ _ (s2 _ _ (upd_same (H := H) (a := p1) (o := .tup [V.int 2]))))
    have h2 := s4 _ _ (s3 _ _ (upd_same (H := upd H p1 (.tup [V.int 2])) (a := p2) (o := .lst [])))
    have h3 := s4 _ _ (upd_same (H := upd (upd H p1 (.tup [V.int 2])) p2 (.lst [])) (a := p3) (o := .dK []))
    have sA := s1.trans (s2.trans (s3.trans s4))
    have ht : (upd (upd (upd (upd H p1 (.tup [V.int 2])) p2 (.lst [])) p3 (.dK [])) pt (.tup xs)) pt = some (.tup xs) := upd_same
    generalize upd (upd (upd (upd H p1 (.tup [V.int 2])) p2 (.lst [])) p3 (.dK [])) pt (.tup xs) = G at h1 h2 h3 sA ht
    refine ⟨pt, rfl, ⟨_, .inl (.inl ht)⟩, ?_⟩
    refine for_tup (K := K) (a := pt) (xs := xs) (σ := L2.start n_law_odd_right []) (H := G) (D := { nx := _, rt := Q }) (fun i σ H' => Same G H' ∧ ∃ v0 v1 v2 : Option V, σ = [v0, v1, v2]) ?_ ?_ ?_ ?_
    · exact ⟨Same.refl _, none, none, none, rfl⟩
    · rintro i σ H' _ ⟨sg, _⟩
      exact .inl (.inl (sg _ _ ht))
    · rintro i v σ H' hv ⟨sg, v0, v1, v2, rfl⟩
      have hm : v ∈ [V.int 0, .int 7, .int (-1), .bl true, .non, .str "2", .ref p1, .ref p2, .ref p3, .int (10 ^ 20)] := by
        have z := List.mem_of_getElem? hv
        rw [hxs] at z
        exact z
      have od : ∀ {H'' : Hp}, Same H' H'' → OddV K H'' v := fun {H''} s => odd_all (s _ _ (sg _ _ h1)) (s _ _ (sg _ _ h2)) (s _ _ (sg _ _ h3)) v hm
      refine ⟨_, rfl, fun x dx nx ndx ne => ?_⟩
      have sx : Same H' (upd (upd H' dx (.own x)) x (.ins C dx [])) := fun b o e => by
        rw [upd_ne (ne_of_none e nx), upd_ne (ne_of_none e ndx)]
        exact e
      refine ⟨x, dx, v, rfl, upd_same, .inr ⟨(od sx).1, fun d H2 nd s2 hd => ?_⟩⟩
      have sB := sx.trans s2
      obtain ⟨_, pd, says, z1, z2, z3⟩ := od sB
      refine ⟨true, te, fun _ a na => ?_, fun e => by cases e⟩
      refine ⟨_, rfl, rfl, rfl, d, _, v, rfl, hd, rfl, v, pd, rfl, says, z1, z2, z3, ?_⟩
      refine ⟨_, rfl, _, rfl, v, pd, rfl, says, z1, z2, z3, rfl, _, rfl, ite2 (fun e => absurd e (by simp)) (fun _ => ⟨sg.trans sB, _, _, _, rfl⟩)⟩
    · rintro σ H' ⟨sg, v0, v1, v2, rfl⟩
      refine fun x dx nx ndx ne => ⟨x, dx, .int 2, rfl, upd_same, .inl ⟨2, rfl, by decide, by decide, rfl, ?_⟩⟩
      refine ⟨x, dx, _, rfl, upd_same, x, dx, _, _, rfl, upd_same, rfl, rfl, ?_⟩
      refine q _ (sA.trans (sg.trans fun b o e => ?_))
      rw [upd_ne (ne_of_none e nx), upd_ne (ne_of_none e nx), upd_ne (ne_of_none e ndx)]
      exact e
theorem cut_mem {xs : List V} {lo hi : Option Int} {v : V} (h : v ∈ cutV xs lo hi) : v ∈ xs := List.mem_of_mem_drop (List.mem_of_mem_take h)
def spLaw (K : PySem.W.Frag) : Sp := fun vs H Q _ => ∃ (a : Addr) (ns : List Int), vs = [.ref a] ∧ SqL K H a (ns.map V.int) ∧ ns.length ≤ 63 ∧ Tabs (TT K) H ∧ ∀ H', Q (.bl true) H'
theorem ok_law {f : Addr} {fd : FuncData} {k : Nat} (F : FnP K "law" "law" s_law f fd) (C_well : Cal P w K mg base CX0 "_law_well" k ["_law_cell"] spWell) (C_right : Cal P w K mg base CX0 "_law_right" k ["_law_well_here"] (spRight K))
    (C_odd : GD.CalG P w K mg base CX0 "_law_odd_right" k [] spOdd) : GD.FnG P w K mg base CX0 (k + 1) f fd ["_law_script"] (spLaw K) := by
  obtain ⟨f_law_well, fd_law_well, G_law_well, b_law_well, m_law_well, k_law_well⟩ := C_well
  obtain ⟨f_law_right, fd_law_right, G_law_right, b_law_right, m_law_right, k_law_right⟩ := C_right
  obtain ⟨f_law_odd_right, fd_law_odd_right, G_law_odd_right, b_law_odd_right, m_law_odd_right, k_law_odd_right⟩ := C_odd
  refine GD.okG F sc_law (fun vs H Q E h => ?_) (fun cdv A outer s H vs Q E hr gd h => ?_)
  · obtain ⟨a, ns, rfl, _⟩ := h
    rfl
  · obtain ⟨a, ns, rfl, ha, hz, hT, q⟩ := h
    refine ⟨_, PSs.nox (pss_cons (ps_for PassesOwn.never rfl (pi_list (pe_op op_cat (pe_slice sl_list (pv 0) po_none (po_some pe_int)) (pe_lst (pa_cons pe_int pa_nil)))) (pg_name (i := 1) sc_law.nd rfl (.inl rfl))
      (pss_one (ps_if (pt_not (pt_val (pe_call G_law_right (hr.mono (by omega)) (by rfl) m_law_right k_law_right b_law_right .nil pass0 (pa_cons (pe_call G_law_well (hr.mono (by omega)) (by rfl) m_law_well k_law_well b_law_well .nil pass0 (pa_cons (pv 1) pa_nil)) pa_nil)))) (pss_one (ps_ret pe_bl)) (pss_nil))))
    (pss_one (ps_ret (GD.pe_callG0 G_law_odd_right (hr.mono (by omega)) gd (by rfl) m_law_odd_right k_law_odd_right b_law_odd_right .nil pass0)))), ?_⟩
    refine ⟨_, rfl, 4, rfl, a, _, rfl, ha, fun c nc => ⟨by show 1 ≤ sizeLine; decide, fun d nd => ?_⟩⟩
    have hc : (upd (upd H c (.lst (cutV (ns.map V.int) none (some 4)))) d (.lst [V.int 0])) c = some (.lst (cutV (ns.map V.int) none (some 4))) := by
      rw [upd_ne (ne_of_none upd_same nd), upd_same]
    have hl : (cutV (ns.map V.int) none (some 4)).length ≤ 63 := Nat.le_trans (cutV_length ..) (by rw [List.length_map]; exact hz)
    refine ⟨c, d, _, _, rfl, rfl, hc, upd_same, Nat.le_of_lt (small1000 (by rw [List.length_singleton]; omega)), fun e ne => ?_⟩
    generalize hX : cutV (ns.map V.int) none (some 4) ++ [V.int 0] = X
    have hXi : ∀ v ∈ X, ∃ z : Int, v = .int z := fun v hv => by
      rw [← hX] at hv
      rcases List.mem_append.mp hv with h1 | h1
      · obtain ⟨z, _, rfl⟩ := List.mem_map.mp (cut_mem h1)
        exact ⟨z, rfl⟩
      · exact ⟨0, List.mem_singleton.mp h1⟩
    have hT1 := SL.Tabs.same hT ((same_upd (o := .lst (cutV (ns.map V.int) none (some 4))) nc).trans (same_upd (o := .lst [V.int 0]) nd))
    generalize upd (upd H c (.lst (cutV (ns.map V.int) none (some 4)))) d (.lst [V.int 0]) = H1 at ne hT1
    refine ⟨e, rfl, ⟨X, .inl (.inl upd_same)⟩, ?_⟩
    refine for_list (K := K) (a := e) (xs := X) (fun i σ H' => ∃ v1 : Option V, σ = [some (.ref a), v1] ∧ H' e = some (.lst X) ∧ Tabs (TT K) H') ?_ (fun i σ H' _ ⟨_, _, he, _⟩ => .inl (.inl he)) ?_ ?_
    · exact ⟨none, rfl, upd_same, SL.Tabs.same hT1 (same_upd ne)⟩
    · rintro i y σ H2 hi ⟨v1, rfl, he, hTi⟩
      obtain ⟨z, rfl⟩ := hXi y (List.mem_of_getElem? hi)
      refine ⟨_, rfl, z, rfl, fun p np => ⟨p, z, 0, rfl, upd_same, SL.Tabs.same hTi (same_upd np), fun H3 kp hT3 => ⟨_, rfl, ite2 (fun e => absurd e (by decide)) (fun _ => ⟨_, rfl, ?_⟩)⟩⟩⟩
      have hpe : e ≠ p := ne_of_none he np
      exact ⟨kp _ _ hpe (fun _ z => by cases z) (same_upd np _ _ he), hT3⟩
    · rintro σ H2 ⟨v1, rfl, he, _⟩
      exact ⟨rfl, fun H' _ => q H'⟩
end
end K12
set_option Elab.async false
set_option linter.all false
set_option maxRecDepth 100000
set_option maxHeartbeats 2000000
namespace K12
open PySem PySem.Spec PyProof.Rows L2 CM WD LamX
section
variable {P : Program} {w : World} {K : PySem.W.Frag} {mg : Str → Option Value} {base : Heap}
/-! ### the head -/
def d_BadValue___init : He.DefD := ⟨("BadValue", some "__init__"), "__init__", "BadValue.__init__", defArgs s_BadValue___init, defBody s_BadValue___init, defScope s_BadValue___init, [], []⟩
def d_halves_by : He.DefD := ⟨("halves_by", none), "halves_by", "halves_by", defArgs s_halves_by, defBody s_halves_by, defScope s_halves_by, [], []⟩
def d_is_int : He.DefD := ⟨("is_int", none), "is_int", "is_int", defArgs s_is_int, defBody s_is_int, defScope s_is_int, [], []⟩
def d_Boxes___init : He.DefD := ⟨("Boxes", some "__init__"), "__init__", "Boxes.__init__", defArgs s_Boxes___init, defBody s_Boxes___init, defScope s_Boxes___init, [.int 2], []⟩
def d_Boxes_own : He.DefD := ⟨("Boxes", some "own"), "own", "Boxes.own", defArgs s_Boxes_own, defBody s_Boxes_own, defScope s_Boxes_own, [], []⟩
def d_Boxes_join : He.DefD := ⟨("Boxes", some "join"), "join", "Boxes.join", defArgs s_Boxes_join, defBody s_Boxes_join, defScope s_Boxes_join, [], []⟩
def d_Boxes_consistent : He.DefD := ⟨("Boxes", some "consistent"), "consistent", "Boxes.consistent", defArgs s_Boxes_consistent, defBody s_Boxes_consistent, defScope s_Boxes_consistent, [], []⟩
def d_Boxes_matches : He.DefD := ⟨("Boxes", some "matches"), "matches", "Boxes.matches", defArgs s_Boxes_matches, defBody s_Boxes_matches, defScope s_Boxes_matches, [], []⟩
def d_Boxes_penalty : He.DefD := ⟨("Boxes", some "penalty"), "penalty", "Boxes.penalty", defArgs s_Boxes_penalty, defBody s_Boxes_penalty, defScope s_Boxes_penalty, [], []⟩
def d_Boxes_sides : He.DefD := ⟨("Boxes", some "sides"), "sides", "Boxes.sides", defArgs s_Boxes_sides, defBody s_Boxes_sides, defScope s_Boxes_sides, [], []⟩
def d_Boxes_distance : He.DefD := ⟨("Boxes", some "distance"), "distance", "Boxes.distance", defArgs s_Boxes_distance, defBody s_Boxes_distance, defScope s_Boxes_distance, [], []⟩
def d_Boxes_bound : He.DefD := ⟨("Boxes", some "bound"), "bound", "Boxes.bound", defArgs s_Boxes_bound, defBody s_Boxes_bound, defScope s_Boxes_bound, [], []⟩
def d_hull : He.DefD := ⟨("hull", none), "hull", "hull", defArgs s_hull, defBody s_hull, defScope s_hull, [], []⟩
def d_share_integer : He.DefD := ⟨("share_integer", none), "share_integer", "share_integer", defArgs s_share_integer, defBody s_share_integer, defScope s_share_integer, [], []⟩
def d_width_of : He.DefD := ⟨("width_of", none), "width_of", "width_of", defArgs s_width_of, defBody s_width_of, defScope s_width_of, [], []⟩
def d_gap : He.DefD := ⟨("gap", none), "gap", "gap", defArgs s_gap, defBody s_gap, defScope s_gap, [], []⟩
def d_hull_of_boxes : He.DefD := ⟨("hull_of_boxes", none), "hull_of_boxes", "hull_of_boxes", defArgs s_hull_of_boxes, defBody s_hull_of_boxes, defScope s_hull_of_boxes, [], []⟩
def d_share_point : He.DefD := ⟨("share_point", none), "share_point", "share_point", defArgs s_share_point, defBody s_share_point, defScope s_share_point, [], []⟩
def d_widths_of : He.DefD := ⟨("widths_of", none), "widths_of", "widths_of", defArgs s_widths_of, defBody s_widths_of, defScope s_widths_of, [], []⟩
def d_gaps : He.DefD := ⟨("gaps", none), "gaps", "gaps", defArgs s_gaps, defBody s_gaps, defScope s_gaps, [], []⟩
def d_are_points : He.DefD := ⟨("are_points", none), "are_points", "are_points", defArgs s_are_points, defBody s_are_points, defScope s_are_points, [], []⟩
def d_law_well : He.DefD := ⟨("_law_well", none), "_law_well", "_law_well", defArgs s_law_well, defBody s_law_well, defScope s_law_well, [], []⟩
def d_law_draw : He.DefD := ⟨("_law_draw", none), "_law_draw", "_law_draw", defArgs s_law_draw, defBody s_law_draw, defScope s_law_draw, [], []⟩
def d_law_one : He.DefD := ⟨("_law_one", none), "_law_one", "_law_one", defArgs s_law_one, defBody s_law_one, defScope s_law_one, [], []⟩
def d_law_span : He.DefD := ⟨("_law_span", none), "_law_span", "_law_span", defArgs s_law_span, defBody s_law_span, defScope s_law_span, [], []⟩
def d_law_box : He.DefD := ⟨("_law_box", none), "_law_box", "_law_box", defArgs s_law_box, defBody s_law_box, defScope s_law_box, [], []⟩
def d_law_joined : He.DefD := ⟨("_law_joined", none), "_law_joined", "_law_joined", defArgs s_law_joined, defBody s_law_joined, defScope s_law_joined, [], []⟩
def d_law_meets : He.DefD := ⟨("_law_meets", none), "_law_meets", "_law_meets", defArgs s_law_meets, defBody s_law_meets, defScope s_law_meets, [], []⟩
def d_law_wide : He.DefD := ⟨("_law_wide", none), "_law_wide", "_law_wide", defArgs s_law_wide, defBody s_law_wide, defScope s_law_wide, [], []⟩
def d_law_far : He.DefD := ⟨("_law_far", none), "_law_far", "_law_far", defArgs s_law_far, defBody s_law_far, defScope s_law_far, [], []⟩
def d_law_sides : He.DefD := ⟨("_law_sides", none), "_law_sides", "_law_sides", defArgs s_law_sides, defBody s_law_sides, defScope s_law_sides, [], []⟩
def d_law_around_right : He.DefD := ⟨("_law_around_right", none), "_law_around_right", "_law_around_right", defArgs s_law_around_right, defBody s_law_around_right, defScope s_law_around_right, [], []⟩
def d_law_odd_right : He.DefD := ⟨("_law_odd_right", none), "_law_odd_right", "_law_odd_right", defArgs s_law_odd_right, defBody s_law_odd_right, defScope s_law_odd_right, [], []⟩
def d_law_right : He.DefD := ⟨("_law_right", none), "_law_right", "_law_right", defArgs s_law_right, defBody s_law_right, defScope s_law_right, [], []⟩
def d_law : He.DefD := ⟨("law", none), "law", "law", defArgs s_law, defBody s_law, defScope s_law, [], []⟩
def fn : List He.DefD := [d_BadValue___init, d_halves_by, d_is_int, d_Boxes___init, d_Boxes_own, d_Boxes_join, d_Boxes_consistent, d_Boxes_matches, d_Boxes_penalty, d_Boxes_sides, d_Boxes_distance, d_Boxes_bound, d_hull, d_share_integer, d_width_of, d_gap, d_hull_of_boxes, d_share_point, d_widths_of, d_gaps, d_are_points, d_law_well, d_law_draw, d_law_one, d_law_span, d_law_box, d_law_joined, d_law_meets, d_law_wide, d_law_far, d_law_sides, d_law_around_right, d_law_odd_right, d_law_right, d_law]
def fa : List He.Fa := [.glo "halves_by", .glo "is_int", .glo "hull", .glo "share_integer", .glo "width_of", .glo "gap", .glo "hull_of_boxes", .glo "share_point", .glo "widths_of", .glo "gaps", .glo "are_points", .glo "_law_well", .glo "_law_draw", .glo "_law_one", .glo "_law_span", .glo "_law_box", .glo "_law_joined", .glo "_law_meets", .glo "_law_wide", .glo "_law_far", .glo "_law_sides", .glo "_law_around_right", .glo "_law_odd_right", .glo "_law_right", .glo "law", .glo "Boxes", .cls "Boxes", .meth "Boxes" "__init__", .meth "Boxes" "own", .meth "Boxes" "join", .meth "Boxes" "consistent", .meth "Boxes" "matches", .meth "Boxes" "penalty", .meth "Boxes" "sides", .meth "Boxes" "distance", .meth "Boxes" "bound", .glo "BadValue", .free "int", .free "len", .free "range", .free "max", .free "min", .free "list", .free "tuple", .free "enumerate", .free "sorted", .free "sum", .free "all", .free "zip", .free "repr", .free "bool", .free "isinstance", .int "MOST_DIMENSIONS" 6, .mkr "Boxes", .noat "Boxes" "axes"]
def loose : List PySem.Str := ["GroveError", "BadValue", "NotGiven", "halves_by", "Kind", "Measured", "is_int", "MOST_DIMENSIONS", "Boxes", "hull", "share_integer", "width_of", "gap", "hull_of_boxes", "share_point", "widths_of", "gaps", "are_points", "_law_well", "_law_draw", "_law_one", "_law_span", "_law_box", "_law_joined", "_law_meets", "_law_wide", "_law_far", "_law_sides", "_law_around_right", "_law_odd_right", "_law_right"]
def ex (K : PySem.W.Frag) : Bool := OX.errB K (He.ga K "BadValue") "value" && (PR.propB K (He.ga K "Boxes") "dimensions" "axes" && SM.staB K (He.ga K "Boxes") "around")
abbrev R : PySem.W.OpenRow := PySem.W.OpenLaw.row PySem.Challenge.rw_kindgrove_k12_boxes
def tf : List He.Defn := [("halves_by", none)]
def da : List He5.DefA := [⟨fun K => SM.staF K (He.ga K "Boxes") "around", "around", "Boxes.around", defArgs s_Boxes_around, defBody s_Boxes_around, defScope s_Boxes_around, [], []⟩]
abbrev hk : PySem.W.Hook := SM.hookZ 6 fa fn tf da ex
def ob (s : PySem.W.SharedT) : SM.AlZ := SM.obsZ 6 fa fn tf da ex (HandSHeadRun.getT s)
theorem ob_eq (s : PySem.W.SharedT) : ob s = hk.obs s.abs := SM.obsZ_eq (HandSHeadRun.getT_eq s)
theorem run (w : World) : HandSHeadRun.RunEq R (PySem.W.view R.prog [37]) hk ob 6000 loose w := by
  intro os
  kernel_rfl
theorem glo {h : Heap} (X : K.In h) (G : h.Ns mainGlobals mg) (c : He.SaysD fa fn K) {x : Str} (hx : He.Fa.glo x ∈ fa) : mg x = some (.ref (He.ga K x)) := He.glo_ok X G (c.facts hx)
theorem fre {h : Heap} (X : K.In h) (G : h.Ns mainGlobals mg) (c : He.SaysD fa fn K) {x : Str} (hx : He.Fa.free x ∈ fa) : mg x = none := He.free_ok X G (c.facts hx)
theorem cal {h : Heap} (X : K.In h) (G : h.Ns mainGlobals mg) (c : He.SaysD fa fn K) {x qn : Str} {st : Stmt} {fd : FuncData} {k : Nat} {ps : List Str} {sp : Sp} (F : FnP K x qn st (He.ga K x) fd)
    (hx : He.Fa.glo x ∈ fa) (ok : FnOk P w K mg base CX0 k (He.ga K x) fd ps sp)
    (hb : ∀ (kV doc pm : Value) (an : Option Addr) (cdv ct : Value) (us : List Value), us.length = ps.length → bindArgs (PySem.W.fnOf x qn (defArgs st) (defBody st) (defScope st) .none kV doc pm an cdv ct) ⟨us, []⟩ = pure (ps.zip us)) : Cal P w K mg base CX0 x k ps sp :=
  ⟨He.ga K x, fd, ok, F.bindsN hb, glo X G c hx, F.kp⟩
theorem calm (c : He.SaysD fa fn K) {C m qn : Str} {st : Stmt} {fd : FuncData} {k : Nat} {ps : List Str} {sp : Sp} (F : FnP K m qn st (He.ma K (He.ga K C) m) fd)
    (hx : He.Fa.meth C m ∈ fa) (ok : FnOk P w K mg base CX0 k (He.ma K (He.ga K C) m) fd ps sp)
    (hb : ∀ (kV doc pm : Value) (an : Option Addr) (cdv ct : Value) (us : List Value), us.length = ps.length → bindArgs (PySem.W.fnOf m qn (defArgs st) (defBody st) (defScope st) .none kV doc pm an cdv ct) ⟨us, []⟩ = pure (ps.zip us)) : CalM P w K mg base CX0 (He.ga K C) m k ps sp :=
  ⟨He.ma K (He.ga K C) m, fd, ok, F.bindsN hb, He.meth_ok (c.facts hx)⟩
theorem tabs_of {H : Hp} (h : ∀ p ∈ tf.map (He.cT K), H p.2 = some (.tbl #[])) : Tabs (TT K) H := fun p hp => by
  rw [List.mem_singleton.mp hp]
  exact TabS.nil (h _ (List.mem_map.mpr ⟨("halves_by", none), List.mem_singleton.mpr rfl, rfl⟩))
theorem facts {h : Heap} {f : Addr} (X : K.In h) (G : h.Ns mainGlobals mg) (hfa : mg ("law" : Str) = some (.ref f)) (c : He.SaysD fa fn K) (m : ex K = true) (dA : ∃ fd, FnP K "around" "Boxes.around" s_Boxes_around (SM.staF K (He.ga K "Boxes") "around") fd) :
    ∃ fd : FuncData, (∀ (s : Shared) (v : Value), BindsTo s fd ⟨[v], []⟩ [("_law_script", v)]) ∧ ∀ base : Heap, K.In base → base.Ns mainGlobals mg → (∀ p ∈ tf.map (He.cT K), TabB base mg p.1 p.2) → GD.FnG P w K mg base CX0 13 f fd ["_law_script"] (spLaw K) := by
  obtain ⟨m1, m⟩ := He.ba m
  obtain ⟨m2, m3⟩ := He.ba m
  have EB := OX.errB_ok m1
  have ST := SM.staB_ok m3
  obtain ⟨fd_A, F_A⟩ := dA
  obtain ⟨fd_law, F_law⟩ : ∃ fd, FnP K "law" "law" s_law (He.ga K "law") fd := c.def_ 34 (d := d_law) rfl
  obtain ⟨fd_law_well, F_law_well⟩ : ∃ fd, FnP K "_law_well" "_law_well" s_law_well (He.ga K "_law_well") fd := c.def_ 21 (d := d_law_well) rfl
  obtain ⟨fd_law_draw, F_law_draw⟩ : ∃ fd, FnP K "_law_draw" "_law_draw" s_law_draw (He.ga K "_law_draw") fd := c.def_ 22 (d := d_law_draw) rfl
  obtain ⟨fd_law_one, F_law_one⟩ : ∃ fd, FnP K "_law_one" "_law_one" s_law_one (He.ga K "_law_one") fd := c.def_ 23 (d := d_law_one) rfl
  obtain ⟨fd_law_span, F_law_span⟩ : ∃ fd, FnP K "_law_span" "_law_span" s_law_span (He.ga K "_law_span") fd := c.def_ 24 (d := d_law_span) rfl
  obtain ⟨fd_law_box, F_law_box⟩ : ∃ fd, FnP K "_law_box" "_law_box" s_law_box (He.ga K "_law_box") fd := c.def_ 25 (d := d_law_box) rfl
  obtain ⟨fd_law_joined, F_law_joined⟩ : ∃ fd, FnP K "_law_joined" "_law_joined" s_law_joined (He.ga K "_law_joined") fd := c.def_ 26 (d := d_law_joined) rfl
  obtain ⟨fd_law_meets, F_law_meets⟩ : ∃ fd, FnP K "_law_meets" "_law_meets" s_law_meets (He.ga K "_law_meets") fd := c.def_ 27 (d := d_law_meets) rfl
  obtain ⟨fd_law_wide, F_law_wide⟩ : ∃ fd, FnP K "_law_wide" "_law_wide" s_law_wide (He.ga K "_law_wide") fd := c.def_ 28 (d := d_law_wide) rfl
  obtain ⟨fd_law_far, F_law_far⟩ : ∃ fd, FnP K "_law_far" "_law_far" s_law_far (He.ga K "_law_far") fd := c.def_ 29 (d := d_law_far) rfl
  obtain ⟨fd_law_sides, F_law_sides⟩ : ∃ fd, FnP K "_law_sides" "_law_sides" s_law_sides (He.ga K "_law_sides") fd := c.def_ 30 (d := d_law_sides) rfl
  obtain ⟨fd_law_around_right, F_law_around_right⟩ : ∃ fd, FnP K "_law_around_right" "_law_around_right" s_law_around_right (He.ga K "_law_around_right") fd := c.def_ 31 (d := d_law_around_right) rfl
  obtain ⟨fd_law_odd_right, F_law_odd_right⟩ : ∃ fd, FnP K "_law_odd_right" "_law_odd_right" s_law_odd_right (He.ga K "_law_odd_right") fd := c.def_ 32 (d := d_law_odd_right) rfl
  obtain ⟨fd_law_right, F_law_right⟩ : ∃ fd, FnP K "_law_right" "_law_right" s_law_right (He.ga K "_law_right") fd := c.def_ 33 (d := d_law_right) rfl
  obtain ⟨fd_is_int, F_is_int⟩ : ∃ fd, FnP K "is_int" "is_int" s_is_int (He.ga K "is_int") fd := c.def_ 2 (d := d_is_int) rfl
  obtain ⟨fd_halves_by, F_halves_by⟩ : ∃ fd, FnP K "halves_by" "halves_by" s_halves_by (He.ga K "halves_by") fd := c.def_ 1 (d := d_halves_by) rfl
  obtain ⟨fd_hull, F_hull⟩ : ∃ fd, FnP K "hull" "hull" s_hull (He.ga K "hull") fd := c.def_ 12 (d := d_hull) rfl
  obtain ⟨fd_share_integer, F_share_integer⟩ : ∃ fd, FnP K "share_integer" "share_integer" s_share_integer (He.ga K "share_integer") fd := c.def_ 13 (d := d_share_integer) rfl
  obtain ⟨fd_width_of, F_width_of⟩ : ∃ fd, FnP K "width_of" "width_of" s_width_of (He.ga K "width_of") fd := c.def_ 14 (d := d_width_of) rfl
  obtain ⟨fd_gap, F_gap⟩ : ∃ fd, FnP K "gap" "gap" s_gap (He.ga K "gap") fd := c.def_ 15 (d := d_gap) rfl
  obtain ⟨fd_hull_of_boxes, F_hull_of_boxes⟩ : ∃ fd, FnP K "hull_of_boxes" "hull_of_boxes" s_hull_of_boxes (He.ga K "hull_of_boxes") fd := c.def_ 16 (d := d_hull_of_boxes) rfl
  obtain ⟨fd_share_point, F_share_point⟩ : ∃ fd, FnP K "share_point" "share_point" s_share_point (He.ga K "share_point") fd := c.def_ 17 (d := d_share_point) rfl
  obtain ⟨fd_widths_of, F_widths_of⟩ : ∃ fd, FnP K "widths_of" "widths_of" s_widths_of (He.ga K "widths_of") fd := c.def_ 18 (d := d_widths_of) rfl
  obtain ⟨fd_gaps, F_gaps⟩ : ∃ fd, FnP K "gaps" "gaps" s_gaps (He.ga K "gaps") fd := c.def_ 19 (d := d_gaps) rfl
  obtain ⟨fd_are_points, F_are_points⟩ : ∃ fd, FnP K "are_points" "are_points" s_are_points (He.ga K "are_points") fd := c.def_ 20 (d := d_are_points) rfl
  obtain ⟨fd_BadValue___init, F_BadValue___init⟩ : ∃ fd, FnP K "__init__" "BadValue.__init__" s_BadValue___init (He.ma K (He.ga K "BadValue") "__init__") fd := c.def_ 0 (d := d_BadValue___init) rfl
  obtain ⟨fd_Boxes___init, F_Boxes___init⟩ : ∃ fd, FunD K "__init__" "Boxes.__init__" (defArgs s_Boxes___init) (defBody s_Boxes___init) (defScope s_Boxes___init) [(He.Dv.v K (.int 2 : He.Dv))] [] (He.ma K (He.ga K "Boxes") "__init__") fd := c.def_ 3 (d := d_Boxes___init) rfl
  obtain ⟨fd_Boxes_own, F_Boxes_own⟩ : ∃ fd, FnP K "own" "Boxes.own" s_Boxes_own (He.ma K (He.ga K "Boxes") "own") fd := c.def_ 4 (d := d_Boxes_own) rfl
  obtain ⟨fd_Boxes_join, F_Boxes_join⟩ : ∃ fd, FnP K "join" "Boxes.join" s_Boxes_join (He.ma K (He.ga K "Boxes") "join") fd := c.def_ 5 (d := d_Boxes_join) rfl
  obtain ⟨fd_Boxes_consistent, F_Boxes_consistent⟩ : ∃ fd, FnP K "consistent" "Boxes.consistent" s_Boxes_consistent (He.ma K (He.ga K "Boxes") "consistent") fd := c.def_ 6 (d := d_Boxes_consistent) rfl
  obtain ⟨fd_Boxes_matches, F_Boxes_matches⟩ : ∃ fd, FnP K "matches" "Boxes.matches" s_Boxes_matches (He.ma K (He.ga K "Boxes") "matches") fd := c.def_ 7 (d := d_Boxes_matches) rfl
  obtain ⟨fd_Boxes_penalty, F_Boxes_penalty⟩ : ∃ fd, FnP K "penalty" "Boxes.penalty" s_Boxes_penalty (He.ma K (He.ga K "Boxes") "penalty") fd := c.def_ 8 (d := d_Boxes_penalty) rfl
  obtain ⟨fd_Boxes_sides, F_Boxes_sides⟩ : ∃ fd, FnP K "sides" "Boxes.sides" s_Boxes_sides (He.ma K (He.ga K "Boxes") "sides") fd := c.def_ 9 (d := d_Boxes_sides) rfl
  obtain ⟨fd_Boxes_distance, F_Boxes_distance⟩ : ∃ fd, FnP K "distance" "Boxes.distance" s_Boxes_distance (He.ma K (He.ga K "Boxes") "distance") fd := c.def_ 10 (d := d_Boxes_distance) rfl
  obtain ⟨fd_Boxes_bound, F_Boxes_bound⟩ : ∃ fd, FnP K "bound" "Boxes.bound" s_Boxes_bound (He.ma K (He.ga K "Boxes") "bound") fd := c.def_ 11 (d := d_Boxes_bound) rfl
  have e := hfa.symm.trans (glo X G c (x := "law") (List.mem_of_getElem? (i := 24) rfl))
  cases e
  have b := FunD.bindsA (ps := ["_law_script"]) F_law fun _ _ _ _ _ _ us hl => match us, hl with | [_], _ => rfl
  refine ⟨fd_law, fun s v => b s [v] rfl, fun base _ _ tb => ?_⟩
  have m_int := fre X G c (List.mem_of_getElem? (i := 37) rfl)
  have m_len := fre X G c (List.mem_of_getElem? (i := 38) rfl)
  have m_range := fre X G c (List.mem_of_getElem? (i := 39) rfl)
  have m_max := fre X G c (List.mem_of_getElem? (i := 40) rfl)
  have m_min := fre X G c (List.mem_of_getElem? (i := 41) rfl)
  have m_list := fre X G c (List.mem_of_getElem? (i := 42) rfl)
  have m_tuple := fre X G c (List.mem_of_getElem? (i := 43) rfl)
  have m_enumerate := fre X G c (List.mem_of_getElem? (i := 44) rfl)
  have m_sorted := fre X G c (List.mem_of_getElem? (i := 45) rfl)
  have m_sum := fre X G c (List.mem_of_getElem? (i := 46) rfl)
  have m_all := fre X G c (List.mem_of_getElem? (i := 47) rfl)
  have m_zip := fre X G c (List.mem_of_getElem? (i := 48) rfl)
  have m_repr := fre X G c (List.mem_of_getElem? (i := 49) rfl)
  have m_bool := fre X G c (List.mem_of_getElem? (i := 50) rfl)
  have m_isinstance := fre X G c (List.mem_of_getElem? (i := 51) rfl)
  have cl := He.cls_ok (c.facts (List.mem_of_getElem? (i := 26) rfl))
  have nb : NoAttr K (He.ga K "Boxes") "axes" := He.noat_ok (c.facts (List.mem_of_getElem? (i := 54) rfl))
  have C1 : ∀ k, Cal P w K mg base CX0 "_law_well" (k + 1) ["_law_cell"] spWell := fun k => (cal X G c F_law_well (List.mem_of_getElem? (i := 11) rfl) ((ok_well (k := 0) F_law_well m_int).mono (by omega)) fun _ _ _ _ _ _ us hl => match us, hl with | [_], _ => rfl)
  have C2 : ∀ k, Cal P w K mg base CX0 "_law_draw" (k + 1) ["_law_well_here", "_law_many"] spDraw := fun k => (cal X G c F_law_draw (List.mem_of_getElem? (i := 12) rfl) ((ok_draw (k := 0) F_law_draw m_int).mono (by omega)) fun _ _ _ _ _ _ us hl => match us, hl with | [_, _], _ => rfl)
  have C3 : ∀ k, Cal P w K mg base CX0 "_law_one" (k + 2) ["_law_well_here", "_law_some"] (spOne K) := fun k => (cal X G c F_law_one (List.mem_of_getElem? (i := 13) rfl) (ok_one F_law_one (C2 k) m_len) fun _ _ _ _ _ _ us hl => match us, hl with | [_, _], _ => rfl)
  have C4 : ∀ k, Cal P w K mg base CX0 "_law_span" (k + 2) ["_law_well_here", "_law_size"] spSpan := fun k => (cal X G c F_law_span (List.mem_of_getElem? (i := 14) rfl) (ok_span F_law_span (C2 k)) fun _ _ _ _ _ _ us hl => match us, hl with | [_, _], _ => rfl)
  have C5 : ∀ k, Cal P w K mg base CX0 "_law_box" (k + 3) ["_law_well_here", "_law_size", "_law_count"] spBox := fun k => (cal X G c F_law_box (List.mem_of_getElem? (i := 15) rfl) (ok_box F_law_box (C4 k) m_range m_tuple) fun _ _ _ _ _ _ us hl => match us, hl with | [_, _, _], _ => rfl)
  have CJ : Cal P w K mg base CX0 "_law_joined" 9 ["_law_one_here", "_law_two"] spJoined := (cal X G c F_law_joined (List.mem_of_getElem? (i := 16) rfl) ((ok_joined (k := 0) F_law_joined m_zip m_min m_max m_tuple).mono (by omega)) fun _ _ _ _ _ _ us hl => match us, hl with | [_, _], _ => rfl)
  have CM : Cal P w K mg base CX0 "_law_meets" 9 ["_law_one_here", "_law_two"] spMeets := (cal X G c F_law_meets (List.mem_of_getElem? (i := 17) rfl) ((ok_meets (k := 0) F_law_meets m_zip).mono (by omega)) fun _ _ _ _ _ _ us hl => match us, hl with | [_, _], _ => rfl)
  have CW : Cal P w K mg base CX0 "_law_wide" 9 ["_law_box_here"] spWide := (cal X G c F_law_wide (List.mem_of_getElem? (i := 18) rfl) ((ok_wide (k := 0) F_law_wide m_sum).mono (by omega)) fun _ _ _ _ _ _ us hl => match us, hl with | [_], _ => rfl)
  have CF : Cal P w K mg base CX0 "_law_far" 9 ["_law_box_here", "_law_spot"] spFar := (cal X G c F_law_far (List.mem_of_getElem? (i := 19) rfl) ((ok_far (k := 0) F_law_far m_sum m_zip m_max).mono (by omega)) fun _ _ _ _ _ _ us hl => match us, hl with | [_, _], _ => rfl)
  have CS : Cal P w K mg base CX0 "_law_sides" 9 ["_law_tags", "_law_count"] spLS := (cal X G c F_law_sides (List.mem_of_getElem? (i := 20) rfl) ((ok_lsides (k := 0) F_law_sides m_range m_max m_min m_enumerate m_len m_int).mono (by omega)) fun _ _ _ _ _ _ us hl => match us, hl with | [_, _], _ => rfl)
  have CI : Cal P w K mg base CX0 "is_int" 1 ["thing"] (spInt K) := (cal X G c F_is_int (List.mem_of_getElem? (i := 1) rfl) (ok_int F_is_int m_isinstance m_int m_bool) fun _ _ _ _ _ _ us hl => match us, hl with | [_], _ => rfl)
  have CB : Cal P w K mg base CX0 "halves_by" 1 ["marks"] (spHB K) := (cal X G c F_halves_by (List.mem_of_getElem? (i := 0) rfl) (ok_halvesby F_halves_by (tb _ (List.mem_map.mpr ⟨("halves_by", none), List.mem_singleton.mpr rfl, rfl⟩)) m_sorted m_list m_range m_len) fun _ _ _ _ _ _ us hl => match us, hl with | [_], _ => rfl)
  have CH : Cal P w K mg base CX0 "hull" 1 ["one", "other"] spHull := (cal X G c F_hull (List.mem_of_getElem? (i := 2) rfl) (ok_hull F_hull m_max m_min) fun _ _ _ _ _ _ us hl => match us, hl with | [_, _], _ => rfl)
  have CO : Cal P w K mg base CX0 "share_integer" 1 ["one", "other"] spShI := (cal X G c F_share_integer (List.mem_of_getElem? (i := 3) rfl) (ok_shi F_share_integer m_max m_min) fun _ _ _ _ _ _ us hl => match us, hl with | [_, _], _ => rfl)
  have CV : Cal P w K mg base CX0 "width_of" 1 ["span"] spWid := (cal X G c F_width_of (List.mem_of_getElem? (i := 4) rfl) (ok_width F_width_of) fun _ _ _ _ _ _ us hl => match us, hl with | [_], _ => rfl)
  have CG : Cal P w K mg base CX0 "gap" 1 ["span", "number"] spGap := (cal X G c F_gap (List.mem_of_getElem? (i := 5) rfl) (ok_gap F_gap m_max) fun _ _ _ _ _ _ us hl => match us, hl with | [_, _], _ => rfl)
  have CHB : Cal P w K mg base CX0 "hull_of_boxes" 2 ["one", "other"] spJoined := (cal X G c F_hull_of_boxes (List.mem_of_getElem? (i := 6) rfl) (ok_hullB F_hull_of_boxes CH m_zip m_tuple) fun _ _ _ _ _ _ us hl => match us, hl with | [_, _], _ => rfl)
  have CSP : Cal P w K mg base CX0 "share_point" 2 ["one", "other"] spShP := (cal X G c F_share_point (List.mem_of_getElem? (i := 7) rfl) (ok_shp F_share_point CO m_zip m_all) fun _ _ _ _ _ _ us hl => match us, hl with | [_, _], _ => rfl)
  have CWS : Cal P w K mg base CX0 "widths_of" 2 ["box"] spWidths := (cal X G c F_widths_of (List.mem_of_getElem? (i := 8) rfl) (ok_widths F_widths_of CV m_sum) fun _ _ _ _ _ _ us hl => match us, hl with | [_], _ => rfl)
  have CGS : Cal P w K mg base CX0 "gaps" 2 ["box", "point"] spGaps := (cal X G c F_gaps (List.mem_of_getElem? (i := 9) rfl) (ok_gaps F_gaps CG m_sum m_zip) fun _ _ _ _ _ _ us hl => match us, hl with | [_, _], _ => rfl)
  have CP : Cal P w K mg base CX0 "are_points" 2 ["things"] spPts := (cal X G c F_are_points (List.mem_of_getElem? (i := 10) rfl) (ok_pts F_are_points CI m_isinstance m_list m_tuple m_len m_all) fun _ _ _ _ _ _ us hl => match us, hl with | [_], _ => rfl)
  have m_S := glo X G c (x := "Boxes") (List.mem_of_getElem? (i := 25) rfl)
  have m_B := glo X G c (x := "BadValue") (List.mem_of_getElem? (i := 36) rfl)
  have GE := ok_err (P := P) (w := w) (mg := mg) (base := base) (k := 0) F_BadValue___init EB.ox EB.no
  have bE := F_BadValue___init.bindsN (ps := ["self", "value"]) fun _ _ _ _ _ _ us hl => match us, hl with | [_, _], _ => rfl
  have GS := ok_make (P := P) (w := w) (base := base) (k := 0) F_Boxes___init cl nb (He.int_ok X G (c.facts (List.mem_of_getElem? (i := 52) rfl))) m_B EB.ox EB.iC EB.tI GE bE CI
  have GA := ok_around (P := P) (w := w) (base := base) (k := 0) F_A m_B EB.ox EB.iC EB.tI GE bE CP m_tuple m_min m_max m_zip
  have bA := F_A.bindsN (ps := ["points"]) fun _ _ _ _ _ _ us hl => match us, hl with | [_], _ => rfl
  obtain ⟨its, kbS⟩ := FunD.kbindsD (ps := ["self", "dimensions"]) F_Boxes___init 1 ["dimensions"] (fun us _ ws => us ++ ws) (by simp) (fun r1 _ r3 => r1.append r3) (by
    intro T kV doc pm an cdv ct us its ws h1 h2 h3
    match us, its, ws, h1, h2, h3 with
    | [_], [_], [_], _, _, _ => exact ⟨_, rfl, rfl⟩)
  obtain ⟨ds8, r8, b8⟩ := FunD.binds1 (ps := ["self", "dimensions"]) F_Boxes___init 1 0 (by simp) (by simp) (by
    intro T kV doc pm an cdv ct us its h1 h2
    match us, its, h1, h2 with
    | [_], [_], _, _ => exact ⟨_, rfl, rfl⟩)
  obtain ⟨ds0, r0, b0⟩ := FunD.binds1 (ps := ["self", "dimensions"]) F_Boxes___init 2 1 (by simp) (by simp) (by
    intro T kV doc pm an cdv ct us its h1 h2
    match us, its, h1, h2 with
    | [_, _], [_], _, _ => exact ⟨_, rfl, rfl⟩)
  cases r0
  obtain ⟨p_w, g_w, fd_w, pr_w, G_w, b_w⟩ := PR.propB_ok (P := P) (w := w) (mg := mg) (base := base) (CX := CX0) m2 cl nb
  have M_S := He.mkr_ok (c.facts (List.mem_of_getElem? (i := 53) rfl))
  have CA : Cal P w K mg base CX0 "_law_around_right" 9 ["_law_well_here", "_law_size", "_law_count"] spAR := (cal X G c F_law_around_right (List.mem_of_getElem? (i := 21) rfl) ((ok_ar (k := 6) F_law_around_right m_S m_B EB.xf EB.no EB.te M_S (GS.mono (by omega)) b0 ST.rd ST.met ST.ins F_A.kp (GA.mono (by omega)) bA (C2 6) m_range m_tuple m_min m_max)) fun _ _ _ _ _ _ us hl => match us, hl with | [_, _, _], _ => rfl)
  have R := ok_right (P := P) (w := w) (base := base) (k := 9) F_law_right m_range m_list m_tuple cl M_S (GS.mono (by omega)) m_S kbS pr_w G_w b_w (C2 8) (C3 7) (C5 6) CJ CM CW CF CS CA
    (calm c F_Boxes_own (List.mem_of_getElem? (i := 28) rfl) ((ok_own (k := 0) F_Boxes_own).mono (by omega)) fun _ _ _ _ _ _ us hl => match us, hl with | [_, _], _ => rfl) (calm c F_Boxes_join (List.mem_of_getElem? (i := 29) rfl) ((ok_join F_Boxes_join CHB).mono (by omega)) fun _ _ _ _ _ _ us hl => match us, hl with | [_, _, _], _ => rfl) (calm c F_Boxes_consistent (List.mem_of_getElem? (i := 30) rfl) ((ok_consistent F_Boxes_consistent CSP).mono (by omega)) fun _ _ _ _ _ _ us hl => match us, hl with | [_, _, _], _ => rfl) (calm c F_Boxes_matches (List.mem_of_getElem? (i := 31) rfl) ((ok_matches F_Boxes_matches CSP).mono (by omega)) fun _ _ _ _ _ _ us hl => match us, hl with | [_, _, _], _ => rfl)
    (calm c F_Boxes_penalty (List.mem_of_getElem? (i := 32) rfl) ((ok_penalty (k := 2) F_Boxes_penalty CHB CWS).mono (by omega)) fun _ _ _ _ _ _ us hl => match us, hl with | [_, _, _], _ => rfl) (calm c F_Boxes_sides (List.mem_of_getElem? (i := 33) rfl) ((ok_sides F_Boxes_sides cl nb CB m_range m_len m_max m_min m_sum).mono (by omega)) fun _ _ _ _ _ _ us hl => match us, hl with | [_, _], _ => rfl) (calm c F_Boxes_distance (List.mem_of_getElem? (i := 34) rfl) ((ok_distance F_Boxes_distance CGS).mono (by omega)) fun _ _ _ _ _ _ us hl => match us, hl with | [_, _, _], _ => rfl) (calm c F_Boxes_bound (List.mem_of_getElem? (i := 35) rfl) ((ok_bound F_Boxes_bound CGS).mono (by omega)) fun _ _ _ _ _ _ us hl => match us, hl with | [_, _, _], _ => rfl)
  have DO := ok_odd (P := P) (w := w) (base := base) (k := 9) F_law_odd_right m_repr cl m_B EB.xf EB.no EB.te M_S (GS.mono (by omega)) m_S b0 b8 r8 pr_w G_w b_w
  exact ok_law F_law (C1 11) (cal X G c F_law_right (List.mem_of_getElem? (i := 23) rfl) (R) fun _ _ _ _ _ _ us hl => match us, hl with | [_], _ => rfl) ⟨_, _, DO, F_law_odd_right.bindsN fun _ _ _ _ _ _ us hl => match us, hl with | [], _ => rfl, glo X G c (List.mem_of_getElem? (i := 22) rfl), F_law_odd_right.kp⟩
end
end K12
open PySem PySem.W PySem.Calls PyProof.Rows
set_option maxRecDepth 100000 in
set_option maxHeartbeats 0 in
theorem PySem.Challenge.cw_kindgrove_k12_boxes_holds : PySem.Challenge.rw_kindgrove_k12_boxes.Holds := by
  w_on; o_law
  refine HandSHeadRun.head_any (r := OpenLaw.row PySem.Challenge.rw_kindgrove_k12_boxes) (q := view (OpenLaw.row PySem.Challenge.rw_kindgrove_k12_boxes).prog [37]) (H := K12.hk) (ob := K12.ob) (M := 6000) (loose := K12.loose) (d := HandSHeadRun.topDef (OpenLaw.row PySem.Challenge.rw_kindgrove_k12_boxes).prog 37) (kwd := []) K12.ob_eq
    (by kernel_rfl) (fun s => by kernel_rfl) K12.run (by kernel_rfl) (by kernel_rfl) (by kernel_rfl) (by rfl) (by first | assumption | decide +kernel) (by decide +kernel) ⟨rfl, rfl, rfl, rfl, rfl, by decide +kernel⟩ ?hw ?hc
  case hw => w_witness2
  case hc =>
    refine GD.walk_G (l := PySem.Challenge.rw_kindgrove_k12_boxes) (n := 63) (k := 13) (x := "_law_script") (CX := fun _ => L2.CX0) rfl (by decide) (by kernel_rfl) ⟨rfl, by decide, by decide⟩ ?F (fun _ _ _ _ _ z => z)
    intro w mg fa h Y G hmg0
    obtain ⟨K, KX, c⟩ := Y
    have hmg : mg ("law" : PySem.Str) = some (.ref fa) := by
      have e : (HandSHeadRun.topDef (OpenLaw.row PySem.Challenge.rw_kindgrove_k12_boxes).prog 37).name = ("law" : PySem.Str) := by kernel_rfl
      rw [← e]
      exact hmg0
    obtain ⟨fd, hb, hF⟩ := K12.facts (P := (PySem.Challenge.rw_kindgrove_k12_boxes).prog) (w := w) KX G hmg c.x.t.d c.x.more (SM.SaysZ.def_ c 0)
    refine ⟨K, KX, fd, K12.tf.map (He.cT K), K12.spLaw K, fun p hp => ?_, hb, fun H a ns hl hTb hS => ⟨a, ns, rfl, hS, hl, K12.tabs_of hTb, fun _ => rfl⟩, hF⟩
    obtain ⟨p0, hp0, rfl⟩ := List.mem_map.mp hp
    exact ⟨c.x.empty p0 hp0, c.x.out p0 hp0, PySem.W.codeHd_of_K KX (c.x.hd p0 hp0)⟩
