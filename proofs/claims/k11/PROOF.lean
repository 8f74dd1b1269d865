import PyProof.Rows.All
import Wide.All
import OpenK.AllK
import Wide.FinOn
import HandS.ForMost
import HandS.HeadHook4
import HandS.Zip
import HandS.Defaults
import HandS.Wide
import HandS.IsInst
import HandS.NoneIn
import HandS.Style
import HandS.DeepEq
import HandS.Evl
import PyProof.NeKinds
import HandS.TupMul
import PyProof.StrBlock2
import KE.SortKeyHeap
import KE.SortData
import HandS.Lambda
import HandS.EndTab
import HandS.HeadWalk
import HandS.SortKw
import HandS.DictComp
import HandS.Conv
import PyProof.MaxThree
import HandS.Walk
import HandS.Head0
import HandS.Head1
import HandS.Head2
import HandS.HeadEnd
import PySem.Challenge.RW_kindgrove_k11_ranges
set_option Elab.async false
set_option linter.all false
set_option maxRecDepth 100000
set_option maxHeartbeats 4000000
namespace CM
open PySem PySem.Spec PyProof.Rows L2
/-- a def of the text, by the module's name of it -/
structure Cal (P : Program) (w : World) (K : PySem.W.Frag) (mg : Str → Option Value) (base : Heap) (CX : CXT) (x : Str) (k : Nat) (ps : List Str) (sp : Sp) : Prop where
  ex : ∃ (f : Addr) (fd : FuncData), FnOk P w K mg base CX k f fd ps sp ∧ Binds K fd ps [] ∧ mg x = some (.ref f) ∧ PySem.W.keepIn K (.ref f) = true
/-- a method of the class at C -/
structure CalM (P : Program) (w : World) (K : PySem.W.Frag) (mg : Str → Option Value) (base : Heap) (CX : CXT) (C : Addr) (x : Str) (k : Nat) (ps : List Str) (sp : Sp) : Prop where
  ex : ∃ (f : Addr) (fd : FuncData), FnOk P w K mg base CX k f fd ps sp ∧ Binds K fd ps [] ∧ Meth K C x f
/-- a value that is equal to itself at once -/
def okV (v : V) : Prop := flatB v = true ∨ ∃ a, v = .ref a
theorem okV_ref (a : Addr) : okV (.ref a) := .inr ⟨a, rfl⟩
theorem okV_int (i : Int) : okV (.int i) := .inl rfl
theorem eqAt_ok {A : Around} {s : Shared} {v : V} {u u' : Value} (h : okV v) (r : RelV v u) (r' : RelV v u') : SeqAt.EqAt A s u u' true := by
  rcases h with f | ⟨a, rfl⟩
  · exact eqAt_same r r' f
  · cases (show u = Value.ref a from r)
    cases (show u' = Value.ref a from r')
    exact SeqAt.EqAt.same _
theorem vals_eqAt {A : Around} {s : Shared} : ∀ {xs : List V} {us ws : List Value}, (∀ v ∈ xs, okV v) → Vals xs us → Vals xs ws → ∀ j (h1 : j < us.length) (h2 : j < ws.length), SeqAt.EqAt A s us[j] ws[j] true
  | [], _, _, _, r1, _, j, h1, _ => by
    cases r1
    exact absurd h1 (Nat.not_lt_zero j)
  | v :: xs, _, _, ok, .cons a1 b1, .cons a2 b2, 0, _, _ => eqAt_ok (ok v (List.mem_cons_self ..)) a1 a2
  | v :: xs, _, _, ok, .cons a1 b1, .cons a2 b2, j + 1, h1, h2 => vals_eqAt (fun z hz => ok z (List.mem_cons_of_mem _ hz)) b1 b2 j (Nat.lt_of_succ_lt_succ h1) (Nat.lt_of_succ_lt_succ h2)
/-! ### what stays -/
theorem same_upd {H : Hp} {p : Addr} {o : HO} (h : H p = none) : Same H (upd H p o) := fun b x e => by
  rw [upd_ne (ne_of_none e h)]
  exact e
theorem same_put {A H : Hp} {p : Addr} {o : HO} (s : Same A H) (h : A p = none) : Same A (upd H p o) := fun b u e => by
  rw [upd_ne (ne_of_none e h)]
  exact s b u e
/-- all but the thing at a stays -/
def Kp (a : Addr) (H H' : Hp) : Prop := ∀ b o, b ≠ a → H b = some o → H' b = some o
theorem Kp.trans {a : Addr} {H H1 H2 : Hp} (x : Kp a H H1) (y : Kp a H1 H2) : Kp a H H2 := fun b o n e => y b o n (x b o n e)
theorem Kp.same {a : Addr} {H H1 : Hp} (s : Same H H1) : Kp a H H1 := fun b o _ e => s b o e
theorem Kp.set {a : Addr} {H : Hp} {o : HO} : Kp a H (upd H a o) := fun b u n e => by
  rw [upd_ne n]
  exact e
theorem Kp.ne {a p : Addr} {H : Hp} {o : HO} (h : H a = some o) (hp : H p = none) : p ≠ a := fun z => by
  rw [z, h] at hp
  cases hp
theorem max_if (i j : Int) : (if j > i then j else i) = max i j := by
  rw [Int.max_def]
  split <;> split <;> omega
theorem min_if (i j : Int) : (if j < i then j else i) = min i j := by
  rw [Int.min_def]
  split <;> split <;> omega
def Tup2 (H : Hp) (p : Addr) (lo hi : Int) : Prop := H p = some (.tup [.int lo, .int hi])
section
variable {X : Cx}
theorem pe_gref {x : Str} {C : Addr} {pos : Pos} (hg : Gl X x) (hm : X.mg x = some (.ref C)) (hdb : (x == ("__debug__" : Str)) = false := by decide) : PE X (.Name x pos) (tC (.ref C)) := pe_glob (v := .ref C) hg hm rfl hdb
/-- a != b of two lists of the very same items -/
def rNeS (K : PySem.W.Frag) : R2 := fun x y H Q => ∃ (a b : Addr) (xs : List V), x = .ref a ∧ y = .ref b ∧ SqL K H a xs ∧ SqL K H b xs ∧ (∀ v ∈ xs, okV v) ∧ Q (.bl false) H
theorem op_neS (hu : X.A.units + 64 < cLine) : OpR X (compareOp .NotEq) (rNeS X.K) := by
  intro pns s σ H x y v u Q I rx ry h
  obtain ⟨a, b, xs, rfl, rfl, ha, hb, ok, q⟩ := h
  cases (show v = Value.ref a from rx)
  cases (show u = Value.ref b from ry)
  obtain ⟨us, r1, p1, _⟩ := I.list ha
  obtain ⟨ws, r2, p2, _⟩ := I.list hb
  have hz : us.toArray.size = ws.toArray.size := by
    rw [List.size_toArray, List.size_toArray, ← r1.length, ← r2.length]
  refine SeqAt.RcNeAt.lists (e := fun _ => true) p1.isList p2.isList hz (by omega) (fun j h1 h2 => ?_) X.prog X.w X.xe _ ?_
  · have z := vals_eqAt (A := X.A.in1) (s := s) ok r1 r2 j (by simpa using h1) (by simpa using h2)
    simpa using z
  · rw [show ((List.range us.toArray.size).all fun _ => true) = true from List.all_eq_true.mpr fun _ _ => rfl]
    exact ⟨.bl false, H, I, rfl, q⟩
/-- a == (), a a tuple -/
def rEqNil (K : PySem.W.Frag) : R2 := fun x y H Q => ∃ (a b : Addr) (xs : List V), x = .ref a ∧ y = .ref b ∧ SqT K H a xs ∧ SqT K H b [] ∧ Q (.bl xs.isEmpty) H
theorem op_eqNil (hu : X.A.units + 64 < cLine) : OpR X (compareOp .Eq) (rEqNil X.K) := by
  intro pns s σ H x y v u Q I rx ry h
  obtain ⟨a, b, xs, rfl, rfl, ha, hb, q⟩ := h
  cases (show v = Value.ref a from rx)
  cases (show u = Value.ref b from ry)
  obtain ⟨us, r1, p1, _⟩ := I.tuple ha
  obtain ⟨ws, r2, p2, _⟩ := I.tuple hb
  cases r2
  refine SeqAt.eq_tupleAt (e := fun _ => true) p1 p2 (by omega) (fun j h1 h2 => absurd h2 (by simp)) ?_
  have e : ((List.range (min us.toArray.size (#[] : Array Value).size)).all (fun _ => true) && us.toArray.size == (#[] : Array Value).size) = xs.isEmpty := by
    rw [List.size_toArray, ← r1.length]
    cases xs <;> simp
  exact ⟨.bl _, H, I, rfl, by rw [e]; exact q⟩
def rStrMul : R2 := fun x y H Q => ∃ (z : Str) (n : Int), x = .str z ∧ y = .int n ∧ MulOk z n ∧ Q (.str (Txt.mul z n)) H
theorem op_strmul : OpR X (binaryOp .Mult) rStrMul := by
  intro pns s σ H x y v u Q I rx ry h
  obtain ⟨z, n, rfl, rfl, ok, q⟩ := h
  obtain ⟨t1, rfl⟩ := rx
  obtain ⟨t2, rfl⟩ := ry
  exact SB.mul ok fun t' k => ⟨.str _, H, I.tok k, ⟨t', rfl⟩, q⟩
/-- a tuple taken many times -/
def rRepM (K : PySem.W.Frag) : R2 := fun x y H Q => ∃ l k xs, x = .ref l ∧ y = .int k ∧ SqT K H l xs ∧ xs ≠ [] ∧ 2 ≤ k ∧ (xs.length : Int) * k ≤ 1000000 ∧ ∀ p, H p = none → Q (.ref p) (upd H p (.tup (List.replicate k.toNat xs).flatten))
theorem op_repM : OpR X (binaryOp .Mult) (rRepM X.K) := by
  intro pns s σ H x y v u Q I rx ry h
  obtain ⟨l, k, xs, rfl, rfl, hT, hne, hlo, hz, q⟩ := h
  cases (show v = Value.ref l from rx)
  obtain ⟨t, rfl⟩ := ry
  obtain ⟨us, r, ⟨⟨cl, di, da, slo⟩, ho, hc, n, hd⟩, hs⟩ := I.tuple hT
  dsimp only at hc hd
  subst hc
  subst hd
  have hle : us.length = xs.length := r.length.symm
  have h0 : us.toArray.isEmpty = false := by
    cases us with
    | nil =>
      cases xs with
      | nil => exact absurd rfl hne
      | cons => cases hle
    | cons _ _ => rfl
  have hsz : us.toArray.size = xs.length := by rw [List.size_toArray, hle]
  have pos : 1 ≤ xs.length := by
    cases xs with
    | nil => exact absurd rfl hne
    | cons => rw [List.length_cons]; omega
  have hk : k ≤ 1000000 := by
    have a1 : (1 : Int) * k ≤ (xs.length : Int) * k := Int.mul_le_mul_of_nonneg_right (by omega) (by omega)
    omega
  have hm : ((us.toArray.size : Nat) : Int) * k ≤ 1000000 := by rw [hsz]; exact hz
  have hflat : (List.replicate k.toNat us).flatten.length ≤ sizeLine := by
    rw [lm_len_rep_flat, hle, sizeLine_eq]
    have a2 : ((k.toNat * xs.length : Nat) : Int) = (xs.length : Int) * k := by
      rw [Int.natCast_mul, Int.toNat_of_nonneg (by omega), Int.mul_comm]
    omega
  have c0 : (decide (k < -(2 ^ 63)) || decide (k ≥ 2 ^ 63)) = false := by
    simp only [Bool.or_eq_false_iff, decide_eq_false_iff_not]
    omega
  have c1 : (us.toArray.isEmpty || k == 1) = false := by
    rw [h0, Bool.false_or, beq_eq_false_iff_ne]
    omega
  have c2 : (decide (k ≤ 0) || us.toArray.isEmpty) = false := by
    rw [h0, Bool.or_false, decide_eq_false_iff_not]
    omega
  have c4 : Builtin.Tuple.tupleTooMany (((us.toArray.size : Nat) : Int) * k) = false := by
    unfold Builtin.Tuple.tupleTooMany
    rw [sizeLine_eq, decide_eq_false_iff_not]
    omega
  have big : (List.foldl (fun x1 x2 => x1 ++ x2) #[] (List.replicate k.toNat us.toArray)).size ≤ sizeLine := by
    rw [size_rep, List.size_toArray]
    exact hflat
  have inner := tuple_mulW l us.toArray n di slo k t c0 c1 c2 (by omega) c4 big
  have outer := int_rmul_tuple k t l us.toArray n di slo
  refine wpAny_binaryOp_repeat_ref (T := "tuple") (U := "int") (by decide) ⟨_, ho, rfl⟩ (fun s1 => typeIs_int s1 k t) noFill_tuple_mul F.fills_int_mul F.slot_int_rmul repeat_tuple F.slot_int_index.lookup ?_
  refine call_meets F.slot_int_rmul (typeIs_int s k t) F.entry_int_rmul (F.args_int_rmul_2 _ _) outer ⟨ho, rfl, ⟨_, ho, rfl⟩, ?_⟩
  refine call_meets F.slot_tuple_mul ⟨_, ho, rfl⟩ F.entry_tuple_mul (F.args_tuple_mul_2 _ _) inner ⟨ho, ?_⟩
  rw [size_rep]
  have hnew : H s.heap.objs.size = none := I.hok.fresh (Nat.le_refl _)
  have hfl2 : (List.replicate k.toNat xs).flatten.length ≤ sizeLine := by
    have z := (r.rep k.toNat).length
    rw [z]
    exact hflat
  exact ⟨.ref s.heap.objs.size, _, I.laid (t' := s.toks) (o := .tup (List.replicate k.toNat xs).flatten) (fun b ob z => Heap.get?_push_of_some _ z) (Nat.le_refl _) ⟨hfl2, _, r.rep k.toNat, IsTup.new _ _⟩, rfl, q _ hnew⟩
/-- a != b of two tuples of the very same items -/
def rNeST (K : PySem.W.Frag) : R2 := fun x y H Q => ∃ (a b : Addr) (xs : List V), x = .ref a ∧ y = .ref b ∧ SqT K H a xs ∧ SqT K H b xs ∧ (∀ v ∈ xs, okV v) ∧ Q (.bl false) H
theorem op_neST (hu : X.A.units + 64 < cLine) : OpR X (compareOp .NotEq) (rNeST X.K) := by
  intro pns s σ H x y v u Q I rx ry h
  obtain ⟨a, b, xs, rfl, rfl, ha, hb, ok, q⟩ := h
  cases (show v = Value.ref a from rx)
  cases (show u = Value.ref b from ry)
  obtain ⟨us, r1, p1, _⟩ := I.tuple ha
  obtain ⟨ws, r2, p2, _⟩ := I.tuple hb
  have hz : us.toArray.size = ws.toArray.size := by
    rw [List.size_toArray, List.size_toArray, ← r1.length, ← r2.length]
  refine SeqAt.RcNeAt.tuples (e := fun _ => true) p1 p2 (by omega) (fun j h1 h2 => ?_) X.prog X.w X.xe _ ?_
  · have z := vals_eqAt (A := X.A.in1) (s := s) ok r1 r2 j (by simpa using h1) (by simpa using h2)
    simpa using z
  · rw [show ((List.range (min us.toArray.size ws.toArray.size)).all fun _ => true) = true from List.all_eq_true.mpr fun _ _ => rfl, hz]
    exact ⟨.bl _, H, I, rfl, by simpa using q⟩
/-- a != b, both of them pairs of ints -/
def rNeI2 (K : PySem.W.Frag) : R2 := fun x y H Q => ∃ (a b : Addr) (i j k l : Int), x = .ref a ∧ y = .ref b ∧ SqT K H a [.int i, .int j] ∧ SqT K H b [.int k, .int l] ∧ Q (.bl (!decide (i = k ∧ j = l))) H
theorem op_neI2 (hu : X.A.units + 64 < cLine) : OpR X (compareOp .NotEq) (rNeI2 X.K) := by
  intro pns s σ H x y v u Q I rx ry h
  obtain ⟨a, b, i, j, k, l, rfl, rfl, ha, hb, q⟩ := h
  cases (show v = Value.ref a from rx)
  cases (show u = Value.ref b from ry)
  obtain ⟨us, r1, p1, _⟩ := I.tuple ha
  obtain ⟨ws, r2, p2, _⟩ := I.tuple hb
  obtain ⟨u1, u2, rfl, ⟨t1, rfl⟩, ⟨t2, rfl⟩⟩ := vals2 r1
  obtain ⟨w1, w2, rfl, ⟨t3, rfl⟩, ⟨t4, rfl⟩⟩ := vals2 r2
  refine SeqAt.RcNeAt.tuples (e := fun n => if n = 0 then i == k else j == l) p1 p2 (by omega) (fun n h1 h2 => ?_) X.prog X.w X.xe _ ?_
  · match n, h1, h2 with
    | 0, _, _ => exact SeqAt.EqAt.int_int i t1 k t3
    | 1, _, _ => exact SeqAt.EqAt.int_int j t2 l t4
    | n + 2, h1, _ => exact absurd h1 (by simp)
  · have e : (!((List.range (min [Value.int i t1, Value.int j t2].toArray.size [Value.int k t3, Value.int l t4].toArray.size)).all (fun n => if n = 0 then i == k else j == l) && [Value.int i t1, Value.int j t2].toArray.size == [Value.int k t3, Value.int l t4].toArray.size)) = !decide (i = k ∧ j = l) := by
      show (!((List.range 2).all (fun n => if n = 0 then i == k else j == l) && true)) = _
      rw [show List.range 2 = [0, 1] from rfl]
      by_cases e1 : i = k <;> by_cases e2 : j = l <;> simp [e1, e2]
    rw [e]
    exact ⟨.bl _, H, I, rfl, q⟩
/-- a == b of two lists of the very same items -/
def rEqS (K : PySem.W.Frag) : R2 := fun x y H Q => ∃ (a b : Addr) (xs : List V), x = .ref a ∧ y = .ref b ∧ SqL K H a xs ∧ SqL K H b xs ∧ (∀ v ∈ xs, okV v) ∧ Q (.bl true) H
theorem op_eqS (hu : X.A.units + 64 < cLine) : OpR X (compareOp .Eq) (rEqS X.K) := by
  intro pns s σ H x y v u Q I rx ry h
  obtain ⟨a, b, xs, rfl, rfl, ha, hb, ok, q⟩ := h
  cases (show v = Value.ref a from rx)
  cases (show u = Value.ref b from ry)
  obtain ⟨us, r1, p1, _⟩ := I.list ha
  obtain ⟨ws, r2, p2, _⟩ := I.list hb
  have hz : us.toArray.size = ws.toArray.size := by
    rw [List.size_toArray, List.size_toArray, ← r1.length, ← r2.length]
  refine SeqAt.eq_listAt (e := fun _ => true) p1.isList p2.isList hz (by omega) (fun j h1 h2 => ?_) ?_
  · have z := vals_eqAt (A := X.A.in1) (s := s) ok r1 r2 j (by simpa using h1) (by simpa using h2)
    simpa using z
  · rw [show ((List.range us.toArray.size).all fun _ => true) = true from List.all_eq_true.mpr fun _ _ => rfl]
    exact ⟨.bl true, H, I, rfl, q⟩
/-- a != [], a a list -/
def rNeNil (K : PySem.W.Frag) : R2 := fun x y H Q => ∃ (a b : Addr) (xs : List V), x = .ref a ∧ y = .ref b ∧ SqL K H a xs ∧ SqL K H b [] ∧ Q (.bl (!xs.isEmpty)) H
theorem op_neNil (hu : X.A.units + 64 < cLine) : OpR X (compareOp .NotEq) (rNeNil X.K) := by
  intro pns s σ H x y v u Q I rx ry h
  obtain ⟨a, b, xs, rfl, rfl, ha, hb, q⟩ := h
  cases (show v = Value.ref a from rx)
  cases (show u = Value.ref b from ry)
  obtain ⟨us, r1, p1, _⟩ := I.list ha
  obtain ⟨ws, r2, p2, _⟩ := I.list hb
  cases r2
  cases r1 with
  | nil => exact SeqAt.RcNeAt.lists (e := fun _ => true) p1.isList p2.isList rfl (by omega) (fun j h1 h2 => absurd h2 (by simp)) X.prog X.w X.xe _ ⟨.bl false, H, I, rfl, q⟩
  | cons a1 b1 => exact SeqAt.RcNeAt.lists_lengths p1.isList p2.isList (by simp) (by omega) X.prog X.w X.xe _ ⟨.bl true, H, I, rfl, q⟩
/-- how many unlike ints a list has -/
def unlike (ns : List Int) : Nat := (firstMet (fun i => ns.getD i 0) ns.length).length
def tUnlike (K : PySem.W.Frag) (ta : TE) : TE := fun σ H Q => ta σ H fun x G => ∃ (l : Addr) (ns : List Int), x = .ref l ∧ SqL K G l (ns.map V.int) ∧ ns.length ≤ 4000 ∧ Q (.int (unlike ns : Nat)) G
theorem pe_unlike {e : Expr} {ta : TE} {p1 p2 p3 p4 : Pos} (hg : Gl X "len") (hm : X.mg "len" = none) (hg2 : Gl X "set") (hm2 : X.mg "set" = none) (ha : PE X e ta) (hc : X.calm = true := by rfl)
    (na : starEach [e] X.env = (false, eval e X.env) :: starEach [] X.env := by rfl) : PE X (.Call (.Name "len" p1) [.Call (.Name "set" p2) [e] [] p3] [] p4) (tUnlike X.K ta) := by
  refine ⟨fun pns s σ H Q I h => Call_ (ld_blt I hg hm PySem.boot_len (callWith_builtin1 (args_cons (Call_ (ld_blt I hg2 hm2 boot_set (callWith_type1 (args_cons (thn (ha.run pns s σ H _ I h) ?_) na) na rfl))) rfl) rfl rfl))⟩
  rintro v t ⟨x, G, J, r, l, ns, rfl, hq, hl, q⟩
  cases r
  obtain ⟨us, rv, pl, _⟩ := J.list hq
  have hz : us.toArray.size = ns.length := by rw [List.size_toArray, ← rv.length, List.length_map]
  refine args_nil (call_set_list (J.ok.hd hc) pl.isList (ns := ns) (by simpa using RZ.intsAre_vals rv) (by rw [hz]; unfold scanBound; omega) fun h' tk hS hk => args_nil ?_)
  rw [hz] at hS
  obtain ⟨o, es, ep, tb, ho, hex, hd, _, _, _, hf, hn⟩ := hS
  have hle := firstMet_length_le (fun i => ns.getD i 0) ns.length
  have J2 : Inv X pns σ G { t with heap := h', toks := tk } := J.kept fun b o e => hk b o (Heap.lt_size e) e
  exact call_len_set ho hex hd hf (by rw [hn]; omega) ⟨.int (unlike ns : Nat), G, J2.tok _, ⟨_, by rw [hn]; rfl⟩, q⟩
/-- a class without an __init__ -/
structure MkO (K : PySem.W.Frag) (C : Addr) : Prop where
  makes : PySem.W.makesIn K C = true
  init : PySem.W.findIn K (.ref C) "__init__" = some (some (.builtin "object.__init__"))
  kp : PySem.W.keepIn K (.ref C) = true
  ob : PySem.W.mroIn K C (.type "object") = some true
def mkoB (K : PySem.W.Frag) (C : Addr) : Bool := PySem.W.makesIn K C && (He.eqO (PySem.W.findIn K (.ref C) "__init__") (some (some (.builtin "object.__init__"))) && (PySem.W.keepIn K (.ref C) && decide (PySem.W.mroIn K C (.type "object") = some true)))
theorem mkoB_ok {K : PySem.W.Frag} {C : Addr} (h : mkoB K C = true) : MkO K C := by
  obtain ⟨h1, h⟩ := He.ba h
  obtain ⟨h2, h⟩ := He.ba h
  obtain ⟨h3, h4⟩ := He.ba h
  exact ⟨h1, He.eqO_ok h2, h3, of_decide_eq_true h4⟩
theorem pe_make00 {C : Addr} {x : Str} {p pos : Pos} (M : MkO X.K C) (hg : Gl X x) (hm : X.mg x = some (.ref C)) (hdb : (x == ("__debug__" : Str)) = false := by decide) :
    PE X (.Call (.Name x p) [] [] pos) (fun σ H Q => ∀ x dx, H x = none → H dx = none → dx ≠ x → Q (.ref x) (upd (upd H dx (.own x)) x (.ins C dx []))) := by
  refine ⟨fun pns s σ H Q I h => wpAny_Call_Name_kw (ld_glob I hg hm ?_ hdb)⟩
  refine PySem.W.callWith_K0 I.kIn M.kp ?_
  show wpAny _ _ (call (.ref C) []) _ _ _
  have hq := h (s.heap.objs.size + 1) s.heap.objs.size (I.hok.fresh (Nat.le_succ _)) (I.hok.fresh (Nat.le_refl _)) (Nat.ne_of_lt (Nat.lt_succ_self _))
  have J := Inv.made (C := C) I
  refine wpAny_call (make_map0 I.kIn M.makes M.init (fun me => PySem.W.Looks.of_pure (PySem.W.oi_bind me)) ?_)
  have ho : ((s.heap.push PySem.W.emptyDict).push (PySem.W.instObj C s.heap.objs.size)).get? (s.heap.objs.size + 1) = some (PySem.W.instObj C s.heap.objs.size) := by
    have z := Heap.get?_push_size (s.heap.push PySem.W.emptyDict) (o := PySem.W.instObj C s.heap.objs.size) rfl
    rw [Heap.size_push] at z
    exact z
  have t1 : PySem.W.Looks (model X.prog X.w) ((s.heap.push PySem.W.emptyDict).push (PySem.W.instObj C s.heap.objs.size)) (typeOf (.ref (s.heap.objs.size + 1))) (.ref C) := (PySem.W.Looks.ld ho).andThen .now
  have t2 : PySem.W.Looks (model X.prog X.w) ((s.heap.push PySem.W.emptyDict).push (PySem.W.instObj C s.heap.objs.size)) (isInstance (.ref (s.heap.objs.size + 1)) (.type "object")) true := t1.andThen (PySem.W.looks_mroIn J.kIn M.ob)
  refine codeAny_call_builtin PySem.W.oi_plain PySem.W.entry_oi (PySem.W.check_slot PySem.W.oi_kind PySem.W.oi_split t2 (PySem.W.oi_args (.ref (s.heap.objs.size + 1))) ?_)
  rw [PySem.W.oi_run]
  exact wpAny_pure ⟨rfl, ⟨V.ref (s.heap.objs.size + 1), _, J, rfl, hq⟩⟩
/-! ### within a comprehension: the written part by its name -/
theorem ix_listK {K : PySem.W.Frag} (h : X.K = K := by rfl) : IxR X (rIxL K) := by
  subst h
  exact ix_list
theorem ix_tupK {K : PySem.W.Frag} (h : X.K = K := by rfl) : IxR X (rIxT K) := by
  subst h
  exact ix_tup
theorem pg_tupK {K : PySem.W.Frag} {n : Nat} {es : List Expr} {k : Nat} {t : TGs} (hc : X.calm = true) (h : PGs X es t) (hK : X.K = K := by rfl)
    (hn : (assignEach es X.env).length = n := by rfl) (hst : (assignEach es X.env).findIdx? (·.1) = none := by rfl) : PG X (.Tuple es k pos) (gTup K n t) := by
  subst hK
  exact pg_tup hc h hn hst
theorem op_ltTK {K : PySem.W.Frag} (hu : X.A.units < cLine) (h : X.K = K := by rfl) : OpR X (compareOp .Lt) (rLtT K) := by
  subst h
  exact op_ltT hu
end
end CM
set_option Elab.async false
set_option linter.all false
set_option maxRecDepth 100000
set_option maxHeartbeats 4000000
namespace SL
open PySem PySem.Spec PyProof.Rows L2 CM LamX
/-! ### a def whose code object is told -/
section
variable {P : Program} {w : World} {K : PySem.W.Frag} {mg : Str → Option Value} {base : Heap} {x qual : Str} {params : Arguments} {body : List Stmt} {scope : Scope} {dvs : List V} {kws : List (Str × V)} {fd : FuncData}
theorem okC {CX : CXT} {N ps : List Str} {k : Nat} {sp : Sp} {p : He.Defn} (F : FunD K x qual params body scope dvs kws (He.fAd K p) fd) (S : FnScope N ps scope) (len : ∀ vs H Q E, sp vs H Q E → vs.length = ps.length)
    (hbody : ∀ (A : Around) (outer : List Env) (s : Shared) (H : Hp) (vs : List V) (Q : VK) (E : XK), Room k (A.deeper (envOfC qual scope s.heap.objs.size (He.fAd K p) (.ref (He.codeOf K p)))) → sp vs H Q E →
      ∃ t, PSs (cxOf CX P w K mg base N qual scope (He.fAd K p) (.ref (He.codeOf K p)) A outer s H E) body t ∧ t { nx := fun _ H' => Q .non H', rt := Q } (start N vs) H) : FnOk P w K mg base CX (k + 1) (He.fAd K p) fd ps sp := by
  obtain ⟨oc, od, dV, kV, doc, pm, an, cdv, ct, osl, rfl, lk, hcd, _, _⟩ := F.ex
  obtain ⟨c, rfl⟩ := He.codeIn_ref hcd
  have e : He.codeOf K p = c := He.codeOf_eq lk rfl
  rw [e] at hbody
  exact fn_of lk hcd S len hbody
end
/-! ### a lambda of one parameter, called: its key alone is asked, the heap grows -/
/-- one parameter of its own, captured names, globals -/
structure Lam1 (sc scope : Scope) (x : Str) : Prop where
  kind : scope.kind = .function
  co : scope.isCoroutine = false
  gen : scope.isGenerator = false
  par : scope.names.lookup x = some .local
  nocell : ∀ y ∈ scope.names, y.2 ≠ .cell
  free : ∀ y ∈ scope.names, y.2 = .free → sc.names.lookup y.1 = some .cell ∨ sc.names.lookup y.1 = some .free
def lam1B (sc scope : Scope) (x : Str) : Bool :=
  decide (scope.kind = .function) && (!scope.isCoroutine && (!scope.isGenerator && (decide (scope.names.lookup x = some .local) && ((scope.names.all fun y => !decide (y.2 = .cell)) && (scope.names.all fun y => !decide (y.2 = .free) || decide (sc.names.lookup y.1 = some .cell) || decide (sc.names.lookup y.1 = some .free))))))
theorem lam1_by {sc scope : Scope} {x : Str} (h : lam1B sc scope x = true) : Lam1 sc scope x := by
  unfold lam1B at h
  simp only [Bool.and_eq_true, Bool.or_eq_true, Bool.not_eq_true', decide_eq_true_eq, decide_eq_false_iff_not, List.all_eq_true] at h
  obtain ⟨h1, h2, h3, h4, h5, h6⟩ := h
  refine ⟨h1, h2, h3, h4, h5, fun y hy e => ?_⟩
  rcases h6 y hy with (z | z) | z
  · exact absurd e z
  · exact .inl z
  · exact .inr z
theorem Lam1.has {X : Cx} {scope : Scope} {x : Str} (L : Lam1 X.env.scope scope x) (ok : X.Ok) : ∀ y ∈ scope.names, y.2 = .free → ∃ c, X.env.cells.lookup y.1 = some c := fun y hy e =>
  (L.free y hy e).elim (fun z => ok.has _ (.inl z)) fun z => ok.has _ (.inr z)
section
variable {prog : Program} {w : World} {A : Around} {s : Shared}
theorem lam_call {sc : Scope} {f c' : Addr} {x : Str} {params : Arguments} {body : Expr} {scope : Scope} {cl : List (Str × Addr)} {pm ctv v : Value} {qual : Str} {k : PyData} (L : Lam1 sc scope x)
    (hroom : A.depth < recursionLimit) (hf : s.heap.get? f = some (PySem.W.kla_obj "<lambda>" qual params body scope cl pm c' ctv)) (hcd : s.heap.CodeRec (.ref c') qual) (lim : s.heap.NoLimit)
    (hbind : bindArgs (PySem.W.kla_fn "<lambda>" qual params body scope cl pm (.ref c') ctv) ⟨[v], []⟩ = pure [(x, v)])
    (h : ∀ (D : Addr) (g : Heap) (tk : Nat), (∀ b o, s.heap.get? b = some o → g.get? b = some o) → g.Ns D (fun y => [(x, v)].reverse.lookup y) →
      wpAny (model prog w) (A.deeper (PySem.W.envX qual scope D f (.ref c') cl)) (eval body (PySem.W.envX qual scope D f (.ref c') cl)) (PySem.W.KeyPure k { s with heap := g, toks := tk }) (fun _ _ => False) { s with heap := g, toks := tk }) :
    wpAny (model prog w) A (call (.ref f) [v]) (PySem.W.KeyPure k s) (fun _ _ => False) s := by
  refine wpAny_call (PySem.W.kla_callFunE hroom hf rfl L.co L.gen rfl hcd ?_)
  rw [hbind]
  refine wpAny_pure (wpAny_newFunctionEnv L.nocell (fun y hy => ?_) (fun g hns hsb => ⟨lim.fresh _ hsb, ?_⟩) L.kind)
  · rw [List.mem_singleton.mp hy]
    exact L.par
  · have up : ∀ b o, s.heap.get? b = some o → g.get? b = some o := fun b o e => hsb.extBut b o (Nat.ne_of_lt (Heap.lt_size e)) (Heap.get?_push_of_some _ e)
    refine PySem.W.kla_codeExpr (wpAny_mono (h _ g _ up hns) (fun u t ⟨g2, tk, e, up2, rd⟩ => ?_) fun _ _ z => z.elim)
    exact ⟨g2, tk, e, fun b o q => up2 b o (up b o q), rd⟩
end
/-! ### sorted(e, key=lambda x: body) -/
/-- what stands at the captured names: cells of the running frame, their values -/
def CapAt (X : Cx) (σ : L2.St) (g : Heap) (cl : List (Str × Addr)) : Prop := ∀ (i : Nat) (y : Str) (v : V), X.N[i]? = some y → σ[i]? = some (some v) → (∃ c, cl.lookup y = some c) → ∃ c u, cl.lookup y = some c ∧ RelV v u ∧ g.IsCell c (some u)
theorem capAt_of {X : Cx} {pins : List (Addr × Obj)} {σ : L2.St} {H : Hp} {s : Shared} {scope : Scope} {x : Str} (I : Inv X pins σ H s) (L : Lam1 X.env.scope scope x) : CapAt X σ s.heap (cloFrom X.env.cells scope.names []) := by
  intro i y v hi hv ⟨c, hc⟩
  have hm : (y, NameKind.free) ∈ scope.names := by
    rcases cloFrom_mem (PySem.mem_of_lookup hc) with hm | ⟨h1, _⟩
    · cases hm
    · exact h1
  have hk := L.free _ hm rfl
  obtain ⟨m, _, hl⟩ := I.loc
  obtain ⟨u, r, q⟩ := hl i y v hi hv (hk.elim (fun z => .inr (.inl z)) fun z => .inr (.inr z))
  rcases q with ⟨z, _⟩ | ⟨_, c2, hc2, cell⟩
  · have z : X.env.scope.names.lookup y = some .local := z
    rcases hk with k | k <;> rw [show X.env.scope.names.lookup y = _ from k] at z <;> cases z
  · refine ⟨c, u, hc, r, ?_⟩
    have hc' : (y, c) ∈ cloFrom X.env.cells scope.names [] := PySem.mem_of_lookup hc
    rcases cloFrom_mem hc' with hm | ⟨_, e⟩
    · cases hm
    · rw [e, hc2]
      exact cell
/-- the key's reckoning: k, for the item v, wherever the heap has grown -/
def KeyRun (X : Cx) (σ : L2.St) (body : Expr) (scope : Scope) (x : Str) (s : Shared) (H : Hp) (v : Value) (k : PyData) : Prop :=
  ∀ (A : Around) (qual : Str) (f c' D : Addr) (cl : List (Str × Addr)) (g : Heap) (tk : Nat), X.A.units ≤ A.units → (∀ b o, s.heap.get? b = some o → g.get? b = some o) → CapAt X σ g cl → (∀ y, scope.names.lookup y = some .free → ∃ c, cl.lookup y = some c) →
    g.Ns D (fun y => [(x, v)].reverse.lookup y) → wpAny (model X.prog X.w) A (eval body (PySem.W.envX qual scope D f (.ref c') cl)) (PySem.W.KeyPure k { s with heap := g, toks := tk }) (fun _ _ => False) { s with heap := g, toks := tk }
/-- the reading -/
def tSortL {β : Type} (X : Cx) (T : List (Addr × Str)) (body : Expr) (scope : Scope) (x : Str) (ta : TE) : TE := fun σ H Q => ta σ H fun u H1 => Tabs T H1 ∧ ∃ (l : Addr) (bs : List β) (vf : β → V) (kf : β → PyData), u = .ref l ∧ SqL X.K H1 l (bs.map vf) ∧
  (∀ b ∈ bs, ∀ d ∈ bs, PySem.W.alike (kf b) (kf d) = true) ∧ PySem.W.Sortable (bs.map kf) ∧ (∀ b ∈ bs, (kf b).depth ≤ 60) ∧
  (∀ (pins : List (Addr × Obj)) (s : Shared) (H2 : Hp) (b : β) (v : Value), Inv X pins σ H2 s → ExtN H1 H2 → b ∈ bs → RelV (vf b) v → KeyRun X σ body scope x s H2 v (kf b)) ∧
  ∀ (D : Addr) (H2 : Hp), ExtN H1 H2 → (∀ o, H1 D = some o → ∃ ps, o = .tbl ps) → Tabs T H2 → H2 D = some (.lst ((bs.mergeSort (PySem.W.dataLe false kf)).map vf)) → Q (.ref D) H2
theorem each_of_vals {β : Type} {vf : β → V} : ∀ {bs : List β} {us : List Value}, Vals (bs.map vf) us → PySem.W.EachIs (fun v b => RelV (vf b) v) us bs
  | [], _, .nil => .nil
  | b :: bs, _, .cons r t => .cons r (each_of_vals t)
theorem vals_of_each {β : Type} {vf : β → V} : ∀ {bs : List β} {us : List Value}, PySem.W.EachIs (fun v b => RelV (vf b) v) us bs → Vals (bs.map vf) us
  | [], _, .nil => .nil
  | b :: bs, _, .cons r t => .cons r (vals_of_each t)
section
variable {X : Cx}
theorem pe_sortL {β : Type} {T : List (Addr × Str)} {c P : Addr} {a : Expr} {ta : TE} {params : Arguments} {body : Expr} {scope : Scope} {x : Str} {k : Nat} {lpos kpos p1 pos : Pos} (hr : Room k X.A) (TB : TabB X.base X.mg c P) (hcode : X.env.code = .ref c)
    (hmT : (P, X.env.qual ++ "<lambda>") ∈ T) (hu : ∀ p ∈ T, p.1 = P → p.2 = X.env.qual ++ "<lambda>") (L : Lam1 X.env.scope scope x) (hdef : defaultsOf params X.env = ([], []))
    (hbind : ∀ (q : Str) (cl : List (Str × Addr)) (pm cv ctv v : Value), bindArgs (PySem.W.kla_fn "<lambda>" q params body scope cl pm cv ctv) ⟨[v], []⟩ = pure [(x, v)])
    (hg : Gl X "sorted") (hm : X.mg "sorted" = none) (ha : PE X a ta)
    (he : backTo pos (starEach [a] X.env) = (false, eval a X.env) :: backTo pos (starEach [] X.env) := by rfl) (hpl : (backTo pos (starEach [a] X.env)).any (·.1) = false := by rfl) :
    PE X (.Call (.Name "sorted" p1) [a] [⟨some "key", .Lambda params body scope lpos, kpos⟩] pos) (tSortL (β := β) X T body scope x ta) := by
  refine ⟨fun pins s σ H Q I h => ?_⟩
  refine wpAny_Call_Name_kw (ld_blt I hg hm (show bootBuiltins "sorted" = some (.builtin "sorted") by decide +kernel) ?_ (by decide) (by decide))
  refine PyProof.Rows.callWith_kw ?_ he hpl (by rfl) (by rfl)
  rw [he]
  refine Calls.spliced_cons (thn (ha.run pins s σ H _ I h) fun u s1 ⟨v0, H1, I1, r1, hT, l, bs, vf, kf, e0, hS, al, so, dp, kr, q⟩ => Calls.spliced_nil ?_)
  subst e0
  obtain rfl : u = Value.ref l := r1
  show wpAny _ _ (evalAll ((do let v ← eval (.Lambda params body scope lpos) X.env; standAt pos; pure v) :: [])) _ _ s1
  refine wpAny_evalAll_cons (wpAny_bind (lam_make2 I1 TB hcode hmT hu hT hdef (L.has I1.ok) fun f c' pm ctv H2 s2 I2 eN T2 hf hfn hfr hco => wpAny_bind (wpAny_standAt (wpAny_pure (wpAny_evalAll_nil ?_)))))
  show wpAny _ _ (call (.builtin "sorted") [.ref l] [(Str.ofString "key", .ref f)]) _ _ s2
  have hS2 : SqL X.K H2 l (bs.map vf) := by
    rcases hS with hS | hS
    · rcases hS with hS | ⟨o, hS⟩
      · exact .inl (.inl (eN _ _ hS fun ps z => by cases z))
      · exact .inl (.inr ⟨o, eN _ _ hS fun ps z => by cases z⟩)
    · exact .inr hS
  obtain ⟨its, rv, hl, hz⟩ := I2.list hS2
  rw [List.length_map] at hz
  have hcr := (show ∃ (oc : Obj) (vs : Array Value) (t : Tok), s2.heap.get? c' = some oc ∧ oc.data = .fields vs ∧ vs[1]? = some (.str (X.env.qual ++ "<lambda>") t) from (I2.hok c' _ hco).1)
  have ea := each_of_vals rv
  refine PySem.W.sorted_key_data (b := false) (bs := bs) (R := fun v b => RelV (vf b) v) kf hl.isList ea ?_ so hz (fun b hb => ?_) (PyProof.Rows.ksk_s1 _ _) (fun _ => PyProof.Rows.ksk_l1 _ _) (fun _ => PyProof.Rows.ksk_t1 _ _)
    (fun v b rb hb g tk up => ?_) fun out cc g tk up hD hD2 hlen eo => ?_
  · intro d hd e he
    obtain ⟨b, hb, rfl⟩ := List.mem_map.mp hd
    obtain ⟨b2, hb2, rfl⟩ := List.mem_map.mp he
    exact al b hb b2 hb2
  · have z1 := hr.units
    have z2 := dp b hb
    omega
  · have I3 : Inv X pins σ H2 { s2 with heap := g, toks := tk } := I2.kept up
    obtain ⟨oc, vs, t, h1, h2, h3⟩ := hcr
    refine lam_call L (by show X.A.depth < _; exact hr.depth) (up _ _ hf) ⟨c', oc, vs, t, rfl, up _ _ h1, h2, h3⟩ I3.nolimit (hbind _ _ _ _ _ _) fun D g2 tk2 up2 hns => ?_
    refine kr pins _ H2 b v I3 eN hb rb _ _ _ _ _ _ g2 tk2 (by show X.A.units ≤ X.A.units + 1 + 1 + 3; omega) up2 ?_ (fun y hy => ?_) hns
    · intro i y w hi hw hc
      obtain ⟨c0, u0, a1, a2, o, a3, a4⟩ := capAt_of I3 L i y w hi hw hc
      exact ⟨c0, u0, a1, a2, o, up2 _ _ a3, a4⟩
    · exact mem_lookup (cloFrom_has (cells := X.env.cells) (acc := []) (PySem.mem_of_lookup hy))
  · have hlen2 : ((bs.mergeSort (PySem.W.dataLe false kf)).map vf).length ≤ sizeLine := by
      rw [List.length_map, List.length_mergeSort]
      exact hz
    have hnew : H2 (s2.heap.objs.size + 1) = none := I2.hok.fresh (Nat.le_succ _)
    have vo := vals_of_each eo
    refine ⟨.ref (s2.heap.objs.size + 1), upd H2 (s2.heap.objs.size + 1) (.lst ((bs.mergeSort (PySem.W.dataLe false kf)).map vf)), I2.laid (t' := tk) up (Nat.le_succ _) ⟨hlen2, out, cc, vo, hD2⟩, rfl, ?_⟩
    refine q _ _ (fun b o e n => ?_) (fun o e1 => ?_) (T2.ext fun b o e => ?_) upd_same
    · rw [upd_ne (ne_of_none (eN _ _ e n) hnew)]
      exact eN _ _ e n
    · cases o with
      | tbl ps => exact ⟨ps, rfl⟩
      | _ =>
        rw [eN _ _ e1 (fun ps z => by cases z)] at hnew
        cases hnew
    · rw [upd_ne (ne_of_none e hnew)]
      exact e
end
end SL
set_option Elab.async false
set_option linter.all false
set_option maxRecDepth 100000
set_option maxHeartbeats 4000000
namespace SL
open PySem PySem.Spec PyProof.Rows L2 CM LamX
/-! ### tables stay -/
theorem Tabs.kp {T : List (Addr × Str)} {a : Addr} {xs : List V} {H H' : Hp} (t : Tabs T H) (ha : H a = some (.lst xs)) (k : Kp a H H') : Tabs T H' := fun p hp => by
  obtain ⟨ps, h1, h2, h3⟩ := t p hp
  have ne : ∀ {b : Addr} {o : HO}, H b = some o → (∀ ys, o ≠ .lst ys) → b ≠ a := fun {b o} e n z => by
    rw [z, ha] at e
    exact n xs (Option.some.inj e).symm
  refine ⟨ps, k _ _ (ne h1 fun ys z => by cases z) h1, h2, fun pos cv hc => ?_⟩
  obtain ⟨c, e1, e2⟩ := h3 pos cv hc
  exact ⟨c, e1, k _ _ (ne e2 fun ys z => by unfold CodeO at z; cases z) e2⟩
theorem Tabs.same {T : List (Addr × Str)} {H H' : Hp} (t : Tabs T H) (s : Same H H') : Tabs T H' := t.ext s
/-- all but the thing at a and the tables stays -/
def KpN (a : Addr) (H H' : Hp) : Prop := ∀ b o, b ≠ a → (∀ ps, o ≠ .tbl ps) → H b = some o → H' b = some o
theorem KpN.of {a : Addr} {H H' : Hp} (k : Kp a H H') : KpN a H H' := fun b o n _ e => k b o n e
theorem KpN.ext {a : Addr} {H H' : Hp} (k : ExtN H H') : KpN a H H' := fun b o _ n e => k b o e n
theorem KpN.trans {a : Addr} {H H1 H2 : Hp} (x : KpN a H H1) (y : KpN a H1 H2) : KpN a H H2 := fun b o n m e => y b o n m (x b o n m e)
theorem ExtN.of_same {H H' : Hp} (s : Same H H') : ExtN H H' := fun b o e _ => s b o e
theorem ExtN.seqL {K : PySem.W.Frag} {H H' : Hp} {a : Addr} {xs : List V} (e : ExtN H H') (h : SqL K H a xs) : SqL K H' a xs := by
  rcases h with (h | ⟨o, h⟩) | h
  · exact .inl (.inl (e _ _ h fun ps z => by cases z))
  · exact .inl (.inr ⟨o, e _ _ h fun ps z => by cases z⟩)
  · exact .inr h
theorem one_tab {P P' : Addr} {q q' : Str} (e : q = q') : ∀ p ∈ [(P', q)], p.1 = P → p.2 = q' := fun p hp _ => by rw [List.mem_singleton.mp hp]; exact e
/-! ### the key (m[x], x) -/
/-- a leaf as data -/
inductive LeafD : V → PyData → Prop where
  | int (i : Int) : LeafD (.int i) (.int i)
  | str (z : Str) : LeafD (.str z) (.str z)
theorem LeafD.reads {w : V} {d : PyData} {u : Value} {h : Heap} (l : LeafD w d) (r : RelV w u) : Reads h u d [] := by
  cases l with
  | int i =>
    obtain ⟨t, rfl⟩ := r
    exact .int i t
  | str z =>
    obtain ⟨t, rfl⟩ := r
    exact .str z t
theorem ns_one {x : Str} {v : Value} : [(x, v)].reverse.lookup x = some v := by simp [List.lookup]
theorem kr_pair {X : Cx} {pins : List (Addr × Obj)} {σ : L2.St} {H : Hp} {s : Shared} {scope : Scope} {m x : Str} {i b : Nat} {l : Addr} {items : List V} {w : V} {d : PyData} {v : Value} {ctx : Nat} {p1 p2 p3 p4 p5 : Pos} (I : Inv X pins σ H s)
    (kind : scope.kind = .function) (hm : scope.names.lookup m = some .free) (hx : scope.names.lookup x = some .local) (hN : X.N[i]? = some m) (hs : σ[i]? = some (some (.ref l))) (hl : SqL X.K H l items) (hb : items[b]? = some w) (ld : LeafD w d) (rv : RelV (.int (b : Int)) v)
    (dm : (m == ("__debug__" : Str)) = false := by decide) (dx : (x == ("__debug__" : Str)) = false := by decide) (cm : (m == ("__classdict__" : Str)) = false := by decide) :
    KeyRun X σ (.Tuple [.Subscript (.Name m p1) (.Name x p2) p3, .Name x p4] ctx p5) scope x s H v (.tuple [d, .int (b : Int)]) := by
  intro A qual f c' D cl g tk hu up cap has hns
  obtain ⟨its, rvs, pl, hz⟩ := I.list hl
  obtain ⟨c0, u0, hc0, r0, cell⟩ := cap i m (.ref l) hN hs (has m hm)
  cases (show u0 = Value.ref l from r0)
  obtain ⟨t, rfl⟩ := rv
  obtain ⟨w', ew, rw'⟩ := rvs.get hb
  have hlen := (List.getElem?_eq_some_iff.mp hb).1
  have hl63 := line63
  refine wpAny_Tuple_spliced ?_
  show wpAny _ _ (spliced ((false, eval (.Subscript (.Name m p1) (.Name x p2) p3) (PySem.W.envX qual scope D f (.ref c') cl)) :: (false, eval (.Name x p4) (PySem.W.envX qual scope D f (.ref c') cl)) :: [])) _ _ _
  refine Calls.spliced_cons (Subscript_ (wpAny_Name (wpAny_loadName_free kind hm hc0 cell ?_ cm) dm))
  refine wpAny_Name (wpAny_loadName_local kind hx hns ns_one ?_) dx
  have pl2 : g.IsList l its.toArray := by
    obtain ⟨o, h1, h2, n, h3⟩ := pl.isList
    exact ⟨o, up _ _ h1, h2, n, h3⟩
  refine item_listR (x := w') pl2 (by omega) (by omega) (by rw [Int.toNat_natCast]; simpa using ew) ?_ (by rfl)
  refine Calls.spliced_cons (wpAny_Name (wpAny_loadName_local kind hx hns ns_one (Calls.spliced_nil ⟨by show 2 ≤ sizeLine; decide, ?_⟩)) dx)
  refine ⟨_, _, rfl, fun b o e => Heap.get?_push_of_some _ e, ?_⟩
  exact Reads.tuple (as := [] ++ ([] ++ [])) (Heap.get?_push_size _ rfl) rfl rfl (.cons (ld.reads rw') (.cons (.int _ t) .nil))
/-! ### {k: v for x in a list} -/
theorem dc_list {K : PySem.W.Frag} {a : Addr} {xs : List V} {g : TG} {tt : TT} {tk tv : TE} {vs : List Nat} {σ : L2.St} {H1 : Hp} {D : Addr} {Qd : Hp → Prop} (Pv : Nat → Hp → Prop) (h0 : Pv 0 (upd H1 D (.dK []))) (hl : ∀ i H, i ≤ xs.length → Pv i H → SqL K H a xs)
    (hs : ∀ i x H, xs[i]? = some x → Pv i H → g x (wipe σ vs) H fun σ2 H2 => wipe σ2 vs = wipe σ vs ∧ tt σ2 H2 fun b H3 =>
      if b = true then tk σ2 H3 fun y H4 => tv σ2 H4 fun z H5 => ∃ kvs k, y = kV k ∧ H5 D = some (.dK kvs) ∧ kvs.length < sizeLine ∧ Pv (i + 1) (upd H5 D (.dK (putK kvs k z))) else Pv (i + 1) H3) (hd : ∀ H, Pv xs.length H → Qd H) :
    ∃ W : Nat → Nat → Hp → Prop, (∃ m, W 0 m (upd H1 D (.dK []))) ∧ ∀ i m H, W i m H →
      ((Itl K a).stop i H ∧ Qd H) ∨ ((Itl K a).go i H ∧ ∃ Nx : Hp → Prop, (∀ H', Nx H' → ∃ m', m' < m ∧ W (i + 1) m' H') ∧ ∀ x H', (Itl K a).yld i H x H' → g x (wipe σ vs) H' fun σ2 H2 => wipe σ2 vs = wipe σ vs ∧ tt σ2 H2 fun b H3 =>
        if b = true then tk σ2 H3 fun y H4 => tv σ2 H4 fun z H5 => ∃ kvs k, y = kV k ∧ H5 D = some (.dK kvs) ∧ kvs.length < sizeLine ∧ Nx (upd H5 D (.dK (putK kvs k z))) else Nx H3) := by
  refine ⟨fun i m H => m + i = xs.length ∧ Pv i H, ⟨xs.length, rfl, h0⟩, fun i m H ⟨e, p⟩ => ?_⟩
  have q := hl i H (by omega) p
  cases m with
  | zero =>
    have e : i = xs.length := by omega
    subst e
    exact .inl ⟨⟨xs, q, Nat.le_refl _⟩, hd H p⟩
  | succ m =>
    have hlt : i < xs.length := by omega
    refine .inr ⟨⟨xs, xs[i], q, List.getElem?_eq_getElem hlt⟩, Pv (i + 1), fun H' p' => ⟨m, Nat.lt_succ_self m, by omega, p'⟩, fun x H' y => ?_⟩
    obtain ⟨rfl, y⟩ := y
    exact hs i x _ (y xs q) p
/-! ### the first half of a sorted row -/
theorem count_take {α : Type} [BEq α] {lt : α → α → Bool} (irr : ∀ a, lt a a = false) (asy : ∀ a b, lt a b = true → lt b a = false) : ∀ {xs : List α} {h : Nat} {x : α}, xs.Pairwise (fun a b => lt a b = true) → x ∈ xs → (x ∈ xs.take h ↔ (xs.filter fun y => lt y x).length < h)
  | [], _, _, _, hx => by cases hx
  | a :: as, 0, x, _, _ => by
    simp
  | a :: as, h + 1, x, hp, hx => by
    obtain ⟨h1, h2⟩ := List.pairwise_cons.mp hp
    rw [List.take_succ_cons, List.mem_cons, List.filter_cons]
    by_cases e : x = a
    · subst e
      have f : as.filter (fun y => lt y x) = [] := by
        rw [List.filter_eq_nil_iff]
        intro y hy z
        rw [asy _ _ (h1 y hy)] at z
        cases z
      rw [irr, f]
      simp
    · have hx2 : x ∈ as := (List.mem_cons.mp hx).resolve_left e
      have ih := count_take (h := h) irr asy h2 hx2
      rw [h1 x hx2]
      simp only [e, false_or, if_true, List.length_cons]
      rw [ih]
      omega
/-- the numbers below n that a strict order puts ahead of i -/
def aheadN (lt : Nat → Nat → Bool) (n i : Nat) : Nat := ((List.range n).filter fun k => lt k i).length
theorem in_half {lt : Nat → Nat → Bool} (irr : ∀ a, lt a a = false) (tr : ∀ a b c, lt a b = true → lt b c = true → lt a c = true) (tot : ∀ a b, a ≠ b → lt a b = true ∨ lt b a = true) {le : Nat → Nat → Bool} (hle : ∀ a b, le a b = !lt b a) {n h i : Nat} (hi : i < n) :
    i ∈ ((List.range n).mergeSort le).take h ↔ aheadN lt n i < h := by
  have asy : ∀ a b, lt a b = true → lt b a = false := fun a b e => by
    cases q : lt b a with
    | false => rfl
    | true =>
      have z := tr a b a e q
      rw [irr] at z
      cases z
  have perm := List.mergeSort_perm (List.range n) le
  have nd : ((List.range n).mergeSort le).Nodup := perm.nodup_iff.mpr List.nodup_range
  have pw := List.pairwise_mergeSort (le := le) (fun a b c h1 h2 => by
    rw [hle] at h1 h2 ⊢
    simp only [Bool.not_eq_true'] at h1 h2 ⊢
    cases q : lt c a with
    | false => rfl
    | true =>
      by_cases e1 : a = b
      · subst e1
        rw [q] at h2
        cases h2
      · rcases tot a b e1 with z | z
        · rw [tr c a b q z] at h2
          cases h2
        · rw [h1] at z
          cases z) (fun a b => by
    rw [hle, hle]
    cases q : lt b a with
    | false => rfl
    | true => rw [asy _ _ q]; rfl) (List.range n)
  have ps : ((List.range n).mergeSort le).Pairwise (fun a b => lt a b = true) := by
    have both := pw.and nd
    refine both.imp fun {a b} ⟨h1, h2⟩ => ?_
    rw [hle] at h1
    simp only [Bool.not_eq_true'] at h1
    rcases tot a b h2 with z | z
    · exact z
    · rw [h1] at z
      cases z
  have hm : i ∈ (List.range n).mergeSort le := perm.mem_iff.mpr (List.mem_range.mpr hi)
  rw [count_take irr asy ps hm]
  unfold aheadN
  rw [(perm.filter _).length_eq]
/-! ### max of three -/
theorem call_max3 {X : Cx} (hc : X.calm = true) : CallR X (.builtin "max") (fun xs H Q => ∃ i j k, xs = [.int i, .int j, .int k] ∧ Q (.int (max (max i j) k)) H) := by
  intro pins s σ H xs us Q I r h
  obtain ⟨i, j, k, rfl, q⟩ := h
  obtain ⟨u, us2, rfl, r2⟩ : ∃ u us2, us = u :: us2 ∧ Vals [.int j, .int k] us2 ∧ RelV (.int i) u := by
    cases r with
    | cons a b => exact ⟨_, _, rfl, b, a⟩
  obtain ⟨v, w, rfl, ⟨t2, rfl⟩, ⟨t3, rfl⟩⟩ := vals2 r2.1
  obtain ⟨t1, rfl⟩ := r2.2
  refine max_three_ints (I.ok.hd hc) fun h' tk kp => ⟨_, H, I.kept kp, ?_, q⟩
  by_cases h1 : j > i <;> by_cases h2 : k > j <;> by_cases h3 : k > i <;> simp only [h1, h2, h3, if_true, if_false]
  all_goals first
    | (rw [show max (max i j) k = k by omega]; exact ⟨_, rfl⟩)
    | (rw [show max (max i j) k = j by omega]; exact ⟨_, rfl⟩)
    | (rw [show max (max i j) k = i by omega]; exact ⟨_, rfl⟩)
/-! ### marks that are ints, in their order -/
def ltI (ns : List Int) (a b : Nat) : Bool := decide (ns.getD a 0 < ns.getD b 0 ∨ (ns.getD a 0 = ns.getD b 0 ∧ a < b))
theorem ltI_irr (ns : List Int) (a : Nat) : ltI ns a a = false := decide_eq_false (by omega)
theorem ltI_tr (ns : List Int) (a b c : Nat) (h1 : ltI ns a b = true) (h2 : ltI ns b c = true) : ltI ns a c = true := by
  have h1 := of_decide_eq_true h1
  have h2 := of_decide_eq_true h2
  exact decide_eq_true (by omega)
theorem ltI_tot (ns : List Int) (a b : Nat) (h : a ≠ b) : ltI ns a b = true ∨ ltI ns b a = true := by
  by_cases q : ns.getD a 0 < ns.getD b 0 ∨ (ns.getD a 0 = ns.getD b 0 ∧ a < b)
  · exact .inl (decide_eq_true q)
  · exact .inr (decide_eq_true (by omega))
def keyI (ns : List Int) (b : Nat) : PyData := .tuple [.int (ns.getD b 0), .int (b : Int)]
theorem leI (ns : List Int) : PySem.W.dataLe false (keyI ns) = fun a b => !ltI ns b a := by
  have z := PySem.W.dataLe_ii (β := Nat) (fun b => ns.getD b 0) (fun b => (b : Int))
  have z2 : PySem.W.dataLe false (keyI ns) = fun p q => decide (ns.getD p 0 < ns.getD q 0 ∨ (ns.getD p 0 = ns.getD q 0 ∧ (p : Int) ≤ (q : Int))) := z
  rw [z2]
  funext p q
  unfold ltI
  by_cases h : ns.getD q 0 < ns.getD p 0 ∨ (ns.getD q 0 = ns.getD p 0 ∧ q < p)
  · rw [decide_eq_true h, decide_eq_false (by omega)]
    rfl
  · rw [decide_eq_false h, decide_eq_true (by omega)]
    rfl
/-- what halves_by tells of marks in a strict order -/
def halvesL (lt : Nat → Nat → Bool) (n : Nat) : List V := (List.range n).map fun i => V.int (if aheadN lt n i < n / 2 then 0 else 1)
theorem cut_half {ord : List Nat} {ms : List V} {n : Nat} (lo : ord.length = n) (lm : ms.length = n) : cutV (ord.map fun b : Nat => V.int (b : Int)) none (some ((ms.length : Int) / 2)) = (ord.take (n / 2)).map fun b : Nat => V.int (b : Int) := by
  have l1 : (ord.map fun b : Nat => V.int (b : Int)).length = n := by rw [List.length_map, lo]
  have e : HT.sIx n n (some ((n : Int) / 2)) = n / 2 := by
    rw [show (n : Int) / 2 = ((n / 2 : Nat) : Int) by omega, HT.sIx_nat]
    omega
  have e0 : HT.sIx n 0 none = 0 := rfl
  unfold cutV
  rw [lm, l1, e, e0, List.drop_zero, Nat.sub_zero, List.map_take]
theorem halvesL_at {lt : Nat → Nat → Bool} {n j : Nat} (h : j < n) : (halvesL lt n)[j]? = some (V.int (if aheadN lt n j < n / 2 then 0 else 1)) := by
  unfold halvesL
  rw [List.getElem?_map, List.getElem?_range h]
  rfl
end SL
set_option Elab.async false
set_option linter.all false
set_option maxRecDepth 100000
set_option maxHeartbeats 2000000
namespace K11
open PySem PySem.Spec PyProof.Rows L2 CM LamX
def topS (i : Nat) : Stmt := PySem.Challenge.pw_kindgrove_k11_ranges.main.body.getD i (.Pass ⟨0, 0, 0, 0⟩)
abbrev s_NotGiven___init : Stmt := inClass (topS 2) 0
abbrev n_NotGiven___init : List Str := ["self", "name"]
theorem sc_NotGiven___init : FnScope n_NotGiven___init ["self", "name"] (defScope s_NotGiven___init) := ⟨rfl, rfl, rfl, by decide +kernel, rfl, by decide +kernel, by decide +kernel⟩
abbrev s_halves_by : Stmt := topS 4
abbrev n_halves_by : List Str := ["marks", "order", "first", "at"]
theorem sc_halves_by : FnScope n_halves_by ["marks"] (defScope s_halves_by) := ⟨rfl, rfl, rfl, by decide +kernel, rfl, by decide +kernel, by decide +kernel⟩
abbrev s_Kind_own : Stmt := inClass (topS 6) 0
abbrev n_Kind_own : List Str := ["self", "key"]
theorem sc_Kind_own : FnScope n_Kind_own ["self", "key"] (defScope s_Kind_own) := ⟨rfl, rfl, rfl, by decide +kernel, rfl, by decide +kernel, by decide +kernel⟩
abbrev s_Kind_join : Stmt := inClass (topS 6) 1
abbrev n_Kind_join : List Str := ["self", "one", "other"]
theorem sc_Kind_join : FnScope n_Kind_join ["self", "one", "other"] (defScope s_Kind_join) := ⟨rfl, rfl, rfl, by decide +kernel, rfl, by decide +kernel, by decide +kernel⟩
abbrev s_Kind_consistent : Stmt := inClass (topS 6) 2
abbrev n_Kind_consistent : List Str := ["self", "label", "question"]
theorem sc_Kind_consistent : FnScope n_Kind_consistent ["self", "label", "question"] (defScope s_Kind_consistent) := ⟨rfl, rfl, rfl, by decide +kernel, rfl, by decide +kernel, by decide +kernel⟩
abbrev s_Kind_matches : Stmt := inClass (topS 6) 3
abbrev n_Kind_matches : List Str := ["self", "key", "question"]
theorem sc_Kind_matches : FnScope n_Kind_matches ["self", "key", "question"] (defScope s_Kind_matches) := ⟨rfl, rfl, rfl, by decide +kernel, rfl, by decide +kernel, by decide +kernel⟩
abbrev s_Kind_penalty : Stmt := inClass (topS 6) 4
abbrev n_Kind_penalty : List Str := ["self", "label", "key"]
theorem sc_Kind_penalty : FnScope n_Kind_penalty ["self", "label", "key"] (defScope s_Kind_penalty) := ⟨rfl, rfl, rfl, by decide +kernel, rfl, by decide +kernel, by decide +kernel⟩
abbrev s_Kind_sides : Stmt := inClass (topS 6) 5
abbrev n_Kind_sides : List Str := ["self", "labels", "half"]
theorem sc_Kind_sides : FnScope n_Kind_sides ["self", "labels"] (defScope s_Kind_sides) := ⟨rfl, rfl, rfl, by decide +kernel, rfl, by decide +kernel, by decide +kernel⟩
abbrev s_Measured_distance : Stmt := inClass (topS 7) 0
abbrev n_Measured_distance : List Str := ["self", "key", "point"]
theorem sc_Measured_distance : FnScope n_Measured_distance ["self", "key", "point"] (defScope s_Measured_distance) := ⟨rfl, rfl, rfl, by decide +kernel, rfl, by decide +kernel, by decide +kernel⟩
abbrev s_Measured_bound : Stmt := inClass (topS 7) 1
abbrev n_Measured_bound : List Str := ["self", "label", "point"]
theorem sc_Measured_bound : FnScope n_Measured_bound ["self", "label", "point"] (defScope s_Measured_bound) := ⟨rfl, rfl, rfl, by decide +kernel, rfl, by decide +kernel, by decide +kernel⟩
abbrev s_Ranges_own : Stmt := inClass (topS 9) 0
abbrev n_Ranges_own : List Str := ["self", "key"]
theorem sc_Ranges_own : FnScope n_Ranges_own ["self", "key"] (defScope s_Ranges_own) := ⟨rfl, rfl, rfl, by decide +kernel, rfl, by decide +kernel, by decide +kernel⟩
abbrev s_Ranges_join : Stmt := inClass (topS 9) 1
abbrev n_Ranges_join : List Str := ["self", "one", "other"]
theorem sc_Ranges_join : FnScope n_Ranges_join ["self", "one", "other"] (defScope s_Ranges_join) := ⟨rfl, rfl, rfl, by decide +kernel, rfl, by decide +kernel, by decide +kernel⟩
abbrev s_Ranges_consistent : Stmt := inClass (topS 9) 2
abbrev n_Ranges_consistent : List Str := ["self", "label", "question"]
theorem sc_Ranges_consistent : FnScope n_Ranges_consistent ["self", "label", "question"] (defScope s_Ranges_consistent) := ⟨rfl, rfl, rfl, by decide +kernel, rfl, by decide +kernel, by decide +kernel⟩
abbrev s_Ranges_matches : Stmt := inClass (topS 9) 3
abbrev n_Ranges_matches : List Str := ["self", "key", "question"]
theorem sc_Ranges_matches : FnScope n_Ranges_matches ["self", "key", "question"] (defScope s_Ranges_matches) := ⟨rfl, rfl, rfl, by decide +kernel, rfl, by decide +kernel, by decide +kernel⟩
abbrev s_Ranges_penalty : Stmt := inClass (topS 9) 4
abbrev n_Ranges_penalty : List Str := ["self", "label", "key"]
theorem sc_Ranges_penalty : FnScope n_Ranges_penalty ["self", "label", "key"] (defScope s_Ranges_penalty) := ⟨rfl, rfl, rfl, by decide +kernel, rfl, by decide +kernel, by decide +kernel⟩
abbrev s_Ranges_sides : Stmt := inClass (topS 9) 5
abbrev n_Ranges_sides : List Str := ["self", "labels", "low", "high"]
theorem sc_Ranges_sides : FnScope n_Ranges_sides ["self", "labels"] (defScope s_Ranges_sides) := ⟨rfl, rfl, rfl, by decide +kernel, rfl, by decide +kernel, by decide +kernel⟩
abbrev s_Ranges_distance : Stmt := inClass (topS 9) 6
abbrev n_Ranges_distance : List Str := ["self", "key", "point"]
theorem sc_Ranges_distance : FnScope n_Ranges_distance ["self", "key", "point"] (defScope s_Ranges_distance) := ⟨rfl, rfl, rfl, by decide +kernel, rfl, by decide +kernel, by decide +kernel⟩
abbrev s_Ranges_bound : Stmt := inClass (topS 9) 7
abbrev n_Ranges_bound : List Str := ["self", "label", "point"]
theorem sc_Ranges_bound : FnScope n_Ranges_bound ["self", "label", "point"] (defScope s_Ranges_bound) := ⟨rfl, rfl, rfl, by decide +kernel, rfl, by decide +kernel, by decide +kernel⟩
abbrev s_hull : Stmt := topS 10
abbrev n_hull : List Str := ["one", "other"]
theorem sc_hull : FnScope n_hull ["one", "other"] (defScope s_hull) := ⟨rfl, rfl, rfl, by decide +kernel, rfl, by decide +kernel, by decide +kernel⟩
abbrev s_share_integer : Stmt := topS 11
abbrev n_share_integer : List Str := ["one", "other"]
theorem sc_share_integer : FnScope n_share_integer ["one", "other"] (defScope s_share_integer) := ⟨rfl, rfl, rfl, by decide +kernel, rfl, by decide +kernel, by decide +kernel⟩
abbrev s_width_of : Stmt := topS 12
abbrev n_width_of : List Str := ["span"]
theorem sc_width_of : FnScope n_width_of ["span"] (defScope s_width_of) := ⟨rfl, rfl, rfl, by decide +kernel, rfl, by decide +kernel, by decide +kernel⟩
abbrev s_gap : Stmt := topS 13
abbrev n_gap : List Str := ["span", "number"]
theorem sc_gap : FnScope n_gap ["span", "number"] (defScope s_gap) := ⟨rfl, rfl, rfl, by decide +kernel, rfl, by decide +kernel, by decide +kernel⟩
abbrev s_law_well : Stmt := topS 15
abbrev n_law_well : List Str := ["_law_cell"]
theorem sc_law_well : FnScope n_law_well ["_law_cell"] (defScope s_law_well) := ⟨rfl, rfl, rfl, by decide +kernel, rfl, by decide +kernel, by decide +kernel⟩
abbrev s_law_draw : Stmt := topS 16
abbrev n_law_draw : List Str := ["_law_well_here", "_law_many", "_law_digit", "_law_number", "_law_more"]
theorem sc_law_draw : FnScope n_law_draw ["_law_well_here", "_law_many"] (defScope s_law_draw) := ⟨rfl, rfl, rfl, by decide +kernel, rfl, by decide +kernel, by decide +kernel⟩
abbrev s_law_one : Stmt := topS 17
abbrev n_law_one : List Str := ["_law_well_here", "_law_some"]
theorem sc_law_one : FnScope n_law_one ["_law_well_here", "_law_some"] (defScope s_law_one) := ⟨rfl, rfl, rfl, by decide +kernel, rfl, by decide +kernel, by decide +kernel⟩
abbrev s_law_signed : Stmt := topS 18
abbrev n_law_signed : List Str := ["_law_well_here", "_law_size"]
theorem sc_law_signed : FnScope n_law_signed ["_law_well_here", "_law_size"] (defScope s_law_signed) := ⟨rfl, rfl, rfl, by decide +kernel, rfl, by decide +kernel, by decide +kernel⟩
abbrev s_law_span : Stmt := topS 19
abbrev n_law_span : List Str := ["_law_well_here", "_law_size", "_law_low"]
theorem sc_law_span : FnScope n_law_span ["_law_well_here", "_law_size"] (defScope s_law_span) := ⟨rfl, rfl, rfl, by decide +kernel, rfl, by decide +kernel, by decide +kernel⟩
abbrev s_law_has : Stmt := topS 20
abbrev n_law_has : List Str := ["_law_span_here", "_law_number"]
theorem sc_law_has : FnScope n_law_has ["_law_span_here", "_law_number"] (defScope s_law_has) := ⟨rfl, rfl, rfl, by decide +kernel, rfl, by decide +kernel, by decide +kernel⟩
abbrev s_law_shares : Stmt := topS 21
abbrev n_law_shares : List Str := ["_law_one_here", "_law_two"]
theorem sc_law_shares : FnScope n_law_shares ["_law_one_here", "_law_two"] (defScope s_law_shares) := ⟨rfl, rfl, rfl, by decide +kernel, rfl, by decide +kernel, by decide +kernel⟩
abbrev s_law_halves : Stmt := topS 22
abbrev n_law_halves : List Str := ["_law_numbers", "_law_found", "_law_at", "_law_number", "_law_ahead", "_law_k"]
theorem sc_law_halves : FnScope n_law_halves ["_law_numbers"] (defScope s_law_halves) := ⟨rfl, rfl, rfl, by decide +kernel, rfl, by decide +kernel, by decide +kernel⟩
abbrev s_law_far : Stmt := topS 23
abbrev n_law_far : List Str := ["_law_span_here", "_law_number"]
theorem sc_law_far : FnScope n_law_far ["_law_span_here", "_law_number"] (defScope s_law_far) := ⟨rfl, rfl, rfl, by decide +kernel, rfl, by decide +kernel, by decide +kernel⟩
abbrev s_law_right : Stmt := topS 24
abbrev n_law_right : List Str := ["_law_well_here", "_law_made", "_law_size", "_law_turn", "_law_one_here", "_law_two", "_law_item", "_law_spot", "_law_asked", "_law_both", "_law_wide", "_law_tags", "_law_k", "_law_low", "_law_high"]
theorem sc_law_right : FnScope n_law_right ["_law_well_here"] (defScope s_law_right) := ⟨rfl, rfl, rfl, by decide +kernel, rfl, by decide +kernel, by decide +kernel⟩
abbrev s_law : Stmt := topS 25
abbrev n_law : List Str := ["_law_script", "_law_cell"]
theorem sc_law : FnScope n_law ["_law_script"] (defScope s_law) := ⟨rfl, rfl, rfl, by decide +kernel, rfl, by decide +kernel, by decide +kernel⟩
abbrev FnP (K : PySem.W.Frag) (x q : Str) (st : Stmt) (f : Addr) (fd : FuncData) : Prop := FunD K x q (defArgs st) (defBody st) (defScope st) [] [] f fd
section
variable {P : Program} {w : World} {K : PySem.W.Frag} {mg : Str → Option Value} {base : Heap}
/-- a number of draws to be divided by -/
structure Sz (m : Int) : Prop where
  lt : m.natAbs.log2 < 9000
theorem Sz.of {m : Int} {k : Nat} (h : m.natAbs < 2 ^ k) (hk : k ≤ 9000) : Sz m := by
  refine ⟨?_⟩
  cases k with
  | zero =>
    have : m.natAbs = 0 := by omega
    rw [this]
    decide
  | succ k => exact Nat.lt_of_lt_of_le (PySem.Flt.log2_lt_of (Nat.succ_pos k) h) hk
def spWell : Sp := fun vs H Q _ => ∃ i : Int, vs = [.int i] ∧ ∀ p, H p = none → Q (.ref p) (upd H p (.lst [.int i, .int 0]))
def spDraw : Sp := fun vs H Q _ => ∃ (a : Addr) (x c m : Int), vs = [.ref a, .int m] ∧ H a = some (.lst [.int x, .int c]) ∧ 0 < m ∧ Sz m ∧
  ∀ r x' c' : Int, 0 ≤ r → r < m → Q (.int r) (upd H a (.lst [.int x', .int c']))
theorem ok_well {f : Addr} {fd : FuncData} {k : Nat} (F : FnP K "_law_well" "_law_well" s_law_well f fd) (m_int : mg "int" = none) : FnOk P w K mg base CX0 (k + 1) f fd ["_law_cell"] spWell := by
  refine F.ok sc_law_well (fun vs H Q E h => ?_) (fun cdv A outer s H vs Q E hr h => ?_)
  · obtain ⟨i, rfl, _⟩ := h
    rfl
  · obtain ⟨i, rfl, q⟩ := h
    refine ⟨_, pss_one (ps_ret (pe_lst (pa_cons (pe_callTy call_int1 (by rfl) m_int boot_int (pa_cons (pv 0) pa_nil)) (pa_cons pe_int pa_nil)))), ?_⟩
    exact ⟨_, rfl, .inl ⟨i, rfl, ⟨by show 2 ≤ sizeLine; decide, fun p hp => q p hp⟩⟩⟩
theorem ok_draw {f : Addr} {fd : FuncData} {k : Nat} (F : FnP K "_law_draw" "_law_draw" s_law_draw f fd) (m_int : mg "int" = none) : FnOk P w K mg base CX0 (k + 1) f fd ["_law_well_here", "_law_many"] spDraw := by
  refine F.ok sc_law_draw (fun vs H Q E h => ?_) (fun cdv A outer s H vs Q E hr h => ?_)
  · obtain ⟨a, x, c, m, rfl, _⟩ := h
    rfl
  · obtain ⟨a, x, c, m, rfl, ha, m0, m1, q⟩ := h
    refine ⟨_, pss_cons (ps_if (pt_cmpR op_ge (pe_ix ix_list (pv 0) pe_int (fun _ _ => rfl)) (pe_op op_pow pe_int pe_int) (nomark _)) (pss_cons (ps_set (i := 2) sc_law_draw.nd rfl (.inl rfl) (pe_op op_mod (pe_callTy call_int1 (by rfl) m_int boot_int (pa_cons (pe_ix ix_list (pv 0) pe_int (fun _ _ => rfl)) pa_nil)) (pv 1)))
      (pss_cons (ps_asg (pe_op op_fdivW (pe_ix ix_list (pv 0) pe_int (fun _ _ => rfl)) (pv 1)) (pg_sub (pv 0) pe_int set_list))
      (pss_one (ps_ret (pv 2))))) (pss_nil))
    (pss_cons (ps_asg (pe_op op_add (pe_ix ix_list (pv 0) pe_int (fun _ _ => rfl)) pe_int) (pg_sub (pv 0) pe_int set_list))
    (pss_cons (ps_set (i := 3) sc_law_draw.nd rfl (.inl rfl) (pe_op op_mod (pe_callTy call_int1 (by rfl) m_int boot_int (pa_cons (pe_op op_mul (pe_callTy call_int1 (by rfl) m_int boot_int (pa_cons (pe_op op_add (pe_op op_add (pe_op op_mod (pe_callTy call_int1 (by rfl) m_int boot_int (pa_cons (pe_ix ix_list (pv 0) pe_int (fun _ _ => rfl)) pa_nil)) pe_int) (pe_op op_mul pe_int (pe_ix ix_list (pv 0) pe_int (fun _ _ => rfl)))) pe_int) pa_nil)) pe_int) pa_nil)) pe_int))
    (pss_cons (ps_set (i := 4) sc_law_draw.nd rfl (.inl rfl) (pe_op op_mod (pe_callTy call_int1 (by rfl) m_int boot_int (pa_cons (pe_op op_fdivW (pe_ix ix_list (pv 0) pe_int (fun _ _ => rfl)) pe_int) pa_nil)) pe_int))
    (pss_cons (ps_set (i := 3) sc_law_draw.nd rfl (.inl rfl) (pe_op op_mod (pe_callTy call_int1 (by rfl) m_int boot_int (pa_cons (pe_op op_mul (pv 3) (pe_op op_add (pe_op op_add (pe_op op_fdiv (pv 3) pe_int) pe_int) (pv 4))) pa_nil)) pe_int))
    (pss_one (ps_ret (pe_op op_mod (pe_callTy call_int1 (by rfl) m_int boot_int (pa_cons (pe_op op_fdiv (pe_op op_mod (pe_callTy call_int1 (by rfl) m_int boot_int (pa_cons (pe_op op_mul (pv 3) (pe_op op_add (pe_op op_fdiv (pv 3) pe_int) pe_int)) pa_nil)) pe_int) pe_int) pa_nil)) (pv 1)))))))), ?_⟩
    have hA : SqL K H a [.int x, .int c] := .inl (.inl ha)
    -- if well[0] >= 10 ** 18
    refine ⟨_, rfl, a, _, 0, _, rfl, rfl, hA, rfl, ?_⟩
    refine ⟨10, 18, rfl, rfl, ⟨by decide, by decide, by decide⟩, ?_⟩
    refine ⟨x, _, rfl, rfl, _, rfl, ite2 (fun big => ?_) (fun small => ?_)⟩
    · refine ⟨_, rfl, a, _, 0, _, rfl, rfl, hA, rfl, .inl ⟨x, rfl, _, rfl, x, m, rfl, rfl, m0, ?_⟩⟩
      refine ⟨_, rfl, a, _, 0, _, rfl, rfl, hA, rfl, _, rfl, x, m, rfl, rfl, ⟨m0, m1.lt⟩, ?_⟩
      refine ⟨_, rfl, a, _, 0, 0, rfl, rfl, ha, rfl, ?_⟩
      exact ⟨_, rfl, q (x % m) (x / m) c (Int.emod_nonneg _ (by omega)) (Int.emod_lt_of_pos _ m0)⟩
    · -- well[1] = well[1] + 1
      refine ⟨_, rfl, a, _, 1, _, rfl, rfl, hA, rfl, c, 1, rfl, rfl, _, rfl, a, _, 1, 1, rfl, rfl, ha, rfl, ?_⟩
      have hB : SqL K (upd H a (.lst [.int x, .int (c + 1)])) a [.int x, .int (c + 1)] := .inl (.inl upd_same)
      have e2 : upd H a (.lst ([V.int x, V.int c].set 1 (.int (c + 1)))) = upd H a (.lst [.int x, .int (c + 1)]) := rfl
      rw [e2]
      have k1 : (0 : Int) < 2147483629 := by decide
      refine ⟨_, rfl, a, _, 0, _, rfl, rfl, hB, rfl, .inl ⟨x, rfl, x, 2147483629, rfl, rfl, (by show (0 : Int) < 2147483629; decide), ?_⟩⟩
      refine ⟨_, rfl, a, _, 1, _, rfl, rfl, hB, rfl, 60013, c + 1, rfl, rfl, .inl (by decide), _, _, rfl, rfl, _, _, rfl, rfl, .inl ⟨_, rfl, ?_⟩⟩
      refine ⟨_, _, rfl, rfl, .inr (by decide), .inl ⟨_, rfl, _, _, rfl, rfl, (by show (0 : Int) < 2147483647; decide), ?_⟩⟩
      dsimp only
      generalize hn : ((x % 2147483629 + 60013 * (c + 1) + 11) * 48271) % 2147483647 = n
      have n0 : 0 ≤ n := by rw [← hn]; exact Int.emod_nonneg _ (by decide)
      have n1 : n < 2147483647 := by rw [← hn]; exact Int.emod_lt_of_pos _ (by decide)
      refine ⟨_, rfl, a, _, 0, _, rfl, rfl, hB, rfl, x, _, rfl, rfl, wide_div (b := 40) (by decide) (by decide) (by decide) (by decide), .inl ⟨_, rfl, _, _, rfl, rfl, (by show (0 : Int) < 9973; decide), ?_⟩⟩
      dsimp only
      generalize hz : (x / 2147483629) % 9973 = z
      refine ⟨_, rfl, _, rfl, _, _, rfl, rfl, ⟨by decide, by decide⟩, _, _, rfl, rfl, _, rfl, _, _, rfl, rfl, n, _, rfl, rfl, .inl ⟨by omega, by omega⟩, .inl ⟨_, rfl, _, _, rfl, rfl, (by show (0 : Int) < 2147483587; decide), ?_⟩⟩
      dsimp only
      generalize hg : (n * (n / 1013 + 40692 + z)) % 2147483587 = g
      have g0 : 0 ≤ g := by rw [← hg]; exact Int.emod_nonneg _ (by decide)
      have g1 : g < 2147483587 := by rw [← hg]; exact Int.emod_lt_of_pos _ (by decide)
      refine ⟨_, rfl, _, rfl, _, _, rfl, rfl, ⟨by decide, by decide⟩, _, _, rfl, rfl, g, _, rfl, rfl, .inl ⟨by omega, by omega⟩, .inl ⟨_, rfl, _, _, rfl, rfl, (by show (0 : Int) < 2147483563; decide), ?_⟩⟩
      refine ⟨_, _, rfl, rfl, ⟨by decide, by decide⟩, .inl ⟨_, rfl, _, rfl, _, m, rfl, rfl, m0, ?_⟩⟩
      exact q _ x (c + 1) (Int.emod_nonneg _ (by omega)) (Int.emod_lt_of_pos _ m0)
/-- one of a list's items -/
def spOne (K : PySem.W.Frag) : Sp := fun vs H Q _ => ∃ (a b : Addr) (x c : Int) (xs : List V), vs = [.ref a, .ref b] ∧ H a = some (.lst [.int x, .int c]) ∧ SqL K H b xs ∧ (∀ x' c' : Int, SqL K (upd H a (.lst [.int x', .int c'])) b xs) ∧ 0 < xs.length ∧ xs.length ≤ 1000 ∧
  ∀ (v : V) (x' c' : Int), v ∈ xs → Q v (upd H a (.lst [.int x', .int c']))
theorem ok_one {f : Addr} {fd : FuncData} {k : Nat} (F : FnP K "_law_one" "_law_one" s_law_one f fd) (C_draw : Cal P w K mg base CX0 "_law_draw" (k + 1) ["_law_well_here", "_law_many"] spDraw) (m_len : mg "len" = none) :
    FnOk P w K mg base CX0 (k + 1 + 1) f fd ["_law_well_here", "_law_some"] (spOne K) := by
  obtain ⟨f_law_draw, fd_law_draw, G_law_draw, b_law_draw, m_law_draw, k_law_draw⟩ := C_draw
  refine F.ok sc_law_one (fun vs H Q E h => ?_) (fun cdv A outer s H vs Q E hr h => ?_)
  · obtain ⟨a, b, x, c, xs, rfl, _⟩ := h
    rfl
  · obtain ⟨a, b, x, c, xs, rfl, ha, hb, hb', l0, l1, q⟩ := h
    refine ⟨_, pss_one (ps_ret (pe_ix ix_list (pv 1) (pe_call G_law_draw (hr.mono (by omega)) (by rfl) m_law_draw k_law_draw b_law_draw .nil pass0 (pa_cons (pv 0) (pa_cons (pe_callB call_len_seq (by rfl) m_len PySem.boot_len (pa_cons (pv 1) pa_nil)) pa_nil))) (fun _ _ => rfl))), ?_⟩
    refine ⟨_, rfl, _, rfl, _, rfl, b, xs, rfl, .inl hb, a, x, c, xs.length, rfl, ha, by omega, .of (k := 10) (by show (xs.length : Int).natAbs < 1024; omega) (by decide), fun r x' c' r0 r1 => ?_⟩
    obtain ⟨i, rfl⟩ := Int.eq_ofNat_of_zero_le r0
    have hi : i < xs.length := by omega
    exact ⟨b, xs, _, xs[i], rfl, rfl, hb' x' c', atI_nat (List.getElem?_eq_getElem hi), q _ x' c' (List.getElem_mem hi)⟩

end
end K11
set_option Elab.async false
set_option linter.all false
set_option maxRecDepth 100000
set_option maxHeartbeats 2000000
namespace K11
open PySem PySem.Spec PyProof.Rows L2 CM LamX
section
variable {P : Program} {w : World} {K : PySem.W.Frag} {mg : Str → Option Value} {base : Heap}
theorem same_upd {H : Hp} {p : Addr} {o : HO} (h : H p = none) : Same H (upd H p o) := fun b x e => by
  rw [upd_ne (ne_of_none e h)]
  exact e
def Kp (a : Addr) (H H' : Hp) : Prop := ∀ b o, b ≠ a → H b = some o → H' b = some o
theorem Kp.trans {a : Addr} {H H1 H2 : Hp} (x : Kp a H H1) (y : Kp a H1 H2) : Kp a H H2 := fun b o n e => y b o n (x b o n e)
theorem Kp.same {a : Addr} {H H1 : Hp} (s : Same H H1) : Kp a H H1 := fun b o _ e => s b o e
theorem Kp.set {a : Addr} {H : Hp} {o : HO} : Kp a H (upd H a o) := fun b u n e => by
  rw [upd_ne n]
  exact e
/-! ### ints drawn -/
def spSigned : Sp := fun vs H Q _ => ∃ (a : Addr) (n x c : Int), vs = [.ref a, .int n] ∧ H a = some (.lst [.int x, .int c]) ∧ 0 ≤ n ∧ Sz (2 * n + 1) ∧
  ∀ r x' c' : Int, -n ≤ r → r ≤ n → Q (.int r) (upd H a (.lst [.int x', .int c']))
theorem ok_signed {f : Addr} {fd : FuncData} {k : Nat} (F : FnP K "_law_signed" "_law_signed" s_law_signed f fd) (C_draw : Cal P w K mg base CX0 "_law_draw" k ["_law_well_here", "_law_many"] spDraw) : FnOk P w K mg base CX0 (k + 1) f fd ["_law_well_here", "_law_size"] spSigned := by
  obtain ⟨f_law_draw, fd_law_draw, G_law_draw, b_law_draw, m_law_draw, k_law_draw⟩ := C_draw
  refine F.ok sc_law_signed (fun vs H Q E h => ?_) (fun cdv A outer s H vs Q E hr h => ?_)
  · obtain ⟨a, n, x, c, rfl, _⟩ := h
    rfl
  · obtain ⟨a, n, x, c, rfl, ha, h0, h1, q⟩ := h
    refine ⟨_, pss_one (ps_ret (pe_op op_sub (pe_call G_law_draw (hr.mono (by omega)) (by rfl) m_law_draw k_law_draw b_law_draw .nil pass0 (pa_cons (pv 0) (pa_cons (pe_op op_add (pe_op op_mul pe_int (pv 1)) pe_int) pa_nil))) (pv 1))), ?_⟩
    refine ⟨_, rfl, _, rfl, 2, n, rfl, rfl, .inl (by decide), _, 1, rfl, rfl, a, x, c, 2 * n + 1, rfl, ha, by omega, h1, fun r x' c' r0 r1 => ?_⟩
    exact ⟨_, rfl, r, n, rfl, rfl, q (r - n) x' c' (by omega) (by omega)⟩
def spSpan : Sp := fun vs H Q _ => ∃ (a : Addr) (n x c : Int), vs = [.ref a, .int n] ∧ H a = some (.lst [.int x, .int c]) ∧ 0 ≤ n ∧ Sz (2 * n + 1) ∧ Sz (n + 1) ∧
  ∀ (H' : Hp) (p : Addr) (lo hi x' c' : Int), Kp a H H' → H' a = some (.lst [.int x', .int c']) → H' p = some (.tup [.int lo, .int hi]) → H p = none → lo ≤ hi → Q (.ref p) H'
theorem ok_span {f : Addr} {fd : FuncData} {k : Nat} (F : FnP K "_law_span" "_law_span" s_law_span f fd) (C_draw : Cal P w K mg base CX0 "_law_draw" k ["_law_well_here", "_law_many"] spDraw)
    (C_signed : Cal P w K mg base CX0 "_law_signed" k ["_law_well_here", "_law_size"] spSigned) : FnOk P w K mg base CX0 (k + 1) f fd ["_law_well_here", "_law_size"] spSpan := by
  obtain ⟨f_law_draw, fd_law_draw, G_law_draw, b_law_draw, m_law_draw, k_law_draw⟩ := C_draw
  obtain ⟨f_law_signed, fd_law_signed, G_law_signed, b_law_signed, m_law_signed, k_law_signed⟩ := C_signed
  refine F.ok sc_law_span (fun vs H Q E h => ?_) (fun cdv A outer s H vs Q E hr h => ?_)
  · obtain ⟨a, n, x, c, rfl, _⟩ := h
    rfl
  · obtain ⟨a, n, x, c, rfl, ha, h0, h1, h2, q⟩ := h
    refine ⟨_, pss_cons (ps_set (i := 2) sc_law_span.nd rfl (.inl rfl) (pe_call G_law_signed (hr.mono (by omega)) (by rfl) m_law_signed k_law_signed b_law_signed .nil pass0 (pa_cons (pv 0) (pa_cons (pv 1) pa_nil))))
    (pss_one (ps_ret (pe_tup (pa_cons (pv 2) (pa_cons (pe_op op_add (pv 2) (pe_call G_law_draw (hr.mono (by omega)) (by rfl) m_law_draw k_law_draw b_law_draw .nil pass0 (pa_cons (pv 0) (pa_cons (pe_op op_add (pv 1) pe_int) pa_nil)))) pa_nil))))), ?_⟩
    refine ⟨_, rfl, _, rfl, a, n, x, c, rfl, ha, h0, h1, fun lo x1 c1 r0 r1 => ?_⟩
    refine ⟨_, rfl, _, rfl, _, rfl, _, rfl, n, 1, rfl, rfl, a, x1, c1, n + 1, rfl, upd_same, by omega, h2, fun d x2 c2 d0 d1 => ⟨lo, d, rfl, rfl, by show 2 ≤ sizeLine; decide, fun p np => ?_⟩⟩
    rw [upd_upd] at np ⊢
    have npa : p ≠ a := fun z => by
      rw [z, upd_same] at np
      cases np
    refine q _ p lo (lo + d) x2 c2 (Kp.set.trans (.same (same_upd np))) (same_upd np _ _ upd_same) upd_same ?_ (by omega)
    rw [upd_ne npa] at np
    exact np
/-! ### what is to be told -/
def spHas : Sp := fun vs H Q _ => ∃ (p : Addr) (lo hi n : Int), vs = [.ref p, .int n] ∧ H p = some (.tup [.int lo, .int hi]) ∧ Q (.bl (decide (lo ≤ n ∧ n ≤ hi))) H
theorem ok_has {f : Addr} {fd : FuncData} {k : Nat} (F : FnP K "_law_has" "_law_has" s_law_has f fd) : FnOk P w K mg base CX0 (k + 1) f fd ["_law_span_here", "_law_number"] spHas := by
  refine F.ok sc_law_has (fun vs H Q E h => ?_) (fun cdv A outer s H vs Q E hr h => ?_)
  · obtain ⟨p, lo, hi, n, rfl, _⟩ := h
    rfl
  · obtain ⟨p, lo, hi, n, rfl, hp, q⟩ := h
    refine ⟨_, pss_one (ps_ret (pe_chain op_le op_le (pe_ix ix_tup (pv 0) pe_int (fun _ _ => rfl)) (pv 1) (pe_ix ix_tup (pv 0) pe_int (fun _ _ => rfl)))), ?_⟩
    refine ⟨_, rfl, p, _, 0, _, rfl, rfl, .inl (.inl hp), rfl, _, rfl, lo, n, rfl, rfl, _, rfl, ite2 (fun e => ?_) (fun e => ?_)⟩
    · have e1 := of_decide_eq_true e
      refine ⟨_, rfl, p, _, 1, _, rfl, rfl, .inl (.inl hp), rfl, n, hi, rfl, rfl, ?_⟩
      have e2 : decide (n ≤ hi) = decide (lo ≤ n ∧ n ≤ hi) := decide_eq_decide.mpr ⟨fun z => ⟨e1, z⟩, fun z => z.2⟩
      show Q (.bl (decide (n ≤ hi))) H
      rw [e2]
      exact q
    · have e2 : false = decide (lo ≤ n ∧ n ≤ hi) := (decide_eq_false fun z => e (decide_eq_true z.1)).symm
      rw [e2]
      exact q
theorem max_if (i j : Int) : (if j > i then j else i) = max i j := by
  rw [Int.max_def]
  split <;> split <;> omega
theorem min_if (i j : Int) : (if j < i then j else i) = min i j := by
  rw [Int.min_def]
  split <;> split <;> omega
def spShares : Sp := fun vs H Q _ => ∃ (p r : Addr) (lo hi l h : Int), vs = [.ref p, .ref r] ∧ H p = some (.tup [.int lo, .int hi]) ∧ H r = some (.tup [.int l, .int h]) ∧ Q (.bl (decide (lo ≤ hi ∧ max lo l ≤ min hi h))) H
theorem ok_shares {f : Addr} {fd : FuncData} {k : Nat} (F : FnP K "_law_shares" "_law_shares" s_law_shares f fd) (m_max : mg "max" = none) (m_min : mg "min" = none) : FnOk P w K mg base CX0 (k + 1) f fd ["_law_one_here", "_law_two"] spShares := by
  refine F.ok sc_law_shares (fun vs H Q E h => ?_) (fun cdv A outer s H vs Q E hr h => ?_)
  · obtain ⟨p, r, lo, hi, l, h, rfl, _⟩ := h
    rfl
  · obtain ⟨p, r, lo, hi, l, h, rfl, hp, hq, q⟩ := h
    refine ⟨_, PSs.nox (pss_one (ps_ret (pe_and (pe_cmpR op_le (pe_ix ix_tup (pv 0) pe_int (fun _ _ => rfl)) (pe_ix ix_tup (pv 0) pe_int (fun _ _ => rfl)) (nomark _)) (pe_one (pe_cmpR op_le (pe_callB (call_max2 rfl) (by rfl) m_max (by decide +kernel) (pa_cons (pe_ix ix_tup (pv 0) pe_int (fun _ _ => rfl)) (pa_cons (pe_ix ix_tup (pv 1) pe_int (fun _ _ => rfl)) pa_nil))) (pe_callB (call_min2 rfl) (by rfl) m_min (by decide +kernel) (pa_cons (pe_ix ix_tup (pv 0) pe_int (fun _ _ => rfl)) (pa_cons (pe_ix ix_tup (pv 1) pe_int (fun _ _ => rfl)) pa_nil))) (nomark _)))))), ?_⟩
    refine ⟨_, rfl, p, _, 0, _, rfl, rfl, .inl (.inl hp), rfl, _, rfl, p, _, 1, _, rfl, rfl, .inl (.inl hp), rfl, lo, hi, rfl, rfl, _, rfl, ite2 (fun e => ?_) (fun e => ?_)⟩
    · have e1 := of_decide_eq_true e
      refine ⟨_, rfl, p, _, 0, _, rfl, rfl, .inl (.inl hp), rfl, _, rfl, r, _, 0, _, rfl, rfl, .inl (.inl hq), rfl, lo, l, rfl, ?_⟩
      refine ⟨_, rfl, p, _, 1, _, rfl, rfl, .inl (.inl hp), rfl, _, rfl, r, _, 1, _, rfl, rfl, .inl (.inl hq), rfl, hi, h, rfl, _, _, rfl, rfl, ?_⟩
      show Q (.bl (decide ((if l > lo then l else lo) ≤ (if h < hi then h else hi)))) H
      rw [max_if, min_if, show decide (max lo l ≤ min hi h) = decide (lo ≤ hi ∧ max lo l ≤ min hi h) from decide_eq_decide.mpr ⟨fun z => ⟨e1, z⟩, fun z => z.2⟩]
      exact q
    · rw [show false = decide (lo ≤ hi ∧ max lo l ≤ min hi h) from (decide_eq_false fun z => e (decide_eq_true z.1)).symm]
      exact q
def spFar : Sp := fun vs H Q _ => ∃ (p : Addr) (lo hi n : Int), vs = [.ref p, .int n] ∧ H p = some (.tup [.int lo, .int hi]) ∧ Q (.int (max 0 (max (lo - n) (n - hi)))) H
theorem ok_far {f : Addr} {fd : FuncData} {k : Nat} (F : FnP K "_law_far" "_law_far" s_law_far f fd) (m_max : mg "max" = none) : FnOk P w K mg base CX0 (k + 1) f fd ["_law_span_here", "_law_number"] spFar := by
  refine F.ok sc_law_far (fun vs H Q E h => ?_) (fun cdv A outer s H vs Q E hr h => ?_)
  · obtain ⟨p, lo, hi, n, rfl, _⟩ := h
    rfl
  · obtain ⟨p, lo, hi, n, rfl, hp, q⟩ := h
    refine ⟨_, PSs.nox (pss_one (ps_ret (pe_callB (call_max2 rfl) (by rfl) m_max (by decide +kernel) (pa_cons pe_int (pa_cons (pe_callB (call_max2 rfl) (by rfl) m_max (by decide +kernel) (pa_cons (pe_op op_sub (pe_ix ix_tup (pv 0) pe_int (fun _ _ => rfl)) (pv 1)) (pa_cons (pe_op op_sub (pv 1) (pe_ix ix_tup (pv 0) pe_int (fun _ _ => rfl))) pa_nil))) pa_nil))))), ?_⟩
    refine ⟨_, rfl, p, _, 0, _, rfl, rfl, .inl (.inl hp), rfl, _, rfl, lo, n, rfl, rfl, _, rfl, _, rfl, p, _, 1, _, rfl, rfl, .inl (.inl hp), rfl, n, hi, rfl, rfl, lo - n, n - hi, rfl, 0, _, rfl, ?_⟩
    rw [max_if, max_if]
    exact q
end
end K11
set_option Elab.async false
set_option linter.all false
set_option maxRecDepth 100000
set_option maxHeartbeats 2000000
namespace K11
open PySem PySem.Spec PyProof.Rows L2 CM LamX
section
variable {P : Program} {w : World} {K : PySem.W.Frag} {mg : Str → Option Value} {base : Heap}
/-! ### halves -/
def less (ns : List Int) (x : Int) (i k : Nat) : Bool := HT.lexLt [ns.getD k 0, 0 + (k : Int)] [x, (i : Int)]
def ahead (ns : List Int) (x : Int) (i j : Nat) : List Int := ((List.range j).filter fun (k : Nat) => less ns x i k).map fun (k : Nat) => 0 + ((k : Nat) : Int)
theorem ahead_succ (ns : List Int) (x : Int) (i j : Nat) : ahead ns x i (j + 1) = if less ns x i j = true then ahead ns x i j ++ [0 + (j : Int)] else ahead ns x i j := by
  unfold ahead
  rw [List.range_succ, List.filter_append, List.map_append]
  by_cases h : less ns x i j = true
  · rw [if_pos h, List.filter_cons_of_pos h]
    rfl
  · rw [if_neg h, List.filter_cons_of_neg h]
    simp
theorem ahead_len (ns : List Int) (x : Int) (i j : Nat) : (ahead ns x i j).length ≤ j := by
  unfold ahead
  rw [List.length_map]
  have z := List.length_filter_le (fun (k : Nat) => less ns x i k) (List.range j)
  rw [List.length_range] at z
  exact z
def half (ns : List Int) (x : Int) (i : Nat) : Int := if decide ((ns.length : Int) / 2 ≤ ((ahead ns x i ns.length).length : Int)) = true then 1 else 0
/-- the sides that halves by these numbers tell -/
def halvesOf (ns : List Int) : List Int := (List.range ns.length).map fun i => half ns (ns.getD i 0) i
theorem halves_len (ns : List Int) : (halvesOf ns).length = ns.length := by
  unfold halvesOf
  rw [List.length_map, List.length_range]
theorem halves_at {ns : List Int} {i : Nat} {x : Int} (h : ns[i]? = some x) : (halvesOf ns)[i]? = some (half ns x i) := by
  have hi := (List.getElem?_eq_some_iff.mp h).1
  unfold halvesOf
  rw [List.getElem?_map, List.getElem?_range hi, Option.map_some, List.getD_eq_getElem?_getD, h]
  rfl
theorem same_put {A H : Hp} {p : Addr} {o : HO} (s : Same A H) (h : A p = none) : Same A (upd H p o) := fun b u e => by
  rw [upd_ne (ne_of_none e h)]
  exact s b u e
def spHalves (K : PySem.W.Frag) : Sp := fun vs H Q _ => ∃ (l : Addr) (ns : List Int), vs = [.ref l] ∧ SqL K H l (ns.map V.int) ∧ ns.length ≤ 900 ∧ ∀ (p : Addr) (H' : Hp), Same H H' → H' p = some (.lst ((halvesOf ns).map V.int)) → Q (.ref p) H'
theorem ok_halves {f : Addr} {fd : FuncData} {k : Nat} (F : FnP K "_law_halves" "_law_halves" s_law_halves f fd) (m_enumerate : mg "enumerate" = none) (m_range : mg "range" = none) (m_len : mg "len" = none) (m_int : mg "int" = none) :
    FnOk P w K mg base CX0 (k + 1) f fd ["_law_numbers"] (spHalves K) := by
  refine F.ok sc_law_halves (fun vs H Q E h => ?_) (fun cdv A outer s H vs Q E hr h => ?_)
  · obtain ⟨l, ns, rfl, _⟩ := h
    rfl
  · obtain ⟨l, ns, rfl, hl, hn, q⟩ := h
    refine ⟨_, PSs.nox (pss_cons (ps_set (i := 1) sc_law_halves.nd rfl (.inl rfl) (pe_lst (pa_nil)))
    (pss_cons (ps_for PassesOwn.never rfl (pi_enum (by rfl) m_enumerate (pa_cons (pv 0) pa_nil)) (pg_tup rfl (pgs_cons (pg_name (i := 2) sc_law_halves.nd rfl (.inr rfl)) (pgs_cons (pg_name (i := 3) sc_law_halves.nd rfl (.inr rfl)) (pgs_nil))))
      (pss_cons (ps_setLc (i := 4) (own := [("_law_k", 5)]) rfl sc_law_halves.nd rfl rfl (sw_true rfl rfl rfl (by decide +kernel)) (pi_range1 (by rfl) m_range (pa_cons (pe_callB call_len_seq (by rfl) m_len PySem.boot_len (pa_cons (pv 0) pa_nil)) pa_nil)) (blkOk_by (N := n_law_halves) (sc := defScope s_law_halves) (by decide +kernel)) (fun _ _ _ _ _ => pg_name (i := 5) sc_law_halves.nd rfl (.inl rfl)) (fun _ _ _ _ _ => pts_one (pt_cmpR (op_ltTK hr.units0) (pe_tup (pa_cons (pe_ix ix_listK (pv 0) (pv 5) (fun _ _ => rfl)) (pa_cons (pv 5) pa_nil))) (pe_tup (pa_cons (pv 3) (pa_cons (pv 2) pa_nil))) (nomark _))) (fun _ _ _ _ _ => (pv 5)))
      (pss_one (ps_expr (pe_bm PySem.F.plainAttrs_list PySem.F.slot_list_append PySem.F.type_list_append mt_append (pv 1) (pa_cons (pe_callTy call_int1 (by rfl) m_int boot_int (pa_cons (pe_cmpR op_ge (pe_callB call_len_seq (by rfl) m_len PySem.boot_len (pa_cons (pv 4) pa_nil)) (pe_op op_fdiv (pe_callB call_len_seq (by rfl) m_len PySem.boot_len (pa_cons (pv 0) pa_nil)) pe_int) (nomark _)) pa_nil)) pa_nil))))))
    (pss_one (ps_ret (pv 1))))), ?_⟩
    refine ⟨by show 0 ≤ sizeLine; decide, fun F0 nF => ?_⟩
    have lm : (ns.map V.int).length = ns.length := List.length_map ..
    refine ⟨_, rfl, l, ns.map V.int, rfl, (same_upd nF).seq hl, for_it (walk_enum (K := K) (a := l) (xs := ns.map V.int)) (fun i σ H' => ∃ v2 v3 v4 v5 : Option V, σ = [some (.ref l), some (.ref F0), v2, v3, v4, v5] ∧ Same H H' ∧ H' F0 = some (.lst (((halvesOf ns).take i).map V.int)))
      ⟨_, _, _, _, rfl, same_upd nF, upd_same⟩ (fun i σ H' _ ⟨_, _, _, _, _, s1, _⟩ => s1.seq hl) ?_ ?_⟩
    · rintro i x σ H1 H2 hi ⟨v2, v3, v4, v5, rfl, s1, hF⟩ ⟨T0, x0, y0, rfl, nT, rfl, hx0, hy0⟩
      have hx1 : V.int (i : Int) = x0 := Option.some.inj hx0
      subst hx1
      rw [lm] at hi
      have hy1 : V.int ns[i] = y0 := by
        have hy2 : (ns.map V.int)[i]? = some y0 := hy0
        rw [List.getElem?_map, List.getElem?_eq_getElem hi] at hy2
        exact Option.some.inj hy2
      subst hy1
      have hxi : ns[i]? = some ns[i] := List.getElem?_eq_getElem hi
      generalize ns[i] = x at hxi hy0
      have s2 : Same H (upd H1 T0 (.tup [.int (i : Int), .int x])) := s1.trans (same_upd nT)
      refine ⟨T0, [.int (i : Int), .int x], rfl, .inl (.inl upd_same), rfl, _, _, rfl, _, _, rfl, rfl, ?_⟩
      have hF2 := same_upd (o := .tup [V.int (i : Int), V.int x]) nT _ _ hF
      generalize upd H1 T0 (.tup [.int (i : Int), .int x]) = G at s2 hF2
      refine ⟨_, rfl, l, ns.map V.int, rfl, .inl (s2.seq hl), _, rfl, by rw [lm]; omega, by rw [lm]; omega, fun D nD => ?_⟩
      rw [lm, Int.toNat_natCast]
      refine lc_range (lo := 0) (n := ns.length) (fun j H' => Same G H' ∧ H' D = some (.lst ((ahead ns x i j).map V.int))) ⟨same_upd nD, upd_same⟩ ?_ ?_
      · rintro j H3 hj ⟨s3, hD⟩
        have hj1 : (ns.map V.int)[j]? = some (.int (ns.getD j 0)) := by
          rw [List.getElem?_map, List.getElem?_eq_getElem hj, List.getD_eq_getElem?_getD, List.getElem?_eq_getElem hj]
          rfl
        refine ⟨rfl, _, rfl, _, rfl, l, ns.map V.int, 0 + (j : Int), _, rfl, rfl, (s2.trans s3).seq hl, by rw [Int.zero_add]; exact atI_nat hj1, _, rfl, by show 2 ≤ sizeLine; decide, fun T1 n1 => ?_⟩
        refine ⟨_, rfl, _, rfl, by show 2 ≤ sizeLine; decide, fun T2 n2 => ⟨T1, T2, [ns.getD j 0, 0 + (j : Int)], [x, (i : Int)], rfl, rfl, .inl (.inl (same_upd n2 _ _ upd_same)), .inl (.inl upd_same), less ns x i j, rfl, ?_⟩⟩
        have s5 : Same G _ := s3.trans ((same_upd (o := .tup [V.int (ns.getD j 0), V.int (0 + (j : Int))]) n1).trans (same_upd (o := .tup [V.int x, V.int (i : Int)]) n2))
        have hD5 := ((same_upd (o := .tup [V.int (ns.getD j 0), V.int (0 + (j : Int))]) n1).trans (same_upd (o := .tup [V.int x, V.int (i : Int)]) n2)) _ _ hD
        refine ite2 (fun e => ?_) (fun e => ?_)
        · refine ⟨_, rfl, _, hD5, ?_, ?_, ?_⟩
          · rw [List.length_map]
            exact small1000 (Nat.le_trans (ahead_len ..) (by omega))
          · exact same_put s5 nD
          · rw [upd_same, ahead_succ, if_pos e, List.map_append]
            rfl
        · refine ⟨s5, ?_⟩
          rw [ahead_succ, if_neg e]
          exact hD5
      · rintro H3 ⟨s3, hD⟩
        have hF3 := s3 _ _ hF2
        have s23 := s2.trans s3
        have la : ((ahead ns x i ns.length).map V.int).length = (ahead ns x i ns.length).length := List.length_map ..
        refine ⟨_, rfl, .inl ⟨rfl, _, .inl (.inl hF3)⟩, _, rfl, D, _, rfl, .inl (.inl (.inl hD)), _, rfl, l, _, rfl, .inl (s23.seq hl), _, 2, rfl, rfl, ⟨by decide, by decide⟩, _, _, rfl, rfl, .inr ⟨_, rfl, F0, _, _, rfl, rfl, hF3, small1000 ?_, ?_⟩⟩
        · rw [List.length_map, List.length_take, halves_len]
          omega
        · refine ⟨_, _, _, _, rfl, fun b o e => ?_, ?_⟩
          · have hb : b ≠ F0 := ne_of_none e nF
            rw [upd_ne hb]
            exact s23 _ _ e
          · rw [upd_same, List.take_add_one, halves_at hxi, List.map_append, la, lm]
            rfl
    · rintro σ H1 ⟨v2, v3, v4, v5, rfl, s1, hF⟩
      rw [lm, List.take_of_length_le (by rw [halves_len]; exact Nat.le_refl _)] at hF
      exact ⟨_, rfl, q _ _ s1 hF⟩
end
end K11
set_option Elab.async false
set_option linter.all false
set_option maxRecDepth 100000
set_option maxHeartbeats 2000000
namespace K11
open PySem PySem.Spec PyProof.Rows L2 CM LamX
section
variable {P : Program} {w : World} {K : PySem.W.Frag} {mg : Str → Option Value} {base : Heap}
/-! ### halves_by, marks that are ints -/
abbrev TT (K : PySem.W.Frag) : List (Addr × Str) := [((He.cT K ("halves_by", none)).2, ("halves_by" ++ ".<locals>.") ++ "<lambda>")]
def spHB (K : PySem.W.Frag) : Sp := fun vs H Q _ => ∃ (l : Addr) (ns : List Int), vs = [.ref l] ∧ SqL K H l (ns.map V.int) ∧ ns.length ≤ 900 ∧ Tabs (TT K) H ∧
  ∀ (D : Addr) (H' : Hp), ExtN H H' → Tabs (TT K) H' → H' D = some (.lst (SL.halvesL (SL.ltI ns) ns.length)) → Q (.ref D) H'
theorem ok_halvesby {fd : FuncData} {k : Nat} (F : FnP K "halves_by" "halves_by" s_halves_by (He.fAd K ("halves_by", none)) fd) (TB : TabB base mg (He.cT K ("halves_by", none)).1 (He.cT K ("halves_by", none)).2)
    (m_sorted : mg "sorted" = none) (m_list : mg "list" = none) (m_range : mg "range" = none) (m_len : mg "len" = none) : FnOk P w K mg base CX0 (k + 1) (He.fAd K ("halves_by", none)) fd ["marks"] (spHB K) := by
  refine SL.okC F sc_halves_by (fun vs H Q E h => ?_) (fun A outer s H vs Q E hr h => ?_)
  · obtain ⟨l, ns, rfl, _⟩ := h
    rfl
  · obtain ⟨l, ns, rfl, hl, hn, hT, q⟩ := h
    refine ⟨_, PSs.nox (pss_cons (ps_set (i := 1) sc_halves_by.nd rfl (.inl rfl) (SL.pe_sortL (β := Nat) hr TB rfl (List.mem_singleton.mpr rfl) (SL.one_tab rfl) (SL.lam1_by (sc := defScope s_halves_by) (by decide +kernel)) rfl (fun _ _ _ _ _ _ => rfl) (by rfl) m_sorted (pe_listRg rfl (by rfl) m_list (prg_1 (by rfl) m_range (pe_callB call_len_seq (by rfl) m_len PySem.boot_len (pa_cons (pv 0) pa_nil))))))
    (pss_cons (ps_set (i := 2) sc_halves_by.nd rfl (.inr rfl) (pe_dc (own := [("at", 3)]) rfl sc_halves_by.nd (pi_list (pe_slice sl_list (pv 1) po_none (po_some (pe_op op_fdiv (pe_callB call_len_seq (by rfl) m_len PySem.boot_len (pa_cons (pv 0) pa_nil)) pe_int)))) (blkOk_by (N := n_halves_by) (sc := defScope s_halves_by) (by decide +kernel)) (fun _ _ _ _ _ => pg_name (i := 3) sc_halves_by.nd rfl (.inl rfl)) (fun _ _ _ _ _ => pts_nil) (fun _ _ _ _ _ => (pv 3)) (fun _ _ _ _ _ => pe_bl)))
    (pss_one (ps_ret (pe_lc (own := [("at", 3)]) rfl sc_halves_by.nd (pi_range1 (by rfl) m_range (pa_cons (pe_callB call_len_seq (by rfl) m_len PySem.boot_len (pa_cons (pv 0) pa_nil)) pa_nil)) (blkOk_by (N := n_halves_by) (sc := defScope s_halves_by) (by decide +kernel)) (fun _ _ _ _ _ => pg_name (i := 3) sc_halves_by.nd rfl (.inl rfl)) (fun _ _ _ _ _ => pts_nil) (fun _ _ _ _ _ => (pe_ifExp (pt_cmp (pc_din (hu_of hr) (pv 3) (pv 2))) pe_int pe_int))))))), ?_⟩
    have lm : (ns.map V.int).length = ns.length := List.length_map ..
    refine ⟨_, rfl, l, ns.map V.int, rfl, .inl hl, _, rfl, RgOk.of_le (by omega) (by omega) (by omega) (by omega), fun q0 n0 => ?_⟩
    have eR : rgV 0 ((ns.map V.int).length : Int) = (List.range ns.length).map fun b : Nat => V.int (b : Int) := by
      unfold rgV
      rw [lm]
      refine List.map_congr_left fun b _ => ?_
      simp
    rw [eR]
    refine ⟨SL.Tabs.same hT (same_upd n0), q0, List.range ns.length, fun b : Nat => V.int (b : Int), SL.keyI ns, rfl, .inl (.inl upd_same), fun _ _ _ _ => rfl, PySem.W.Sortable.tuples fun _ => ⟨_, _, rfl⟩, fun _ _ => by show 1 ≤ 60; decide, ?_, ?_⟩
    · intro pins s2 H2 b v I2 eN hb rv
      have hb := List.mem_range.mp hb
      have hb1 : ns[b]? = some (ns.getD b 0) := by
        rw [List.getD_eq_getElem?_getD, List.getElem?_eq_getElem hb]
        rfl
      have hb2 : (ns.map V.int)[b]? = some (V.int (ns.getD b 0)) := by rw [List.getElem?_map, hb1]; rfl
      exact SL.kr_pair (i := 0) I2 rfl rfl rfl rfl rfl (SL.ExtN.seqL eN ((same_upd n0).seq hl)) hb2 (.int _) rv
    · intro O H1 e1 nO t1 hO
      have hl1 := SL.ExtN.seqL e1 ((same_upd (o := .lst ((List.range ns.length).map fun b : Nat => V.int (b : Int))) n0).seq hl)
      have e0 : ExtN H H1 := (SL.ExtN.of_same (same_upd n0)).trans e1
      generalize hord : (List.range ns.length).mergeSort (PySem.W.dataLe false (SL.keyI ns)) = ord at hO
      have lo : ord.length = ns.length := by rw [← hord, List.length_mergeSort, List.length_range]
      -- the first half, a dict
      refine ⟨_, rfl, _, rfl, l, _, rfl, .inl hl1, _, 2, rfl, rfl, ⟨by decide, by decide⟩, _, rfl, O, _, rfl, .inl (.inl hO), fun P0 nP => ⟨P0, rfl, ⟨_, .inl (.inl upd_same)⟩, fun D nD => ?_⟩⟩
      have ec : cutV (ord.map fun b : Nat => V.int (b : Int)) none (some (((ns.map V.int).length : Int) / 2)) = (ord.take (ns.length / 2)).map fun b : Nat => V.int (b : Int) := SL.cut_half lo lm
      rw [ec] at nD ⊢
      generalize hhs : ord.take (ns.length / 2) = hs at nD ⊢
      have lhs : hs.length ≤ 900 := by
        rw [← hhs, List.length_take]
        omega
      have s2 : Same H1 (upd H1 P0 (.lst (hs.map fun b : Nat => V.int (b : Int)))) := same_upd nP
      have hP : (upd H1 P0 (.lst (hs.map fun b : Nat => V.int (b : Int)))) P0 = some (.lst (hs.map fun b : Nat => V.int (b : Int))) := upd_same
      have t2 := SL.Tabs.same t1 s2
      have hl2 := s2.seq hl1
      have e2 := e0.trans (SL.ExtN.of_same s2)
      generalize upd H1 P0 (.lst (hs.map fun b : Nat => V.int (b : Int))) = H2 at nD hP t2 hl2 e2
      refine SL.dc_list (K := K) (a := P0) (xs := hs.map fun b : Nat => V.int (b : Int)) (fun i H' => Same H2 H' ∧ ∃ kvs : List (L2.Key × V), H' D = some (.dK kvs) ∧ kvs.length ≤ i ∧ ∀ b : Nat, (valV kvs (Sum.inl (b : Int))).isSome = decide (b ∈ hs.take i))
        ⟨same_upd nD, [], upd_same, Nat.le_refl _, fun b => by simp [valV]⟩ (fun i H' _ ⟨z, _⟩ => .inl (.inl (z _ _ hP))) ?_ ?_
      · rintro i x H3 hi ⟨s3, kvs, hD, lk, hk⟩
        obtain ⟨b, hb, rfl⟩ : ∃ b, hs[i]? = some b ∧ V.int (b : Int) = x := by
          rw [List.getElem?_map] at hi
          cases e : hs[i]? with
          | none => rw [e] at hi; cases hi
          | some b => rw [e] at hi; exact ⟨b, rfl, Option.some.inj hi⟩
        have li := (List.getElem?_eq_some_iff.mp hb).1
        refine ⟨rfl, _, rfl, kvs, Sum.inl (b : Int), rfl, hD, small1000 (by omega), ?_, _, upd_same, ?_, fun j => ?_⟩
        · exact same_put s3 nD
        · exact Nat.le_trans (length_putK ..) (by omega)
        · rw [valV_put, List.take_add_one, hb]
          by_cases e : j = b
          · subst e
            simp
          · rw [if_neg (fun z => e (by have z := Sum.inl.inj z; omega)), hk j]
            simp [e]
      · rintro H3 ⟨s3, kvs, hD, lk, hk⟩
        rw [List.length_map, List.take_length] at hk
        refine ⟨_, rfl, l, _, rfl, .inl (s3.seq hl2), _, rfl, by omega, by omega, fun R nR => ?_⟩
        rw [lm, Int.toNat_natCast]
        have t3 := SL.Tabs.same t2 s3
        have e3 := e2.trans (SL.ExtN.of_same s3)
        refine lc_range (lo := 0) (n := ns.length) (fun j H' => Same H3 H' ∧ H' R = some (.lst ((SL.halvesL (SL.ltI ns) ns.length).take j))) ⟨same_upd nR, upd_same⟩ ?_ ?_
        · rintro j H4 hj ⟨s4, hR⟩
          have hin : decide (j ∈ hs) = decide (SL.aheadN (SL.ltI ns) ns.length j < ns.length / 2) := by
            rw [← hhs, ← hord]
            have z := SL.in_half (h := ns.length / 2) (SL.ltI_irr ns) (SL.ltI_tr ns) (SL.ltI_tot ns) (fun a b => congrFun (congrFun (SL.leI ns) a) b) hj
            exact decide_eq_decide.mpr z
          refine ⟨rfl, _, rfl, _, rfl, D, valV kvs (Sum.inl (0 + (j : Int))), rfl, DGet.k (k := Sum.inl (0 + (j : Int))) (s4 _ _ hD), _, rfl, ?_⟩
          rw [Int.zero_add, hk j, hin]
          have lr : ((SL.halvesL (SL.ltI ns) ns.length).take j).length < sizeLine := small1000 (by rw [List.length_take]; omega)
          have et : ∀ v : Int, v = (if SL.aheadN (SL.ltI ns) ns.length j < ns.length / 2 then 0 else 1) → (SL.halvesL (SL.ltI ns) ns.length).take j ++ [V.int v] = (SL.halvesL (SL.ltI ns) ns.length).take (j + 1) := fun v ev => by
            rw [ev, List.take_add_one, SL.halvesL_at hj]
            rfl
          refine ite2 (fun e => ?_) (fun e => ?_)
          · refine ⟨_, hR, lr, same_put s4 nR, ?_⟩
            rw [upd_same, et 0 (by rw [if_pos (of_decide_eq_true e)])]
          · refine ⟨_, hR, lr, same_put s4 nR, ?_⟩
            rw [upd_same, et 1 (by rw [if_neg (fun z => e (decide_eq_true z))])]
        · rintro H4 ⟨s4, hR⟩
          refine q R H4 (e3.trans (SL.ExtN.of_same s4)) (SL.Tabs.same t3 s4) ?_
          rw [hR, List.take_of_length_le (by unfold SL.halvesL; rw [List.length_map, List.length_range]; exact Nat.le_refl _)]
end
end K11
set_option Elab.async false
set_option linter.all false
set_option maxRecDepth 100000
set_option maxHeartbeats 2000000
namespace K11
open PySem PySem.Spec PyProof.Rows L2 CM LamX
section
variable {P : Program} {w : World} {K : PySem.W.Frag} {mg : Str → Option Value} {base : Heap}
/-! ### what each method is to tell -/
def Tup2 (H : Hp) (p : Addr) (lo hi : Int) : Prop := H p = some (.tup [.int lo, .int hi])
def spOwn : Sp := fun vs H Q _ => ∃ (m : Addr) (n : Int), vs = [.ref m, .int n] ∧ ∀ (p : Addr) (H' : Hp), Same H H' → Tup2 H' p n n → Q (.ref p) H'
def spJoin : Sp := fun vs H Q _ => ∃ (m p r : Addr) (l h l' h' : Int), vs = [.ref m, .ref p, .ref r] ∧ Tup2 H p l h ∧ Tup2 H r l' h' ∧ ∀ (t : Addr) (H' : Hp), Same H H' → Tup2 H' t (min l l') (max h h') → Q (.ref t) H'
def spCons : Sp := fun vs H Q _ => ∃ (m p r : Addr) (l h lo hi : Int), vs = [.ref m, .ref p, .ref r] ∧ Tup2 H p l h ∧ Tup2 H r lo hi ∧ l ≤ h ∧ ∀ H' : Hp, Same H H' → Q (.bl (decide (lo ≤ hi ∧ max lo l ≤ min hi h))) H'
def spMat : Sp := fun vs H Q _ => ∃ (m r : Addr) (n lo hi : Int), vs = [.ref m, .int n, .ref r] ∧ Tup2 H r lo hi ∧ ∀ H' : Hp, Same H H' → Q (.bl (decide (lo ≤ n ∧ n ≤ hi))) H'
def spPen (C : Addr) : Sp := fun vs H Q _ => ∃ (m dx p : Addr) (n l h : Int), vs = [.ref m, .ref p, .int n] ∧ H m = some (.ins C dx []) ∧ Tup2 H p l h ∧ ∀ H' : Hp, Same H H' → Q (.int (max h n - min l n - (h - l))) H'
def spDist : Sp := fun vs H Q _ => ∃ (m : Addr) (n k : Int), vs = [.ref m, .int n, .int k] ∧ ∀ H' : Hp, Same H H' → Q (.int (if n - k < 0 then -(n - k) else n - k)) H'
def spBound : Sp := fun vs H Q _ => ∃ (m p : Addr) (l h k : Int), vs = [.ref m, .ref p, .int k] ∧ Tup2 H p l h ∧ l ≤ h ∧ ∀ H' : Hp, Same H H' → Q (.int (max 0 (max (l - k) (k - h)))) H'
/-- the labels at l are spans -/
def Spans (K : PySem.W.Frag) (H : Hp) (l : Addr) (ps : List Addr) (ns : List (Int × Int)) : Prop := SqL K H l (ps.map V.ref) ∧ Paired (fun p n => Tup2 H p n.1 n.2) ps ns
theorem halvesL_eq (ns : List Int) : SL.halvesL (SL.ltI ns) ns.length = (halvesOf ns).map V.int := by
  unfold SL.halvesL halvesOf
  rw [List.map_map]
  refine List.map_congr_left fun i hi => congrArg V.int ?_
  have e : ((ahead ns (ns.getD i 0) i ns.length).length : Int) = (SL.aheadN (SL.ltI ns) ns.length i : Int) := by
    unfold ahead SL.aheadN
    rw [List.length_map]
    refine congrArg (fun l : List Nat => (l.length : Int)) (List.filter_congr fun k hk => ?_)
    unfold less SL.ltI
    generalize ns.getD k 0 = a
    generalize ns.getD i 0 = b
    rw [HT.lexLt_cons, HT.lexLt_cons, HT.lexLt_nil_nil]
    by_cases e1 : a = b
    · rw [if_pos e1]
      by_cases e2 : 0 + (k : Int) = (i : Int)
      · rw [if_pos e2, decide_eq_false (by omega)]
      · rw [if_neg e2]
        exact decide_eq_decide.mpr (by omega)
    · rw [if_neg e1]
      exact decide_eq_decide.mpr (by omega)
  show _ = (if decide ((ns.length : Int) / 2 ≤ ((ahead ns (ns.getD i 0) i ns.length).length : Int)) = true then (1 : Int) else 0)
  rw [e]
  by_cases h : SL.aheadN (SL.ltI ns) ns.length i < ns.length / 2
  · rw [if_pos h, if_neg (fun z => by have z := of_decide_eq_true z; omega)]
  · rw [if_neg h, if_pos (decide_eq_true (by omega))]
def spSides (K : PySem.W.Frag) : Sp := fun vs H Q _ => ∃ (m l : Addr) (ps : List Addr) (ns : List (Int × Int)), vs = [.ref m, .ref l] ∧ Spans K H l ps ns ∧ ns.length ≤ 30 ∧ Tabs (TT K) H ∧
  ∀ (t : Addr) (H' : Hp), ExtN H H' → Tabs (TT K) H' → (SqL K H' t ((halvesOf (ns.map fun n => n.1 + n.2)).map V.int) ∨ SqT K H' t ((halvesOf (ns.map fun n => n.1 + n.2)).map V.int)) → Q (.ref t) H'
theorem Kp.keep {a p : Addr} {H H' : Hp} {xs : List V} {o : HO} (k : Kp a H H') (ha : H a = some (.lst xs)) (hp : H p = some o) (ho : ∀ ys, o ≠ .lst ys) : H' p = some o := k p o (fun z => by
  rw [z, ha] at hp
  exact ho xs (Option.some.inj hp).symm) hp
theorem ins_no {C dx : Addr} {fs : List (Str × V)} : ∀ ys, HO.ins C dx fs ≠ .lst ys := fun ys z => by cases z
theorem tup_no {xs : List V} : ∀ ys, HO.tup xs ≠ .lst ys := fun ys z => by cases z
theorem pair_at {G : Hp} : ∀ {ps : List Addr} {ns : List (Int × Int)} {t : Nat} {v : V}, Paired (fun p n => Tup2 G p n.1 n.2) ps ns → (ps.map V.ref)[t]? = some v → ∃ (p : Addr) (lo hi : Int), v = .ref p ∧ ns[t]? = some (lo, hi) ∧ Tup2 G p lo hi
  | p :: _, n :: _, 0, _, .cons h _, e => ⟨p, n.1, n.2, (Option.some.inj e).symm, rfl, h⟩
  | _ :: _, _ :: _, t + 1, _, .cons _ h, e => pair_at (t := t) h e
  | [], _, _, _, _, e => by cases e
def spRight (K : PySem.W.Frag) : Sp := fun vs H Q _ => ∃ (a : Addr) (x c : Int), vs = [.ref a] ∧ H a = some (.lst [.int x, .int c]) ∧ Tabs (TT K) H ∧ ∀ H' : Hp, SL.KpN a H H' → Tabs (TT K) H' → Q (.bl true) H'
theorem ok_right {f C : Addr} {fd : FuncData} {k : Nat} (F : FnP K "_law_right" "_law_right" s_law_right f fd) (m_range : mg "range" = none) (m_max : mg "max" = none) (m_min : mg "min" = none) (m_abs : mg "abs" = none) (m_list : mg "list" = none) (m_len : mg "len" = none)
    (M_C : MkO K C) (cl_C : Cls K C) (m_C : mg "Ranges" = some (.ref C))
    (C_draw : Cal P w K mg base CX0 "_law_draw" k ["_law_well_here", "_law_many"] spDraw) (C_one : Cal P w K mg base CX0 "_law_one" k ["_law_well_here", "_law_some"] (spOne K))
    (C_signed : Cal P w K mg base CX0 "_law_signed" k ["_law_well_here", "_law_size"] spSigned) (C_span : Cal P w K mg base CX0 "_law_span" k ["_law_well_here", "_law_size"] spSpan)
    (C_has : Cal P w K mg base CX0 "_law_has" k ["_law_span_here", "_law_number"] spHas) (C_shares : Cal P w K mg base CX0 "_law_shares" k ["_law_one_here", "_law_two"] spShares)
    (C_far : Cal P w K mg base CX0 "_law_far" k ["_law_span_here", "_law_number"] spFar) (C_halves : Cal P w K mg base CX0 "_law_halves" k ["_law_numbers"] (spHalves K))
    (D_own : CalM P w K mg base CX0 C "own" k ["self", "key"] spOwn) (D_join : CalM P w K mg base CX0 C "join" k ["self", "one", "other"] spJoin)
    (D_consistent : CalM P w K mg base CX0 C "consistent" k ["self", "label", "question"] spCons) (D_matches : CalM P w K mg base CX0 C "matches" k ["self", "key", "question"] spMat)
    (D_penalty : CalM P w K mg base CX0 C "penalty" k ["self", "label", "key"] (spPen C)) (D_sides : CalM P w K mg base CX0 C "sides" k ["self", "labels"] (spSides K))
    (D_distance : CalM P w K mg base CX0 C "distance" k ["self", "key", "point"] spDist) (D_bound : CalM P w K mg base CX0 C "bound" k ["self", "label", "point"] spBound) :
    FnOk P w K mg base CX0 (k + 1) f fd ["_law_well_here"] (spRight K) := by
  obtain ⟨f_law_draw, fd_law_draw, G_law_draw, b_law_draw, m_law_draw, k_law_draw⟩ := C_draw
  obtain ⟨f_law_one, fd_law_one, G_law_one, b_law_one, m_law_one, k_law_one⟩ := C_one
  obtain ⟨f_law_signed, fd_law_signed, G_law_signed, b_law_signed, m_law_signed, k_law_signed⟩ := C_signed
  obtain ⟨f_law_span, fd_law_span, G_law_span, b_law_span, m_law_span, k_law_span⟩ := C_span
  obtain ⟨f_law_has, fd_law_has, G_law_has, b_law_has, m_law_has, k_law_has⟩ := C_has
  obtain ⟨f_law_shares, fd_law_shares, G_law_shares, b_law_shares, m_law_shares, k_law_shares⟩ := C_shares
  obtain ⟨f_law_far, fd_law_far, G_law_far, b_law_far, m_law_far, k_law_far⟩ := C_far
  obtain ⟨f_law_halves, fd_law_halves, G_law_halves, b_law_halves, m_law_halves, k_law_halves⟩ := C_halves
  obtain ⟨f_own, fd_own, G_own, b_own, me_own⟩ := D_own
  obtain ⟨f_join, fd_join, G_join, b_join, me_join⟩ := D_join
  obtain ⟨f_consistent, fd_consistent, G_consistent, b_consistent, me_consistent⟩ := D_consistent
  obtain ⟨f_matches, fd_matches, G_matches, b_matches, me_matches⟩ := D_matches
  obtain ⟨f_penalty, fd_penalty, G_penalty, b_penalty, me_penalty⟩ := D_penalty
  obtain ⟨f_sides, fd_sides, G_sides, b_sides, me_sides⟩ := D_sides
  obtain ⟨f_distance, fd_distance, G_distance, b_distance, me_distance⟩ := D_distance
  obtain ⟨f_bound, fd_bound, G_bound, b_bound, me_bound⟩ := D_bound
  refine F.ok sc_law_right (fun vs H Q E h => ?_) (fun cdv A outer s H vs Q E hr h => ?_)
  · obtain ⟨a, x, c, rfl, _⟩ := h
    rfl
  · obtain ⟨a, x, c, rfl, ha, hT, q⟩ := h
    refine ⟨_, PSs.nox (pss_cons (ps_asg (pe_tup (pa_cons (pe_make00 M_C (by rfl) m_C) (pa_cons (pe_call G_law_one (hr.mono (by omega)) (by rfl) m_law_one k_law_one b_law_one .nil pass0 (pa_cons (pv 0) (pa_cons (pe_lst (pa_cons pe_int (pa_cons pe_int (pa_cons pe_int (pa_cons (pe_op op_pow pe_int pe_int) (pa_cons (pe_op op_pow pe_int pe_int) pa_nil)))))) pa_nil))) pa_nil))) (pg_tup rfl (pgs_cons (pg_name (i := 1) sc_law_right.nd rfl (.inl rfl)) (pgs_cons (pg_name (i := 2) sc_law_right.nd rfl (.inr rfl)) (pgs_nil)))))
    (pss_cons (ps_for PassesOwn.never rfl (pi_range1 (by rfl) m_range (pa_cons pe_int pa_nil)) (pg_name (i := 3) sc_law_right.nd rfl (.inl rfl))
      (pss_cons (ps_par3 (i := 4) (j := 5) (l := 6) rfl sc_law_right.nd rfl rfl rfl (by decide) (by decide) (by decide) rfl rfl rfl (pa_cons (pe_call G_law_span (hr.mono (by omega)) (by rfl) m_law_span k_law_span b_law_span .nil pass0 (pa_cons (pv 0) (pa_cons (pv 2) pa_nil))) (pa_cons (pe_call G_law_span (hr.mono (by omega)) (by rfl) m_law_span k_law_span b_law_span .nil pass0 (pa_cons (pv 0) (pa_cons (pv 2) pa_nil))) (pa_cons (pe_call G_law_signed (hr.mono (by omega)) (by rfl) m_law_signed k_law_signed b_law_signed .nil pass0 (pa_cons (pv 0) (pa_cons (pv 2) pa_nil))) pa_nil))) (by rfl))
      (pss_cons (ps_par (i := 7) (j := 8) rfl sc_law_right.nd rfl rfl (by decide) rfl rfl (pa_cons (pe_call G_law_signed (hr.mono (by omega)) (by rfl) m_law_signed k_law_signed b_law_signed .nil pass0 (pa_cons (pv 0) (pa_cons (pv 2) pa_nil))) (pa_cons (pe_call G_law_span (hr.mono (by omega)) (by rfl) m_law_span k_law_span b_law_span .nil pass0 (pa_cons (pv 0) (pa_cons (pv 2) pa_nil))) pa_nil)) (by rfl))
      (Evl.pss_cut (ps_if (pt_cmpR op_eq (pe_call G_law_draw (hr.mono (by omega)) (by rfl) m_law_draw k_law_draw b_law_draw .nil pass0 (pa_cons (pv 0) (pa_cons pe_int pa_nil))) pe_int (nomark _)) (pss_one (ps_set (i := 8) sc_law_right.nd rfl (.inl rfl) (pe_tup (pa_cons (pe_call G_law_signed (hr.mono (by omega)) (by rfl) m_law_signed k_law_signed b_law_signed .nil pass0 (pa_cons (pv 0) (pa_cons (pv 2) pa_nil))) (pa_cons (pe_call G_law_signed (hr.mono (by omega)) (by rfl) m_law_signed k_law_signed b_law_signed .nil pass0 (pa_cons (pv 0) (pa_cons (pv 2) pa_nil))) pa_nil))))) (pss_nil))
      (pss_cons (ps_set (i := 9) sc_law_right.nd rfl (.inl rfl) (pe_tup (pa_cons (pe_callB (call_min2 rfl) (by rfl) m_min (by decide +kernel) (pa_cons (pe_ix ix_tup (pv 4) pe_int (fun _ _ => rfl)) (pa_cons (pe_ix ix_tup (pv 5) pe_int (fun _ _ => rfl)) pa_nil))) (pa_cons (pe_callB (call_max2 rfl) (by rfl) m_max (by decide +kernel) (pa_cons (pe_ix ix_tup (pv 4) pe_int (fun _ _ => rfl)) (pa_cons (pe_ix ix_tup (pv 5) pe_int (fun _ _ => rfl)) pa_nil))) pa_nil))))
      (pss_cons (ps_if (PW.pt (pw_or (pt_cmpR (op_neST hr.units) (pe_meth (pv 1) cl_C me_own G_own (hr.mono (by omega)) b_own .nil pass0 (pa_cons (pv 6) pa_nil)) (pe_tup (pa_cons (pv 6) (pa_cons (pv 6) pa_nil))) (nomark _)) (pw_or1 (pt_cmpR (op_neST hr.units) (pe_meth (pv 1) cl_C me_join G_join (hr.mono (by omega)) b_join .nil pass0 (pa_cons (pv 4) (pa_cons (pv 5) pa_nil))) (pv 9) (nomark _))))) (pss_one (ps_ret pe_bl)) (pss_nil))
      (pss_cons (ps_if (pt_cmpR op_ne (pe_meth (pv 1) cl_C me_matches G_matches (hr.mono (by omega)) b_matches .nil pass0 (pa_cons (pv 6) (pa_cons (pv 8) pa_nil))) (pe_call G_law_has (hr.mono (by omega)) (by rfl) m_law_has k_law_has b_law_has .nil pass0 (pa_cons (pv 8) (pa_cons (pv 6) pa_nil))) (nomark _)) (pss_one (ps_ret pe_bl)) (pss_nil))
      (pss_cons (ps_if (pt_cmpR op_ne (pe_meth (pv 1) cl_C me_consistent G_consistent (hr.mono (by omega)) b_consistent .nil pass0 (pa_cons (pv 4) (pa_cons (pv 8) pa_nil))) (pe_call G_law_shares (hr.mono (by omega)) (by rfl) m_law_shares k_law_shares b_law_shares .nil pass0 (pa_cons (pv 8) (pa_cons (pv 4) pa_nil))) (nomark _)) (pss_one (ps_ret pe_bl)) (pss_nil))
      (pss_cons (ps_set (i := 10) sc_law_right.nd rfl (.inl rfl) (pe_op op_sub (pe_callB (call_max2 rfl) (by rfl) m_max (by decide +kernel) (pa_cons (pe_ix ix_tup (pv 4) pe_int (fun _ _ => rfl)) (pa_cons (pv 6) pa_nil))) (pe_callB (call_min2 rfl) (by rfl) m_min (by decide +kernel) (pa_cons (pe_ix ix_tup (pv 4) pe_int (fun _ _ => rfl)) (pa_cons (pv 6) pa_nil)))))
      (pss_cons (ps_if (pt_cmpR op_ne (pe_meth (pv 1) cl_C me_penalty G_penalty (hr.mono (by omega)) b_penalty .nil pass0 (pa_cons (pv 4) (pa_cons (pv 6) pa_nil))) (pe_op op_sub (pv 10) (pe_op op_sub (pe_ix ix_tup (pv 4) pe_int (fun _ _ => rfl)) (pe_ix ix_tup (pv 4) pe_int (fun _ _ => rfl)))) (nomark _)) (pss_one (ps_ret pe_bl)) (pss_nil))
      (pss_one (ps_if (PW.pt (pw_or (pt_cmpR op_ne (pe_meth (pv 1) cl_C me_distance G_distance (hr.mono (by omega)) b_distance .nil pass0 (pa_cons (pv 6) (pa_cons (pv 7) pa_nil))) (pe_callB call_abs (by rfl) m_abs (by decide +kernel) (pa_cons (pe_op op_sub (pv 6) (pv 7)) pa_nil)) (nomark _)) (pw_or1 (pt_cmpR op_ne (pe_meth (pv 1) cl_C me_bound G_bound (hr.mono (by omega)) b_bound .nil pass0 (pa_cons (pv 4) (pa_cons (pv 7) pa_nil))) (pe_call G_law_far (hr.mono (by omega)) (by rfl) m_law_far k_law_far b_law_far .nil pass0 (pa_cons (pv 4) (pa_cons (pv 7) pa_nil))) (nomark _))))) (pss_one (ps_ret pe_bl)) (pss_nil)))))))))))))
    (pss_cons (ps_setLc (i := 11) (own := [("_law_k", 12)]) rfl sc_law_right.nd rfl rfl (sw_true rfl rfl rfl (by decide +kernel)) (pi_range1 (by rfl) m_range (pa_cons (pe_call G_law_draw (hr.mono (by omega)) (by rfl) m_law_draw k_law_draw b_law_draw .nil pass0 (pa_cons (pv 0) (pa_cons pe_int pa_nil))) pa_nil)) (blkOk_by (N := n_law_right) (sc := defScope s_law_right) (by decide +kernel)) (fun _ _ _ _ _ => pg_name (i := 12) sc_law_right.nd rfl (.inl rfl)) (fun _ _ _ _ _ => pts_nil) (fun _ _ _ _ _ => (pe_call G_law_span (hr.mono (by omega)) (by rfl) m_law_span k_law_span b_law_span .nil pass0 (pa_cons (pv 0) (pa_cons (pv 2) pa_nil)))))
    (pss_one (ps_ret (pe_cmpR (op_eqS hr.units) (pe_callTy call_list_of (by rfl) m_list (by decide +kernel) (pa_cons (pe_meth (pv 1) cl_C me_sides G_sides (hr.mono (by omega)) b_sides .nil pass0 (pa_cons (pv 11) pa_nil)) pa_nil)) (pe_call G_law_halves (hr.mono (by omega)) (by rfl) m_law_halves k_law_halves b_law_halves .nil pass0 (pa_cons (pe_lc (own := [("_law_low", 13), ("_law_high", 14)]) rfl sc_law_right.nd (pi_list (pv 11)) (blkOk_by (N := n_law_right) (sc := defScope s_law_right) (by decide +kernel)) (fun _ _ _ _ _ => pg_tupK (n := 2) rfl (pgs_cons (pg_name (i := 13) sc_law_right.nd rfl (.inl rfl) (by first | exact .inl rfl | exact .inr rfl)) (pgs_cons (pg_name (i := 14) sc_law_right.nd rfl (.inl rfl) (by first | exact .inl rfl | exact .inr rfl)) (pgs_nil)))) (fun _ _ _ _ _ => pts_nil) (fun _ _ _ _ _ => (pe_op op_add (pv 13) (pv 14)))) pa_nil)) (nomark _))))))), ?_⟩
    have okp : ∀ {i j : Int}, ∀ v ∈ [V.int i, V.int j], okV v := fun {i j} v hv => by
      rcases List.mem_cons.mp hv with rfl | hv
      · exact okV_int _
      · rcases List.mem_cons.mp hv with rfl | hv
        · exact okV_int _
        · cases hv
    have oki : ∀ {ns : List Int}, ∀ v ∈ ns.map V.int, okV v := fun {ns} v hv => by
      obtain ⟨n, _, rfl⟩ := List.mem_map.mp hv
      exact okV_int _
    refine fun m dx nm ndx hne => ?_
    have hma : m ≠ a := fun z => by
      rw [z, ha] at nm
      cases nm
    have hda : dx ≠ a := fun z => by
      rw [z, ha] at ndx
      cases ndx
    have k0 : Kp a H (upd (upd H dx (.own m)) m (.ins C dx [])) := fun b o _ e => by
      rw [upd_ne (ne_of_none e nm), upd_ne (ne_of_none e ndx)]
      exact e
    have m0 : (upd (upd H dx (.own m)) m (.ins C dx [])) m = some (.ins C dx []) := upd_same
    have a0 : (upd (upd H dx (.own m)) m (.ins C dx [])) a = some (.lst [.int x, .int c]) := by
      rw [upd_ne (Ne.symm hma), upd_ne (Ne.symm hda)]
      exact ha
    generalize upd (upd H dx (.own m)) m (.ins C dx []) = G0 at k0 m0 a0
    refine ⟨_, rfl, 10, 9, rfl, rfl, ⟨by decide, by decide, by decide⟩, 10, 40, rfl, rfl, ⟨by decide, by decide, by decide⟩, by show 5 ≤ sizeLine; decide, fun l nl => ?_⟩
    have hla : l ≠ a := fun z => by
      rw [z, a0] at nl
      cases nl
    have k1 : Kp a G0 (upd G0 l (.lst [.int 2, .int 5, .int 20, .int (10 ^ (9 : Int).toNat), .int (10 ^ (40 : Int).toNat)])) := .same (same_upd nl)
    refine ⟨a, l, x, c, _, rfl, same_upd nl _ _ a0, .inl (.inl upd_same), fun x' c' => .inl (.inl (by rw [upd_ne hla]; exact upd_same)), by show 0 < 5; decide, by show 5 ≤ 1000; decide, fun v x1 c1 hv => ?_⟩
    obtain ⟨n, rfl, n0, n1⟩ : ∃ n : Int, v = .int n ∧ 0 ≤ n ∧ n ≤ 10 ^ 40 := by
      rcases List.mem_cons.mp hv with rfl | hv
      · exact ⟨2, rfl, by decide, by decide⟩
      rcases List.mem_cons.mp hv with rfl | hv
      · exact ⟨5, rfl, by decide, by decide⟩
      rcases List.mem_cons.mp hv with rfl | hv
      · exact ⟨20, rfl, by decide, by decide⟩
      rcases List.mem_cons.mp hv with rfl | hv
      · exact ⟨10 ^ 9, rfl, by decide, by decide⟩
      rcases List.mem_cons.mp hv with rfl | hv
      · exact ⟨10 ^ 40, rfl, by decide, by decide⟩
      · cases hv
    have z1 : Sz (2 * n + 1) := .of (k := 140) (by omega) (by decide)
    have z2 : Sz (n + 1) := .of (k := 140) (by omega) (by decide)
    have k2 := (k0.trans k1).trans (Kp.set (o := .lst [.int x1, .int c1]))
    have m2 := ((k1.trans (Kp.set (o := .lst [.int x1, .int c1]))) _ _ hma m0)
    generalize hG : upd (upd G0 l _) a (.lst [.int x1, .int c1]) = G at k2 m2
    have a2 : G a = some (.lst [.int x1, .int c1]) := by
      rw [← hG]
      exact upd_same
    refine ⟨by show 2 ≤ sizeLine; decide, fun T nT => ?_⟩
    have k3 := k2.trans (.same (same_upd (o := .tup [.ref m, .int n]) nT))
    have m3 := same_upd (o := .tup [.ref m, .int n]) nT _ _ m2
    have a3 := same_upd (o := .tup [.ref m, .int n]) nT _ _ a2
    refine ⟨T, [.ref m, .int n], rfl, .inl (.inl upd_same), rfl, _, _, rfl, _, _, rfl, rfl, ?_⟩
    generalize upd G T (.tup [.ref m, .int n]) = G1 at k3 m3 a3
    refine ⟨_, rfl, by decide, by decide, for_range (n := 12) (fun _ σ H' => ∃ (v3 v4 v5 v6 v7 v8 v9 v10 v11 v12 v13 v14 : Option V) (x' c' : Int), σ = [some (.ref a), some (.ref m), some (.int n), v3, v4, v5, v6, v7, v8, v9, v10, v11, v12, v13, v14] ∧
      Kp a H H' ∧ H' m = some (.ins C dx []) ∧ H' a = some (.lst [.int x', .int c'])) ⟨_, _, _, _, _, _, _, _, _, _, _, _, _, _, rfl, k3, m3, a3⟩ ?_ ?_⟩
    · rintro i σ H1 _ ⟨v3, v4, v5, v6, v7, v8, v9, v10, v11, v12, v13, v14, x', c', rfl, kA, mA, aA⟩
      refine ⟨_, rfl, _, rfl, a, n, x', c', rfl, aA, n0, z1, z2, fun H2 p1 lo hi x2 c2 kB aB hB nB le1 => ?_⟩
      have p1a : p1 ≠ a := fun z => by
        rw [z, aA] at nB
        cases nB
      refine ⟨_, rfl, _, rfl, a, n, x2, c2, rfl, aB, n0, z1, z2, fun H3 p2 l2 h2 x3 c3 kC aC hC nC le2 => ?_⟩
      have p2a : p2 ≠ a := fun z => by
        rw [z, aB] at nC
        cases nC
      refine ⟨_, rfl, _, rfl, a, n, x3, c3, rfl, aC, n0, z1, fun item x4 c4 _ _ => ⟨_, _, _, rfl, ?_⟩⟩
      refine ⟨_, rfl, _, rfl, a, n, x4, c4, rfl, upd_same, n0, z1, fun spot x5 c5 _ _ => ?_⟩
      refine ⟨_, rfl, _, rfl, a, n, x5, c5, rfl, upd_same, n0, z1, z2, fun H4 p8 l8 h8 x6 c6 kD aD hD nD le8 => ⟨_, _, rfl, ?_⟩⟩
      have kE : Kp a H3 H4 := (Kp.set.trans Kp.set).trans kD
      have h1 := kE _ _ p1a (kC _ _ p1a hB)
      have h2' := kE _ _ p2a hC
      have mE := kE _ _ hma (kC _ _ hma (kB _ _ hma mA))
      have kF := ((kA.trans kB).trans kC).trans kE
      have p8a : p8 ≠ a := fun z => by
        rw [z, upd_same] at nD
        cases nD
      refine ⟨fun σ' H' => ∃ (q8 : Addr) (b8 e8 x' c' : Int), σ' = [some (.ref a), some (.ref m), some (.int n), some (.int (0 + (i : Int))), some (.ref p1), some (.ref p2), some (.int item), some (.int spot), some (.ref q8), v9, v10, v11, v12, v13, v14] ∧
        Kp a H H' ∧ H' m = some (.ins C dx []) ∧ H' a = some (.lst [.int x', .int c']) ∧ Tup2 H' p1 lo hi ∧ Tup2 H' p2 l2 h2 ∧ Tup2 H' q8 b8 e8, ?_, ?_⟩
      · refine ⟨_, rfl, a, x6, c6, 3, rfl, aD, by decide, .of (k := 2) (by decide) (by decide), fun r x7 c7 _ _ => ⟨rfl, _, rfl, ite2 (fun _ => ?_) (fun _ => ?_)⟩⟩
        · refine ⟨_, rfl, _, rfl, a, n, x7, c7, rfl, upd_same, n0, z1, fun y1 x8 c8 _ _ => ?_⟩
          refine ⟨_, rfl, _, rfl, a, n, x8, c8, rfl, upd_same, n0, z1, fun y2 x9 c9 _ _ => ⟨by show 2 ≤ sizeLine; decide, fun p np => ?_⟩⟩
          have kG : Kp a H4 _ := ((Kp.set (o := .lst [.int x7, .int c7])).trans (Kp.set (o := .lst [.int x8, .int c8]))).trans ((Kp.set (o := .lst [.int x9, .int c9])).trans (.same (same_upd (o := .tup [.int y1, .int y2]) np)))
          exact ⟨p, y1, y2, x9, c9, rfl, kF.trans kG, kG _ _ hma mE, same_upd np _ _ upd_same, kG _ _ p1a h1, kG _ _ p2a h2', upd_same⟩
        · have kG : Kp a H4 (upd H4 a (.lst [.int x7, .int c7])) := Kp.set
          exact ⟨p8, l8, h8, x7, c7, rfl, kF.trans kG, kG _ _ hma mE, upd_same, kG _ _ p1a h1, kG _ _ p2a h2', kG _ _ p8a hD⟩
      · rintro σ' H5 ⟨q8, b8, e8, x8, c8, rfl, kH, mH, aH, t1, t2, t8⟩
        refine ⟨_, rfl, p1, _, 0, _, rfl, rfl, .inl (.inl t1), rfl, _, rfl, p2, _, 0, _, rfl, rfl, .inl (.inl t2), rfl, lo, l2, rfl, ?_⟩
        refine ⟨_, rfl, p1, _, 1, _, rfl, rfl, .inl (.inl t1), rfl, _, rfl, p2, _, 1, _, rfl, rfl, .inl (.inl t2), rfl, hi, h2, rfl, by show 2 ≤ sizeLine; decide, fun p9 np9 => ?_⟩
        rw [max_if, min_if]
        have s0 : Same H5 (upd H5 p9 (.tup [.int (min lo l2), .int (max hi h2)])) := same_upd np9
        have t9 : Tup2 (upd H5 p9 (.tup [.int (min lo l2), .int (max hi h2)])) p9 (min lo l2) (max hi h2) := upd_same
        generalize upd H5 p9 (.tup [.int (min lo l2), .int (max hi h2)]) = G5 at s0 t9
        refine ⟨_, rfl, m, dx, [], rfl, s0 _ _ mH, rfl, _, rfl, m, item, rfl, fun po H6 s1 ho => ?_⟩
        have s01 := s0.trans s1
        refine ⟨_, rfl, _, rfl, by show 2 ≤ sizeLine; decide, fun pt npt => ⟨po, pt, [.int item, .int item], rfl, rfl, .inl (.inl (same_upd npt _ _ ho)), .inl (.inl upd_same), okp, _, rfl, ite2 (fun e => absurd e (by decide)) (fun _ => ?_)⟩⟩
        have s02 := s01.trans (same_upd (o := .tup [.int item, .int item]) npt)
        have t92 := (s1.trans (same_upd (o := .tup [.int item, .int item]) npt)) _ _ t9
        generalize upd H6 pt (.tup [.int item, .int item]) = G6 at s02 t92
        refine ⟨_, rfl, m, dx, [], rfl, s02 _ _ mH, rfl, _, rfl, _, rfl, m, p1, p2, lo, hi, l2, h2, rfl, s02 _ _ t1, s02 _ _ t2, fun pj H7 s3 hj => ?_⟩
        have s03 := s02.trans s3
        refine ⟨_, rfl, pj, p9, [.int (min lo l2), .int (max hi h2)], rfl, rfl, .inl (.inl hj), .inl (.inl (s3 _ _ t92)), okp, _, rfl, ite2 (fun e => absurd e (by decide)) (fun _ => ?_)⟩
        refine ⟨_, rfl, m, dx, [], rfl, s03 _ _ mH, rfl, _, rfl, _, rfl, m, q8, item, b8, e8, rfl, s03 _ _ t8, fun H8 s4 => ?_⟩
        have s04 := s03.trans s4
        refine ⟨_, rfl, _, rfl, q8, b8, e8, item, rfl, s04 _ _ t8, rfl, _, rfl, ite2 (fun e => absurd e (by simp)) (fun _ => ?_)⟩
        refine ⟨_, rfl, m, dx, [], rfl, s04 _ _ mH, rfl, _, rfl, _, rfl, m, p1, q8, lo, hi, b8, e8, rfl, s04 _ _ t1, s04 _ _ t8, le1, fun H9 s5 => ?_⟩
        have s05 := s04.trans s5
        refine ⟨_, rfl, _, rfl, q8, p1, b8, e8, lo, hi, rfl, s05 _ _ t8, s05 _ _ t1, rfl, _, rfl, ite2 (fun e => absurd e (by simp)) (fun _ => ?_)⟩
        refine ⟨_, rfl, p1, _, 1, _, rfl, rfl, .inl (.inl (s05 _ _ t1)), rfl, _, rfl, hi, item, rfl, _, rfl, p1, _, 0, _, rfl, rfl, .inl (.inl (s05 _ _ t1)), rfl, _, rfl, lo, item, rfl, _, _, rfl, rfl, ?_⟩
        rw [max_if, min_if]
        refine ⟨_, rfl, m, dx, [], rfl, s05 _ _ mH, rfl, _, rfl, _, rfl, m, dx, p1, item, lo, hi, rfl, s05 _ _ mH, s05 _ _ t1, fun H10 s6 => ?_⟩
        have s06 := s05.trans s6
        refine ⟨_, rfl, _, rfl, p1, _, 1, _, rfl, rfl, .inl (.inl (s06 _ _ t1)), rfl, _, rfl, p1, _, 0, _, rfl, rfl, .inl (.inl (s06 _ _ t1)), rfl, hi, lo, rfl, rfl, _, _, rfl, rfl, rfl, _, rfl, ite2 (fun e => absurd e (by simp)) (fun _ => ?_)⟩
        refine ⟨_, rfl, m, dx, [], rfl, s06 _ _ mH, rfl, _, rfl, _, rfl, m, item, spot, rfl, fun H11 s7 => ?_⟩
        have s07 := s06.trans s7
        refine ⟨_, rfl, _, rfl, item, spot, rfl, rfl, _, rfl, rfl, _, rfl, ite2 (fun e => absurd e (by simp)) (fun _ => ?_)⟩
        refine ⟨_, rfl, m, dx, [], rfl, s07 _ _ mH, rfl, _, rfl, _, rfl, m, p1, lo, hi, spot, rfl, s07 _ _ t1, le1, fun H12 s8 => ?_⟩
        have s08 := s07.trans s8
        refine ⟨_, rfl, _, rfl, p1, lo, hi, spot, rfl, s08 _ _ t1, rfl, _, rfl, ite2 (fun e => absurd e (by simp)) (fun _ => ?_)⟩
        exact ⟨_, _, _, _, _, _, _, _, _, _, _, _, _, _, rfl, kH.trans (.same s08), s08 _ _ mH, s08 _ _ aH⟩
    · rintro σ H1 ⟨v3, v4, v5, v6, v7, v8, v9, v10, v11, v12, v13, v14, x', c', rfl, kA, mA, aA⟩
      refine ⟨_, rfl, a, x', c', 31, rfl, aA, by decide, .of (k := 5) (by decide) (by decide), fun r x2 c2 r0 r1 => ⟨_, rfl, by omega, by omega, fun D nD => ?_⟩⟩
      obtain ⟨j, rfl⟩ := Int.eq_ofNat_of_zero_le r0
      have kB := kA.trans (Kp.set (o := .lst [.int x2, .int c2]))
      have mB := (Kp.set (o := .lst [.int x2, .int c2])) _ _ hma mA
      have aB : (upd H1 a (.lst [.int x2, .int c2])) a = some (.lst [.int x2, .int c2]) := upd_same
      generalize upd H1 a (.lst [.int x2, .int c2]) = G2 at nD kB mB aB
      rw [Int.toNat_natCast]
      have Da : D ≠ a := fun z => by
        rw [z, aB] at nD
        cases nD
      have Dm : D ≠ m := fun z => by
        rw [z, mB] at nD
        cases nD
      refine lc_range (lo := 0) (n := j) (fun t H' => ∃ (ps : List Addr) (ns : List (Int × Int)) (x' c' : Int), H' D = some (.lst (ps.map V.ref)) ∧ ps.length = t ∧ Paired (fun p n => Tup2 H' p n.1 n.2) ps ns ∧ Kp a G2 H' ∧ H' a = some (.lst [.int x', .int c'])) ⟨[], [], x2, c2, upd_same, rfl, .nil, .same (same_upd nD), same_upd nD _ _ aB⟩ ?_ ?_
      · rintro t H2 ht ⟨ps, ns, x3, c3, hD, hl, pp, kC, aC⟩
        refine ⟨rfl, ?_⟩
        refine ⟨_, rfl, _, rfl, a, n, x3, c3, rfl, aC, n0, z1, z2, fun H3 p lo hi x4 c4 kD aD hp np le => ?_⟩
        have hD3 := kD _ _ Da hD
        refine ⟨_, hD3, by rw [List.length_map]; exact small1000 (by omega), ps ++ [p], ns ++ [(lo, hi)], x4, c4, ?_, ?_, ?_, ?_, ?_⟩
        · rw [upd_same, List.map_append]
          rfl
        · rw [List.length_append, hl]
          rfl
        · have keep : ∀ {q : Addr} {l h : Int}, Tup2 H3 q l h → Tup2 (upd H3 D (.lst (ps.map V.ref ++ [V.ref p]))) q l h := fun {q l h} z => by
            have qD : q ≠ D := fun e => by
              rw [e, Tup2, hD3] at z
              cases z
            exact (upd_ne qD).trans z
          refine .snoc (Paired.mapP pp fun q n' z => keep ?_) (keep hp)
          exact kD _ _ (fun e => by
            rw [e, Tup2, aC] at z
            cases z) z
        · exact fun b o nb e => by
            rw [upd_ne (ne_of_none e nD)]
            exact kD _ _ nb (kC _ _ nb e)
        · rw [upd_ne (Ne.symm Da)]
          exact aD
      · rintro H2 ⟨ps, ns, x3, c3, hD, hl, pp, kC, aC⟩
        have mC := kC _ _ hma mB
        have hn : ns.length = j := by rw [← hl]; exact (Paired.length pp).symm
        refine ⟨_, rfl, m, dx, [], rfl, mC, rfl, _, rfl, m, D, ps, ns, rfl, ⟨.inl (.inl hD), pp⟩, by omega, SL.Tabs.kp hT ha (kB.trans kC), fun t H3 s1 tt ht => ⟨t, _, rfl, ht, fun l nl => ?_⟩⟩
        have s2 := s1.trans (SL.ExtN.of_same (same_upd (o := .lst ((halvesOf (ns.map fun n => n.1 + n.2)).map V.int)) nl))
        have t2 := SL.Tabs.same tt (same_upd (o := .lst ((halvesOf (ns.map fun n => n.1 + n.2)).map V.int)) nl)
        have hlL : (upd H3 l (.lst ((halvesOf (ns.map fun n => n.1 + n.2)).map V.int))) l = some (.lst ((halvesOf (ns.map fun n => n.1 + n.2)).map V.int)) := upd_same
        generalize upd H3 l (.lst ((halvesOf (ns.map fun n => n.1 + n.2)).map V.int)) = G3 at s2 hlL t2
        have hD3 := s2 _ _ hD (fun _ z => by cases z)
        have pp3 : Paired (fun p n => Tup2 G3 p n.1 n.2) ps ns := Paired.mapP pp fun q n' z => s2 _ _ z (fun _ z => by cases z)
        refine ⟨_, rfl, D, rfl, ⟨ps.map V.ref, .inl (.inl hD3)⟩, fun D2 nD2 => ?_⟩
        refine lc_list (xs := ps.map V.ref) (fun t H' => Same G3 H' ∧ H' D2 = some (.lst (((ns.map fun n => n.1 + n.2).take t).map V.int))) ⟨same_upd nD2, upd_same⟩ (fun t H' _ z => .inl (.inl (z.1 _ _ hD3))) ?_ ?_
        · rintro t v H4 hv ⟨s4, hD4⟩
          obtain ⟨p, lo, hi, rfl, e1, e2⟩ : ∃ (p : Addr) (lo hi : Int), v = .ref p ∧ ns[t]? = some (lo, hi) ∧ Tup2 G3 p lo hi := pair_at pp3 hv
          refine ⟨p, [.int lo, .int hi], rfl, .inl (.inl (s4 _ _ e2)), rfl, _, _, rfl, _, _, rfl, rfl, rfl, ?_⟩
          refine ⟨_, rfl, _, rfl, lo, hi, rfl, rfl, _, hD4, ?_, same_put s4 nD2, ?_⟩
          · rw [List.length_map, List.length_take, List.length_map]
            exact small1000 (by omega)
          · rw [upd_same, List.take_add_one, List.getElem?_map, e1, List.map_append]
            rfl
        · rintro H4 ⟨s4, hD4⟩
          rw [List.length_map, List.take_of_length_le (by rw [List.length_map, hn, hl]; exact Nat.le_refl _)] at hD4
          refine ⟨D2, _, rfl, .inl (.inl hD4), by rw [List.length_map]; omega, fun p H5 s5 hp => ?_⟩
          exact ⟨l, p, _, rfl, rfl, .inl (.inl (s5 _ _ (s4 _ _ hlL))), .inl (.inl hp), oki, q _ ((SL.KpN.of (kB.trans kC)).trans (SL.KpN.ext (s2.trans (SL.ExtN.of_same (s4.trans s5))))) (SL.Tabs.same t2 (s4.trans s5))⟩
end
end K11
set_option Elab.async false
set_option linter.all false
set_option maxRecDepth 100000
set_option maxHeartbeats 2000000
namespace K11
open PySem PySem.Spec PyProof.Rows L2 CM LamX
section
variable {P : Program} {w : World} {K : PySem.W.Frag} {mg : Str → Option Value} {base : Heap}
theorem cut_mem {xs : List V} {lo hi : Option Int} {v : V} (h : v ∈ cutV xs lo hi) : v ∈ xs := List.mem_of_mem_drop (List.mem_of_mem_take h)
def spLaw (K : PySem.W.Frag) : Sp := fun vs H Q _ => ∃ (a : Addr) (ns : List Int), vs = [.ref a] ∧ SqL K H a (ns.map V.int) ∧ ns.length ≤ 63 ∧ Tabs (TT K) H ∧ ∀ H', Q (.bl true) H'
theorem ok_law {f : Addr} {fd : FuncData} {k : Nat} (F : FnP K "law" "law" s_law f fd) (C_well : Cal P w K mg base CX0 "_law_well" k ["_law_cell"] spWell) (C_right : Cal P w K mg base CX0 "_law_right" k ["_law_well_here"] (spRight K)) :
    FnOk P w K mg base CX0 (k + 1) f fd ["_law_script"] (spLaw K) := by
  obtain ⟨f_law_well, fd_law_well, G_law_well, b_law_well, m_law_well, k_law_well⟩ := C_well
  obtain ⟨f_law_right, fd_law_right, G_law_right, b_law_right, m_law_right, k_law_right⟩ := C_right
  refine F.ok sc_law (fun vs H Q E h => ?_) (fun cdv A outer s H vs Q E hr h => ?_)
  · obtain ⟨a, ns, rfl, _⟩ := h
    rfl
  · obtain ⟨a, ns, rfl, hS, hlen, hT, q⟩ := h
    refine ⟨_, PSs.nox (pss_cons (ps_for PassesOwn.never rfl (pi_list (pe_op op_cat (pe_slice sl_list (pv 0) po_none (po_some pe_int)) (pe_lst (pa_cons pe_int pa_nil)))) (pg_name (i := 1) sc_law.nd rfl (.inl rfl))
      (pss_one (ps_if (pt_not (pt_val (pe_call G_law_right (hr.mono (by omega)) (by rfl) m_law_right k_law_right b_law_right .nil pass0 (pa_cons (pe_call G_law_well (hr.mono (by omega)) (by rfl) m_law_well k_law_well b_law_well .nil pass0 (pa_cons (pv 1) pa_nil)) pa_nil)))) (pss_one (ps_ret pe_bl)) (pss_nil))))
    (pss_one (ps_ret pe_bl))), ?_⟩
    refine ⟨_, rfl, 4, rfl, a, _, rfl, hS, fun c nc => ⟨by show 1 ≤ sizeLine; decide, fun d nd => ?_⟩⟩
    have hc : (upd (upd H c (.lst (cutV (ns.map V.int) none (some 4)))) d (.lst [V.int 0])) c = some (.lst (cutV (ns.map V.int) none (some 4))) := by
      rw [upd_ne (ne_of_none upd_same nd), upd_same]
    have hl : (cutV (ns.map V.int) none (some 4)).length ≤ 63 := Nat.le_trans (cutV_length ..) (by rw [List.length_map]; exact hlen)
    refine ⟨c, d, _, _, rfl, rfl, hc, upd_same, Nat.le_of_lt (small1000 (by rw [List.length_singleton]; omega)), fun e ne => ?_⟩
    generalize hX : cutV (ns.map V.int) none (some 4) ++ [V.int 0] = X
    have hXi : ∀ v ∈ X, ∃ z : Int, v = .int z := fun v hv => by
      rw [← hX] at hv
      rcases List.mem_append.mp hv with h1 | h1
      · obtain ⟨z, _, rfl⟩ := List.mem_map.mp (cut_mem h1)
        exact ⟨z, rfl⟩
      · exact ⟨0, List.mem_singleton.mp h1⟩
    have hT1 := SL.Tabs.same hT ((same_upd (o := .lst (cutV (ns.map V.int) none (some 4))) nc).trans (same_upd (o := .lst [V.int 0]) nd))
    generalize upd (upd H c (.lst (cutV (ns.map V.int) none (some 4)))) d (.lst [V.int 0]) = H1 at ne hT1
    refine ⟨e, rfl, ⟨X, .inl (.inl upd_same)⟩, for_list (K := K) (a := e) (xs := X) (fun i σ H' => ∃ v1 : Option V, σ = [some (.ref a), v1] ∧ H' e = some (.lst X) ∧ Tabs (TT K) H')
      ⟨none, rfl, upd_same, SL.Tabs.same hT1 (same_upd ne)⟩ (fun i σ H' _ ⟨_, _, he, _⟩ => .inl (.inl he)) ?_ ?_⟩
    · rintro i y σ H2 hi ⟨v1, rfl, he, hTi⟩
      obtain ⟨z, rfl⟩ := hXi y (List.mem_of_getElem? hi)
      refine ⟨_, rfl, z, rfl, fun p np => ⟨p, z, 0, rfl, upd_same, SL.Tabs.same hTi (same_upd np), fun H3 kp hT3 => ⟨_, rfl, ite2 (fun e => absurd e (by decide)) (fun _ => ⟨_, rfl, ?_⟩)⟩⟩⟩
      have hpe : e ≠ p := ne_of_none he np
      exact ⟨kp _ _ hpe (fun _ z => by cases z) (same_upd np _ _ he), hT3⟩
    · rintro σ H2 ⟨v1, rfl, he, hTi⟩
      exact q _
end
end K11
set_option Elab.async false
set_option linter.all false
set_option maxRecDepth 100000
set_option maxHeartbeats 2000000
namespace K11
open PySem PySem.Spec PyProof.Rows L2 CM LamX
section
variable {P : Program} {w : World} {K : PySem.W.Frag} {mg : Str → Option Value} {base : Heap}
/-! ### the methods -/
theorem ok_own {f : Addr} {fd : FuncData} {k : Nat} (F : FnP K "own" "Ranges.own" s_Ranges_own f fd) : FnOk P w K mg base CX0 (k + 1) f fd ["self", "key"] spOwn := by
  refine F.ok sc_Ranges_own (fun vs H Q E h => ?_) (fun cdv A outer s H vs Q E hr h => ?_)
  · obtain ⟨m, n, rfl, _⟩ := h
    rfl
  · obtain ⟨m, n, rfl, q⟩ := h
    refine ⟨_, PSs.nox (pss_one (ps_ret (pe_tup (pa_cons (pv 1) (pa_cons (pv 1) pa_nil))))), ?_⟩
    exact ⟨_, rfl, _, rfl, by show 2 ≤ sizeLine; decide, fun p np => q p _ (same_upd np) upd_same⟩
def spHull : Sp := fun vs H Q _ => ∃ (p r : Addr) (l h l' h' : Int), vs = [.ref p, .ref r] ∧ Tup2 H p l h ∧ Tup2 H r l' h' ∧ ∀ (t : Addr) (H' : Hp), Same H H' → Tup2 H' t (min l l') (max h h') → Q (.ref t) H'
theorem ok_hull {f : Addr} {fd : FuncData} {k : Nat} (F : FnP K "hull" "hull" s_hull f fd) (m_max : mg "max" = none) (m_min : mg "min" = none) : FnOk P w K mg base CX0 (k + 1) f fd ["one", "other"] spHull := by
  refine F.ok sc_hull (fun vs H Q E h => ?_) (fun cdv A outer s H vs Q E hr h => ?_)
  · obtain ⟨p, r, l, h, l', h', rfl, _⟩ := h
    rfl
  · obtain ⟨p, r, l, h, l', h', rfl, hp, hq, q⟩ := h
    refine ⟨_, PSs.nox (pss_one (ps_ret (pe_tup (pa_cons (pe_callB (call_min2 rfl) (by rfl) m_min (by decide +kernel) (pa_cons (pe_ix ix_tup (pv 0) pe_int (fun _ _ => rfl)) (pa_cons (pe_ix ix_tup (pv 1) pe_int (fun _ _ => rfl)) pa_nil))) (pa_cons (pe_callB (call_max2 rfl) (by rfl) m_max (by decide +kernel) (pa_cons (pe_ix ix_tup (pv 0) pe_int (fun _ _ => rfl)) (pa_cons (pe_ix ix_tup (pv 1) pe_int (fun _ _ => rfl)) pa_nil))) pa_nil))))), ?_⟩
    refine ⟨_, rfl, p, _, 0, _, rfl, rfl, .inl (.inl hp), rfl, _, rfl, r, _, 0, _, rfl, rfl, .inl (.inl hq), rfl, l, l', rfl, ?_⟩
    refine ⟨_, rfl, p, _, 1, _, rfl, rfl, .inl (.inl hp), rfl, _, rfl, r, _, 1, _, rfl, rfl, .inl (.inl hq), rfl, h, h', rfl, by show 2 ≤ sizeLine; decide, fun t nt => ?_⟩
    rw [max_if, min_if]
    exact q t _ (same_upd nt) upd_same
def spShI : Sp := fun vs H Q _ => ∃ (p r : Addr) (l h l' h' : Int), vs = [.ref p, .ref r] ∧ Tup2 H p l h ∧ Tup2 H r l' h' ∧ Q (.bl (decide (max l l' ≤ min h h'))) H
theorem ok_shi {f : Addr} {fd : FuncData} {k : Nat} (F : FnP K "share_integer" "share_integer" s_share_integer f fd) (m_max : mg "max" = none) (m_min : mg "min" = none) : FnOk P w K mg base CX0 (k + 1) f fd ["one", "other"] spShI := by
  refine F.ok sc_share_integer (fun vs H Q E h => ?_) (fun cdv A outer s H vs Q E hr h => ?_)
  · obtain ⟨p, r, l, h, l', h', rfl, _⟩ := h
    rfl
  · obtain ⟨p, r, l, h, l', h', rfl, hp, hq, q⟩ := h
    refine ⟨_, PSs.nox (pss_one (ps_ret (pe_cmpR op_le (pe_callB (call_max2 rfl) (by rfl) m_max (by decide +kernel) (pa_cons (pe_ix ix_tup (pv 0) pe_int (fun _ _ => rfl)) (pa_cons (pe_ix ix_tup (pv 1) pe_int (fun _ _ => rfl)) pa_nil))) (pe_callB (call_min2 rfl) (by rfl) m_min (by decide +kernel) (pa_cons (pe_ix ix_tup (pv 0) pe_int (fun _ _ => rfl)) (pa_cons (pe_ix ix_tup (pv 1) pe_int (fun _ _ => rfl)) pa_nil))) (nomark _)))), ?_⟩
    refine ⟨_, rfl, p, _, 0, _, rfl, rfl, .inl (.inl hp), rfl, _, rfl, r, _, 0, _, rfl, rfl, .inl (.inl hq), rfl, l, l', rfl, ?_⟩
    refine ⟨_, rfl, p, _, 1, _, rfl, rfl, .inl (.inl hp), rfl, _, rfl, r, _, 1, _, rfl, rfl, .inl (.inl hq), rfl, h, h', rfl, _, _, rfl, rfl, ?_⟩
    rw [max_if, min_if]
    exact q
def spWid : Sp := fun vs H Q _ => ∃ (p : Addr) (l h : Int), vs = [.ref p] ∧ Tup2 H p l h ∧ Q (.int (h - l)) H
theorem ok_width {f : Addr} {fd : FuncData} {k : Nat} (F : FnP K "width_of" "width_of" s_width_of f fd) : FnOk P w K mg base CX0 (k + 1) f fd ["span"] spWid := by
  refine F.ok sc_width_of (fun vs H Q E h => ?_) (fun cdv A outer s H vs Q E hr h => ?_)
  · obtain ⟨p, l, h, rfl, _⟩ := h
    rfl
  · obtain ⟨p, l, h, rfl, hp, q⟩ := h
    refine ⟨_, PSs.nox (pss_one (ps_ret (pe_op op_sub (pe_ix ix_tup (pv 0) pe_int (fun _ _ => rfl)) (pe_ix ix_tup (pv 0) pe_int (fun _ _ => rfl))))), ?_⟩
    exact ⟨_, rfl, p, _, 1, _, rfl, rfl, .inl (.inl hp), rfl, _, rfl, p, _, 0, _, rfl, rfl, .inl (.inl hp), rfl, _, _, rfl, rfl, q⟩
def spGap : Sp := fun vs H Q _ => ∃ (p : Addr) (l h n : Int), vs = [.ref p, .int n] ∧ Tup2 H p l h ∧ Q (.int (max (max (l - n) (n - h)) 0)) H
theorem ok_gap {f : Addr} {fd : FuncData} {k : Nat} (F : FnP K "gap" "gap" s_gap f fd) (m_max : mg "max" = none) : FnOk P w K mg base CX0 (k + 1) f fd ["span", "number"] spGap := by
  refine F.ok sc_gap (fun vs H Q E h => ?_) (fun cdv A outer s H vs Q E hr h => ?_)
  · obtain ⟨p, l, h, n, rfl, _⟩ := h
    rfl
  · obtain ⟨p, l, h, n, rfl, hp, q⟩ := h
    refine ⟨_, PSs.nox (pss_one (ps_ret (pe_callB (SL.call_max3 rfl) (by rfl) m_max (by decide +kernel) (pa_cons (pe_op op_sub (pe_ix ix_tup (pv 0) pe_int (fun _ _ => rfl)) (pv 1)) (pa_cons (pe_op op_sub (pv 1) (pe_ix ix_tup (pv 0) pe_int (fun _ _ => rfl))) (pa_cons pe_int pa_nil)))))), ?_⟩
    exact ⟨_, rfl, p, _, 0, _, rfl, rfl, .inl (.inl hp), rfl, _, rfl, l, n, rfl, rfl, _, rfl, _, rfl, p, _, 1, _, rfl, rfl, .inl (.inl hp), rfl, n, h, rfl, rfl, l - n, n - h, 0, rfl, q⟩
theorem ok_join {f : Addr} {fd : FuncData} {k : Nat} (F : FnP K "join" "Ranges.join" s_Ranges_join f fd) (C_hull : Cal P w K mg base CX0 "hull" k ["one", "other"] spHull) : FnOk P w K mg base CX0 (k + 1) f fd ["self", "one", "other"] spJoin := by
  obtain ⟨f_hull, fd_hull, G_hull, b_hull, m_hull, k_hull⟩ := C_hull
  refine F.ok sc_Ranges_join (fun vs H Q E h => ?_) (fun cdv A outer s H vs Q E hr h => ?_)
  · obtain ⟨m, p, r, l, h, l', h', rfl, _⟩ := h
    rfl
  · obtain ⟨m, p, r, l, h, l', h', rfl, hp, hq, q⟩ := h
    refine ⟨_, PSs.nox (pss_one (ps_ret (pe_call G_hull (hr.mono (by omega)) (by rfl) m_hull k_hull b_hull .nil pass0 (pa_cons (pv 1) (pa_cons (pv 2) pa_nil))))), ?_⟩
    exact ⟨_, rfl, _, rfl, p, r, l, h, l', h', rfl, hp, hq, q⟩
theorem ok_consistent {f : Addr} {fd : FuncData} {k : Nat} (F : FnP K "consistent" "Ranges.consistent" s_Ranges_consistent f fd) (C_share_integer : Cal P w K mg base CX0 "share_integer" k ["one", "other"] spShI) : FnOk P w K mg base CX0 (k + 1) f fd ["self", "label", "question"] spCons := by
  obtain ⟨f_share_integer, fd_share_integer, G_share_integer, b_share_integer, m_share_integer, k_share_integer⟩ := C_share_integer
  refine F.ok sc_Ranges_consistent (fun vs H Q E h => ?_) (fun cdv A outer s H vs Q E hr h => ?_)
  · obtain ⟨m, p, r, l, h, lo, hi, rfl, _⟩ := h
    rfl
  · obtain ⟨m, p, r, l, h, lo, hi, rfl, hp, hq, le, q⟩ := h
    refine ⟨_, PSs.nox (pss_one (ps_ret (pe_call G_share_integer (hr.mono (by omega)) (by rfl) m_share_integer k_share_integer b_share_integer .nil pass0 (pa_cons (pv 1) (pa_cons (pv 2) pa_nil))))), ?_⟩
    refine ⟨_, rfl, _, rfl, p, r, l, h, lo, hi, rfl, hp, hq, ?_⟩
    have z := q H (Same.refl H)
    have e : decide (max l lo ≤ min h hi) = decide (lo ≤ hi ∧ max lo l ≤ min hi h) := decide_eq_decide.mpr (by omega)
    rw [e]
    exact z
theorem ok_matches {f : Addr} {fd : FuncData} {k : Nat} (F : FnP K "matches" "Ranges.matches" s_Ranges_matches f fd) : FnOk P w K mg base CX0 (k + 1) f fd ["self", "key", "question"] spMat := by
  refine F.ok sc_Ranges_matches (fun vs H Q E h => ?_) (fun cdv A outer s H vs Q E hr h => ?_)
  · obtain ⟨m, r, n, lo, hi, rfl, _⟩ := h
    rfl
  · obtain ⟨m, r, n, lo, hi, rfl, hp, q⟩ := h
    refine ⟨_, PSs.nox (pss_one (ps_ret (pe_chain op_le op_le (pe_ix ix_tup (pv 2) pe_int (fun _ _ => rfl)) (pv 1) (pe_ix ix_tup (pv 2) pe_int (fun _ _ => rfl))))), ?_⟩
    have z := q H (Same.refl H)
    refine ⟨_, rfl, r, _, 0, _, rfl, rfl, .inl (.inl hp), rfl, _, rfl, lo, n, rfl, rfl, _, rfl, ite2 (fun e => ?_) (fun e => ?_)⟩
    · have e1 := of_decide_eq_true e
      refine ⟨_, rfl, r, _, 1, _, rfl, rfl, .inl (.inl hp), rfl, n, hi, rfl, rfl, ?_⟩
      rw [show decide (lo ≤ n ∧ n ≤ hi) = decide (n ≤ hi) from decide_eq_decide.mpr ⟨fun y => y.2, fun y => ⟨e1, y⟩⟩] at z
      exact z
    · rw [show decide (lo ≤ n ∧ n ≤ hi) = false from decide_eq_false fun y => e (decide_eq_true y.1)] at z
      exact z
theorem ok_penalty {C f : Addr} {fd : FuncData} {k : Nat} (F : FnP K "penalty" "Ranges.penalty" s_Ranges_penalty f fd) (C_hull : Cal P w K mg base CX0 "hull" k ["one", "other"] spHull) (C_width_of : Cal P w K mg base CX0 "width_of" k ["span"] spWid) : FnOk P w K mg base CX0 (k + 1) f fd ["self", "label", "key"] (spPen C) := by
  obtain ⟨f_hull, fd_hull, G_hull, b_hull, m_hull, k_hull⟩ := C_hull
  obtain ⟨f_width_of, fd_width_of, G_width_of, b_width_of, m_width_of, k_width_of⟩ := C_width_of
  refine F.ok sc_Ranges_penalty (fun vs H Q E h => ?_) (fun cdv A outer s H vs Q E hr h => ?_)
  · obtain ⟨m, dx, p, n, l, h, rfl, _⟩ := h
    rfl
  · obtain ⟨m, dx, p, n, l, h, rfl, hm, hp, q⟩ := h
    refine ⟨_, PSs.nox (pss_one (ps_ret (pe_op op_sub (pe_call G_width_of (hr.mono (by omega)) (by rfl) m_width_of k_width_of b_width_of .nil pass0 (pa_cons (pe_call G_hull (hr.mono (by omega)) (by rfl) m_hull k_hull b_hull .nil pass0 (pa_cons (pv 1) (pa_cons (pe_tup (pa_cons (pv 2) (pa_cons (pv 2) pa_nil))) pa_nil))) pa_nil)) (pe_call G_width_of (hr.mono (by omega)) (by rfl) m_width_of k_width_of b_width_of .nil pass0 (pa_cons (pv 1) pa_nil))))), ?_⟩
    refine ⟨_, rfl, _, rfl, _, rfl, by show 2 ≤ sizeLine; decide, fun t nt => ?_⟩
    have s1 := same_upd (o := .tup [V.int n, V.int n]) nt
    refine ⟨p, t, l, h, n, n, rfl, s1 _ _ hp, upd_same, fun u H2 s2 hu => ⟨u, _, _, rfl, hu, _, rfl, p, l, h, rfl, (s1.trans s2) _ _ hp, _, _, rfl, rfl, ?_⟩⟩
    exact q H2 (s1.trans s2)
theorem ok_sides {f : Addr} {fd : FuncData} {k : Nat} (F : FnP K "sides" "Ranges.sides" s_Ranges_sides f fd) (C_halves_by : Cal P w K mg base CX0 "halves_by" k ["marks"] (spHB K)) : FnOk P w K mg base CX0 (k + 1) f fd ["self", "labels"] (spSides K) := by
  obtain ⟨f_halves_by, fd_halves_by, G_halves_by, b_halves_by, m_halves_by, k_halves_by⟩ := C_halves_by
  refine F.ok sc_Ranges_sides (fun vs H Q E h => ?_) (fun cdv A outer s H vs Q E hr h => ?_)
  · obtain ⟨m, l, ps, ns, rfl, _⟩ := h
    rfl
  · obtain ⟨m, l, ps, ns, rfl, ⟨hl, pp⟩, hn, hT, q⟩ := h
    refine ⟨_, PSs.nox (pss_one (ps_ret (pe_call G_halves_by (hr.mono (by omega)) (by rfl) m_halves_by k_halves_by b_halves_by .nil pass0 (pa_cons (pe_lc (own := [("low", 2), ("high", 3)]) rfl sc_Ranges_sides.nd (pi_list (pv 1)) (blkOk_by (N := n_Ranges_sides) (sc := defScope s_Ranges_sides) (by decide +kernel)) (fun _ _ _ _ _ => pg_tupK (n := 2) rfl (pgs_cons (pg_name (i := 2) sc_Ranges_sides.nd rfl (.inl rfl) (by first | exact .inl rfl | exact .inr rfl)) (pgs_cons (pg_name (i := 3) sc_Ranges_sides.nd rfl (.inl rfl) (by first | exact .inl rfl | exact .inr rfl)) (pgs_nil)))) (fun _ _ _ _ _ => pts_nil) (fun _ _ _ _ _ => (pe_op op_add (pv 2) (pv 3)))) pa_nil)))), ?_⟩
    have lp : ps.length = ns.length := Paired.length pp
    refine ⟨_, rfl, l, rfl, ⟨ps.map V.ref, hl⟩, fun D nD => ?_⟩
    refine lc_list (xs := ps.map V.ref) (fun t H' => Same H H' ∧ H' D = some (.lst (((ns.map fun n => n.1 + n.2).take t).map V.int))) ⟨same_upd nD, upd_same⟩ (fun t H' _ z => z.1.seq hl) ?_ ?_
    · rintro t v H4 hv ⟨s4, hD4⟩
      obtain ⟨p, lo, hi, rfl, e1, e2⟩ : ∃ (p : Addr) (lo hi : Int), v = .ref p ∧ ns[t]? = some (lo, hi) ∧ Tup2 H p lo hi := pair_at pp hv
      refine ⟨p, [.int lo, .int hi], rfl, .inl (.inl (s4 _ _ e2)), rfl, _, _, rfl, _, _, rfl, rfl, rfl, ?_⟩
      refine ⟨_, rfl, _, rfl, lo, hi, rfl, rfl, _, hD4, ?_, same_put s4 nD, ?_⟩
      · rw [List.length_map, List.length_take, List.length_map]
        exact small1000 (by omega)
      · rw [upd_same, List.take_add_one, List.getElem?_map, e1, List.map_append]
        rfl
    · rintro H4 ⟨s4, hD4⟩
      rw [List.length_map, List.take_of_length_le (by rw [List.length_map, lp]; exact Nat.le_refl _)] at hD4
      refine ⟨D, ns.map fun n => n.1 + n.2, rfl, .inl (.inl hD4), by rw [List.length_map]; omega, SL.Tabs.same hT s4, fun R H5 e5 t5 hR => ?_⟩
      refine q R H5 ((SL.ExtN.of_same s4).trans e5) t5 (.inl (.inl (.inl ?_)))
      rw [halvesL_eq] at hR
      exact hR
theorem ok_distance {f : Addr} {fd : FuncData} {k : Nat} (F : FnP K "distance" "Ranges.distance" s_Ranges_distance f fd) (m_abs : mg "abs" = none) : FnOk P w K mg base CX0 (k + 1) f fd ["self", "key", "point"] spDist := by
  refine F.ok sc_Ranges_distance (fun vs H Q E h => ?_) (fun cdv A outer s H vs Q E hr h => ?_)
  · obtain ⟨m, n, k, rfl, _⟩ := h
    rfl
  · obtain ⟨m, n, k, rfl, q⟩ := h
    refine ⟨_, PSs.nox (pss_one (ps_ret (pe_callB call_abs (by rfl) m_abs (by decide +kernel) (pa_cons (pe_op op_sub (pv 1) (pv 2)) pa_nil)))), ?_⟩
    exact ⟨_, rfl, _, rfl, n, k, rfl, rfl, n - k, rfl, q H (Same.refl H)⟩
theorem ok_bound {f : Addr} {fd : FuncData} {k : Nat} (F : FnP K "bound" "Ranges.bound" s_Ranges_bound f fd) (C_gap : Cal P w K mg base CX0 "gap" k ["span", "number"] spGap) : FnOk P w K mg base CX0 (k + 1) f fd ["self", "label", "point"] spBound := by
  obtain ⟨f_gap, fd_gap, G_gap, b_gap, m_gap, k_gap⟩ := C_gap
  refine F.ok sc_Ranges_bound (fun vs H Q E h => ?_) (fun cdv A outer s H vs Q E hr h => ?_)
  · obtain ⟨m, p, l, h, k, rfl, _⟩ := h
    rfl
  · obtain ⟨m, p, l, h, k, rfl, hp, le, q⟩ := h
    refine ⟨_, PSs.nox (pss_one (ps_ret (pe_call G_gap (hr.mono (by omega)) (by rfl) m_gap k_gap b_gap .nil pass0 (pa_cons (pv 1) (pa_cons (pv 2) pa_nil))))), ?_⟩
    refine ⟨_, rfl, _, rfl, p, l, h, k, rfl, hp, ?_⟩
    rw [show max (max (l - k) (k - h)) 0 = max 0 (max (l - k) (k - h)) by omega]
    exact q H (Same.refl H)
end
end K11
set_option Elab.async false
set_option linter.all false
set_option maxRecDepth 100000
set_option maxHeartbeats 2000000
namespace K11
open PySem PySem.Spec PyProof.Rows L2 CM LamX
section
variable {P : Program} {w : World} {K : PySem.W.Frag} {mg : Str → Option Value} {base : Heap}
/-! ### the head -/
def d_halves_by : He.DefD := ⟨("halves_by", none), "halves_by", "halves_by", defArgs s_halves_by, defBody s_halves_by, defScope s_halves_by, [], []⟩
def d_Ranges_own : He.DefD := ⟨("Ranges", some "own"), "own", "Ranges.own", defArgs s_Ranges_own, defBody s_Ranges_own, defScope s_Ranges_own, [], []⟩
def d_Ranges_join : He.DefD := ⟨("Ranges", some "join"), "join", "Ranges.join", defArgs s_Ranges_join, defBody s_Ranges_join, defScope s_Ranges_join, [], []⟩
def d_Ranges_consistent : He.DefD := ⟨("Ranges", some "consistent"), "consistent", "Ranges.consistent", defArgs s_Ranges_consistent, defBody s_Ranges_consistent, defScope s_Ranges_consistent, [], []⟩
def d_Ranges_matches : He.DefD := ⟨("Ranges", some "matches"), "matches", "Ranges.matches", defArgs s_Ranges_matches, defBody s_Ranges_matches, defScope s_Ranges_matches, [], []⟩
def d_Ranges_penalty : He.DefD := ⟨("Ranges", some "penalty"), "penalty", "Ranges.penalty", defArgs s_Ranges_penalty, defBody s_Ranges_penalty, defScope s_Ranges_penalty, [], []⟩
def d_Ranges_sides : He.DefD := ⟨("Ranges", some "sides"), "sides", "Ranges.sides", defArgs s_Ranges_sides, defBody s_Ranges_sides, defScope s_Ranges_sides, [], []⟩
def d_Ranges_distance : He.DefD := ⟨("Ranges", some "distance"), "distance", "Ranges.distance", defArgs s_Ranges_distance, defBody s_Ranges_distance, defScope s_Ranges_distance, [], []⟩
def d_Ranges_bound : He.DefD := ⟨("Ranges", some "bound"), "bound", "Ranges.bound", defArgs s_Ranges_bound, defBody s_Ranges_bound, defScope s_Ranges_bound, [], []⟩
def d_hull : He.DefD := ⟨("hull", none), "hull", "hull", defArgs s_hull, defBody s_hull, defScope s_hull, [], []⟩
def d_share_integer : He.DefD := ⟨("share_integer", none), "share_integer", "share_integer", defArgs s_share_integer, defBody s_share_integer, defScope s_share_integer, [], []⟩
def d_width_of : He.DefD := ⟨("width_of", none), "width_of", "width_of", defArgs s_width_of, defBody s_width_of, defScope s_width_of, [], []⟩
def d_gap : He.DefD := ⟨("gap", none), "gap", "gap", defArgs s_gap, defBody s_gap, defScope s_gap, [], []⟩
def d_law_well : He.DefD := ⟨("_law_well", none), "_law_well", "_law_well", defArgs s_law_well, defBody s_law_well, defScope s_law_well, [], []⟩
def d_law_draw : He.DefD := ⟨("_law_draw", none), "_law_draw", "_law_draw", defArgs s_law_draw, defBody s_law_draw, defScope s_law_draw, [], []⟩
def d_law_one : He.DefD := ⟨("_law_one", none), "_law_one", "_law_one", defArgs s_law_one, defBody s_law_one, defScope s_law_one, [], []⟩
def d_law_signed : He.DefD := ⟨("_law_signed", none), "_law_signed", "_law_signed", defArgs s_law_signed, defBody s_law_signed, defScope s_law_signed, [], []⟩
def d_law_span : He.DefD := ⟨("_law_span", none), "_law_span", "_law_span", defArgs s_law_span, defBody s_law_span, defScope s_law_span, [], []⟩
def d_law_has : He.DefD := ⟨("_law_has", none), "_law_has", "_law_has", defArgs s_law_has, defBody s_law_has, defScope s_law_has, [], []⟩
def d_law_shares : He.DefD := ⟨("_law_shares", none), "_law_shares", "_law_shares", defArgs s_law_shares, defBody s_law_shares, defScope s_law_shares, [], []⟩
def d_law_halves : He.DefD := ⟨("_law_halves", none), "_law_halves", "_law_halves", defArgs s_law_halves, defBody s_law_halves, defScope s_law_halves, [], []⟩
def d_law_far : He.DefD := ⟨("_law_far", none), "_law_far", "_law_far", defArgs s_law_far, defBody s_law_far, defScope s_law_far, [], []⟩
def d_law_right : He.DefD := ⟨("_law_right", none), "_law_right", "_law_right", defArgs s_law_right, defBody s_law_right, defScope s_law_right, [], []⟩
def d_law : He.DefD := ⟨("law", none), "law", "law", defArgs s_law, defBody s_law, defScope s_law, [], []⟩
def fn : List He.DefD := [d_halves_by, d_Ranges_own, d_Ranges_join, d_Ranges_consistent, d_Ranges_matches, d_Ranges_penalty, d_Ranges_sides, d_Ranges_distance, d_Ranges_bound, d_hull, d_share_integer, d_width_of, d_gap, d_law_well, d_law_draw, d_law_one, d_law_signed, d_law_span, d_law_has, d_law_shares, d_law_halves, d_law_far, d_law_right, d_law]
def fa : List He.Fa := [.glo "halves_by", .glo "hull", .glo "share_integer", .glo "width_of", .glo "gap", .glo "_law_well", .glo "_law_draw", .glo "_law_one", .glo "_law_signed", .glo "_law_span", .glo "_law_has", .glo "_law_shares", .glo "_law_halves", .glo "_law_far", .glo "_law_right", .glo "law", .glo "Ranges", .cls "Ranges", .meth "Ranges" "own", .meth "Ranges" "join", .meth "Ranges" "consistent", .meth "Ranges" "matches", .meth "Ranges" "penalty", .meth "Ranges" "sides", .meth "Ranges" "distance", .meth "Ranges" "bound", .free "int", .free "len", .free "range", .free "max", .free "min", .free "abs", .free "list", .free "enumerate", .free "sorted"]
def loose : List PySem.Str := ["GroveError", "NotGiven", "halves_by", "Kind", "Measured", "Ranges", "hull", "share_integer", "width_of", "gap", "_law_well", "_law_draw", "_law_one", "_law_signed", "_law_span", "_law_has", "_law_shares", "_law_halves", "_law_far", "_law_right"]
def ex (K : PySem.W.Frag) : Bool := mkoB K (He.ga K "Ranges") && true
abbrev R : PySem.W.OpenRow := PySem.W.OpenLaw.row PySem.Challenge.rw_kindgrove_k11_ranges
def tf : List He.Defn := [("halves_by", none)]
abbrev hk : PySem.W.Hook := He.hookX 6 fa fn [] tf ex
def ob (s : PySem.W.SharedT) : He.AlX := He.obsX 6 fa fn [] tf ex (HandSHeadRun.getT s)
theorem ob_eq (s : PySem.W.SharedT) : ob s = hk.obs s.abs := He.obsX_eq (HandSHeadRun.getT_eq s)
theorem run (w : World) : HandSHeadRun.RunEq R (PySem.W.view R.prog [25]) hk ob 6000 loose w := by
  intro os
  kernel_rfl
theorem glo {h : Heap} (X : K.In h) (G : h.Ns mainGlobals mg) (c : He.SaysD fa fn K) {x : Str} (hx : He.Fa.glo x ∈ fa) : mg x = some (.ref (He.ga K x)) := He.glo_ok X G (c.facts hx)
theorem fre {h : Heap} (X : K.In h) (G : h.Ns mainGlobals mg) (c : He.SaysD fa fn K) {x : Str} (hx : He.Fa.free x ∈ fa) : mg x = none := He.free_ok X G (c.facts hx)
theorem cal {h : Heap} (X : K.In h) (G : h.Ns mainGlobals mg) (c : He.SaysD fa fn K) {x qn : Str} {st : Stmt} {fd : FuncData} {k : Nat} {ps : List Str} {sp : Sp} (F : FnP K x qn st (He.ga K x) fd)
    (hx : He.Fa.glo x ∈ fa) (ok : FnOk P w K mg base CX0 k (He.ga K x) fd ps sp)
    (hb : ∀ (kV doc pm : Value) (an : Option Addr) (cdv ct : Value) (us : List Value), us.length = ps.length → bindArgs (PySem.W.fnOf x qn (defArgs st) (defBody st) (defScope st) .none kV doc pm an cdv ct) ⟨us, []⟩ = pure (ps.zip us)) : Cal P w K mg base CX0 x k ps sp :=
  ⟨He.ga K x, fd, ok, F.bindsN hb, glo X G c hx, F.kp⟩
theorem calm (c : He.SaysD fa fn K) {C m qn : Str} {st : Stmt} {fd : FuncData} {k : Nat} {ps : List Str} {sp : Sp} (F : FnP K m qn st (He.ma K (He.ga K C) m) fd)
    (hx : He.Fa.meth C m ∈ fa) (ok : FnOk P w K mg base CX0 k (He.ma K (He.ga K C) m) fd ps sp)
    (hb : ∀ (kV doc pm : Value) (an : Option Addr) (cdv ct : Value) (us : List Value), us.length = ps.length → bindArgs (PySem.W.fnOf m qn (defArgs st) (defBody st) (defScope st) .none kV doc pm an cdv ct) ⟨us, []⟩ = pure (ps.zip us)) : CalM P w K mg base CX0 (He.ga K C) m k ps sp :=
  ⟨He.ma K (He.ga K C) m, fd, ok, F.bindsN hb, He.meth_ok (c.facts hx)⟩
theorem tabs_of {H : Hp} (h : ∀ p ∈ tf.map (He.cT K), H p.2 = some (.tbl #[])) : Tabs (TT K) H := fun p hp => by
  rw [List.mem_singleton.mp hp]
  exact TabS.nil (h _ (List.mem_map.mpr ⟨("halves_by", none), List.mem_singleton.mpr rfl, rfl⟩))
theorem facts {h : Heap} {f : Addr} (X : K.In h) (G : h.Ns mainGlobals mg) (hfa : mg ("law" : Str) = some (.ref f)) (c : He.SaysD fa fn K) (m : ex K = true) :
    ∃ fd : FuncData, (∀ (s : Shared) (v : Value), BindsTo s fd ⟨[v], []⟩ [("_law_script", v)]) ∧ ∀ base : Heap, K.In base → base.Ns mainGlobals mg → (∀ p ∈ tf.map (He.cT K), TabB base mg p.1 p.2) → FnOk P w K mg base CX0 9 f fd ["_law_script"] (spLaw K) := by
  obtain ⟨fd_law, F_law⟩ : ∃ fd, FnP K "law" "law" s_law (He.ga K "law") fd := c.def_ 23 (d := d_law) rfl
  obtain ⟨fd_law_well, F_law_well⟩ : ∃ fd, FnP K "_law_well" "_law_well" s_law_well (He.ga K "_law_well") fd := c.def_ 13 (d := d_law_well) rfl
  obtain ⟨fd_law_draw, F_law_draw⟩ : ∃ fd, FnP K "_law_draw" "_law_draw" s_law_draw (He.ga K "_law_draw") fd := c.def_ 14 (d := d_law_draw) rfl
  obtain ⟨fd_law_one, F_law_one⟩ : ∃ fd, FnP K "_law_one" "_law_one" s_law_one (He.ga K "_law_one") fd := c.def_ 15 (d := d_law_one) rfl
  obtain ⟨fd_law_signed, F_law_signed⟩ : ∃ fd, FnP K "_law_signed" "_law_signed" s_law_signed (He.ga K "_law_signed") fd := c.def_ 16 (d := d_law_signed) rfl
  obtain ⟨fd_law_span, F_law_span⟩ : ∃ fd, FnP K "_law_span" "_law_span" s_law_span (He.ga K "_law_span") fd := c.def_ 17 (d := d_law_span) rfl
  obtain ⟨fd_law_has, F_law_has⟩ : ∃ fd, FnP K "_law_has" "_law_has" s_law_has (He.ga K "_law_has") fd := c.def_ 18 (d := d_law_has) rfl
  obtain ⟨fd_law_shares, F_law_shares⟩ : ∃ fd, FnP K "_law_shares" "_law_shares" s_law_shares (He.ga K "_law_shares") fd := c.def_ 19 (d := d_law_shares) rfl
  obtain ⟨fd_law_halves, F_law_halves⟩ : ∃ fd, FnP K "_law_halves" "_law_halves" s_law_halves (He.ga K "_law_halves") fd := c.def_ 20 (d := d_law_halves) rfl
  obtain ⟨fd_law_far, F_law_far⟩ : ∃ fd, FnP K "_law_far" "_law_far" s_law_far (He.ga K "_law_far") fd := c.def_ 21 (d := d_law_far) rfl
  obtain ⟨fd_law_right, F_law_right⟩ : ∃ fd, FnP K "_law_right" "_law_right" s_law_right (He.ga K "_law_right") fd := c.def_ 22 (d := d_law_right) rfl
  obtain ⟨fd_Ranges_own, F_Ranges_own⟩ : ∃ fd, FnP K "own" "Ranges.own" s_Ranges_own (He.ma K (He.ga K "Ranges") "own") fd := c.def_ 1 (d := d_Ranges_own) rfl
  obtain ⟨fd_Ranges_join, F_Ranges_join⟩ : ∃ fd, FnP K "join" "Ranges.join" s_Ranges_join (He.ma K (He.ga K "Ranges") "join") fd := c.def_ 2 (d := d_Ranges_join) rfl
  obtain ⟨fd_Ranges_consistent, F_Ranges_consistent⟩ : ∃ fd, FnP K "consistent" "Ranges.consistent" s_Ranges_consistent (He.ma K (He.ga K "Ranges") "consistent") fd := c.def_ 3 (d := d_Ranges_consistent) rfl
  obtain ⟨fd_Ranges_matches, F_Ranges_matches⟩ : ∃ fd, FnP K "matches" "Ranges.matches" s_Ranges_matches (He.ma K (He.ga K "Ranges") "matches") fd := c.def_ 4 (d := d_Ranges_matches) rfl
  obtain ⟨fd_Ranges_penalty, F_Ranges_penalty⟩ : ∃ fd, FnP K "penalty" "Ranges.penalty" s_Ranges_penalty (He.ma K (He.ga K "Ranges") "penalty") fd := c.def_ 5 (d := d_Ranges_penalty) rfl
  obtain ⟨fd_Ranges_sides, F_Ranges_sides⟩ : ∃ fd, FnP K "sides" "Ranges.sides" s_Ranges_sides (He.ma K (He.ga K "Ranges") "sides") fd := c.def_ 6 (d := d_Ranges_sides) rfl
  obtain ⟨fd_Ranges_distance, F_Ranges_distance⟩ : ∃ fd, FnP K "distance" "Ranges.distance" s_Ranges_distance (He.ma K (He.ga K "Ranges") "distance") fd := c.def_ 7 (d := d_Ranges_distance) rfl
  obtain ⟨fd_Ranges_bound, F_Ranges_bound⟩ : ∃ fd, FnP K "bound" "Ranges.bound" s_Ranges_bound (He.ma K (He.ga K "Ranges") "bound") fd := c.def_ 8 (d := d_Ranges_bound) rfl
  obtain ⟨fd_hull, F_hull⟩ : ∃ fd, FnP K "hull" "hull" s_hull (He.ga K "hull") fd := c.def_ 9 (d := d_hull) rfl
  obtain ⟨fd_share_integer, F_share_integer⟩ : ∃ fd, FnP K "share_integer" "share_integer" s_share_integer (He.ga K "share_integer") fd := c.def_ 10 (d := d_share_integer) rfl
  obtain ⟨fd_width_of, F_width_of⟩ : ∃ fd, FnP K "width_of" "width_of" s_width_of (He.ga K "width_of") fd := c.def_ 11 (d := d_width_of) rfl
  obtain ⟨fd_gap, F_gap⟩ : ∃ fd, FnP K "gap" "gap" s_gap (He.ga K "gap") fd := c.def_ 12 (d := d_gap) rfl
  obtain ⟨fd_halves_by, F_halves_by⟩ : ∃ fd, FnP K "halves_by" "halves_by" s_halves_by (He.ga K "halves_by") fd := c.def_ 0 (d := d_halves_by) rfl
  have e := hfa.symm.trans (glo X G c (x := "law") (List.mem_of_getElem? (i := 15) rfl))
  cases e
  have b := FunD.bindsA (ps := ["_law_script"]) F_law fun _ _ _ _ _ _ us hl => match us, hl with | [_], _ => rfl
  refine ⟨fd_law, fun s v => b s [v] rfl, fun base _ _ tb => ?_⟩
  have m_int := fre X G c (List.mem_of_getElem? (i := 26) rfl)
  have m_len := fre X G c (List.mem_of_getElem? (i := 27) rfl)
  have m_range := fre X G c (List.mem_of_getElem? (i := 28) rfl)
  have m_max := fre X G c (List.mem_of_getElem? (i := 29) rfl)
  have m_min := fre X G c (List.mem_of_getElem? (i := 30) rfl)
  have m_abs := fre X G c (List.mem_of_getElem? (i := 31) rfl)
  have m_list := fre X G c (List.mem_of_getElem? (i := 32) rfl)
  have m_enumerate := fre X G c (List.mem_of_getElem? (i := 33) rfl)
  have m_sorted := fre X G c (List.mem_of_getElem? (i := 34) rfl)
  have C1 : ∀ k, Cal P w K mg base CX0 "_law_well" (k + 1) ["_law_cell"] spWell := fun k => (cal X G c F_law_well (List.mem_of_getElem? (i := 5) rfl) ((ok_well (k := 0) F_law_well m_int).mono (by omega)) fun _ _ _ _ _ _ us hl => match us, hl with | [_], _ => rfl)
  have C2 : ∀ k, Cal P w K mg base CX0 "_law_draw" (k + 1) ["_law_well_here", "_law_many"] spDraw := fun k => (cal X G c F_law_draw (List.mem_of_getElem? (i := 6) rfl) ((ok_draw (k := 0) F_law_draw m_int).mono (by omega)) fun _ _ _ _ _ _ us hl => match us, hl with | [_, _], _ => rfl)
  have C3 : ∀ k, Cal P w K mg base CX0 "_law_one" (k + 2) ["_law_well_here", "_law_some"] (spOne K) := fun k => (cal X G c F_law_one (List.mem_of_getElem? (i := 7) rfl) (ok_one F_law_one (C2 k) m_len) fun _ _ _ _ _ _ us hl => match us, hl with | [_, _], _ => rfl)
  have C4 : ∀ k, Cal P w K mg base CX0 "_law_signed" (k + 2) ["_law_well_here", "_law_size"] spSigned := fun k => (cal X G c F_law_signed (List.mem_of_getElem? (i := 8) rfl) (ok_signed F_law_signed (C2 k)) fun _ _ _ _ _ _ us hl => match us, hl with | [_, _], _ => rfl)
  have C5 : ∀ k, Cal P w K mg base CX0 "_law_span" (k + 3) ["_law_well_here", "_law_size"] spSpan := fun k => (cal X G c F_law_span (List.mem_of_getElem? (i := 9) rfl) (ok_span F_law_span (C2 (k + 1)) (C4 k)) fun _ _ _ _ _ _ us hl => match us, hl with | [_, _], _ => rfl)
  have CH : Cal P w K mg base CX0 "hull" 1 ["one", "other"] spHull := (cal X G c F_hull (List.mem_of_getElem? (i := 1) rfl) (ok_hull F_hull m_max m_min) fun _ _ _ _ _ _ us hl => match us, hl with | [_, _], _ => rfl)
  have CS : Cal P w K mg base CX0 "share_integer" 1 ["one", "other"] spShI := (cal X G c F_share_integer (List.mem_of_getElem? (i := 2) rfl) (ok_shi F_share_integer m_max m_min) fun _ _ _ _ _ _ us hl => match us, hl with | [_, _], _ => rfl)
  have CW : Cal P w K mg base CX0 "width_of" 1 ["span"] spWid := (cal X G c F_width_of (List.mem_of_getElem? (i := 3) rfl) (ok_width F_width_of) fun _ _ _ _ _ _ us hl => match us, hl with | [_], _ => rfl)
  have CG : Cal P w K mg base CX0 "gap" 1 ["span", "number"] spGap := (cal X G c F_gap (List.mem_of_getElem? (i := 4) rfl) (ok_gap F_gap m_max) fun _ _ _ _ _ _ us hl => match us, hl with | [_, _], _ => rfl)
  have CB : Cal P w K mg base CX0 "halves_by" 1 ["marks"] (spHB K) := (cal X G c F_halves_by (List.mem_of_getElem? (i := 0) rfl) (ok_halvesby F_halves_by (tb _ (List.mem_map.mpr ⟨("halves_by", none), List.mem_singleton.mpr rfl, rfl⟩)) m_sorted m_list m_range m_len) fun _ _ _ _ _ _ us hl => match us, hl with | [_], _ => rfl)
  have D : Cal P w K mg base CX0 "_law_right" 8 ["_law_well_here"] (spRight K) := (cal X G c F_law_right (List.mem_of_getElem? (i := 14) rfl) (ok_right F_law_right m_range m_max m_min m_abs m_list m_len (mkoB_ok (He.ba m).1) (He.cls_ok (c.facts (List.mem_of_getElem? (i := 17) rfl))) (glo X G c (List.mem_of_getElem? (i := 16) rfl))
    (C2 6) (C3 5) (C4 5) (C5 4) (cal X G c F_law_has (List.mem_of_getElem? (i := 10) rfl) (ok_has F_law_has) fun _ _ _ _ _ _ us hl => match us, hl with | [_, _], _ => rfl) (cal X G c F_law_shares (List.mem_of_getElem? (i := 11) rfl) (ok_shares F_law_shares m_max m_min) fun _ _ _ _ _ _ us hl => match us, hl with | [_, _], _ => rfl) (cal X G c F_law_far (List.mem_of_getElem? (i := 13) rfl) (ok_far F_law_far m_max) fun _ _ _ _ _ _ us hl => match us, hl with | [_, _], _ => rfl) (cal X G c F_law_halves (List.mem_of_getElem? (i := 12) rfl) (ok_halves F_law_halves m_enumerate m_range m_len m_int) fun _ _ _ _ _ _ us hl => match us, hl with | [_], _ => rfl)
    (calm c F_Ranges_own (List.mem_of_getElem? (i := 18) rfl) (ok_own F_Ranges_own) fun _ _ _ _ _ _ us hl => match us, hl with | [_, _], _ => rfl) (calm c F_Ranges_join (List.mem_of_getElem? (i := 19) rfl) ((ok_join F_Ranges_join CH).mono (by omega)) fun _ _ _ _ _ _ us hl => match us, hl with | [_, _, _], _ => rfl) (calm c F_Ranges_consistent (List.mem_of_getElem? (i := 20) rfl) ((ok_consistent F_Ranges_consistent CS).mono (by omega)) fun _ _ _ _ _ _ us hl => match us, hl with | [_, _, _], _ => rfl) (calm c F_Ranges_matches (List.mem_of_getElem? (i := 21) rfl) (ok_matches F_Ranges_matches) fun _ _ _ _ _ _ us hl => match us, hl with | [_, _, _], _ => rfl)
    (calm c F_Ranges_penalty (List.mem_of_getElem? (i := 22) rfl) ((ok_penalty F_Ranges_penalty CH CW).mono (by omega)) fun _ _ _ _ _ _ us hl => match us, hl with | [_, _, _], _ => rfl) (calm c F_Ranges_sides (List.mem_of_getElem? (i := 23) rfl) ((ok_sides F_Ranges_sides CB).mono (by omega)) fun _ _ _ _ _ _ us hl => match us, hl with | [_, _], _ => rfl) (calm c F_Ranges_distance (List.mem_of_getElem? (i := 24) rfl) (ok_distance F_Ranges_distance m_abs) fun _ _ _ _ _ _ us hl => match us, hl with | [_, _, _], _ => rfl) (calm c F_Ranges_bound (List.mem_of_getElem? (i := 25) rfl) ((ok_bound F_Ranges_bound CG).mono (by omega)) fun _ _ _ _ _ _ us hl => match us, hl with | [_, _, _], _ => rfl)) fun _ _ _ _ _ _ us hl => match us, hl with | [_], _ => rfl)
  exact ok_law F_law (C1 7) D
end
end K11
open PySem PySem.W PySem.Calls PyProof.Rows
set_option maxRecDepth 100000 in
set_option maxHeartbeats 0 in
theorem PySem.Challenge.cw_kindgrove_k11_ranges_holds : PySem.Challenge.rw_kindgrove_k11_ranges.Holds := by
  w_on; o_law
  refine HandSHeadRun.head_any (r := OpenLaw.row PySem.Challenge.rw_kindgrove_k11_ranges) (q := view (OpenLaw.row PySem.Challenge.rw_kindgrove_k11_ranges).prog [25]) (H := K11.hk) (ob := K11.ob) (M := 6000) (loose := K11.loose) (d := HandSHeadRun.topDef (OpenLaw.row PySem.Challenge.rw_kindgrove_k11_ranges).prog 25) (kwd := []) K11.ob_eq
    (by kernel_rfl) (fun s => by kernel_rfl) K11.run (by kernel_rfl) (by kernel_rfl) (by kernel_rfl) (by rfl) (by first | assumption | decide +kernel) (by decide +kernel) ⟨rfl, rfl, rfl, rfl, rfl, by decide +kernel⟩ ?hw ?hc
  case hw => w_witness2
  case hc =>
    refine LamX.walk_ofTsE (l := PySem.Challenge.rw_kindgrove_k11_ranges) (n := 63) (k := 9) (x := "_law_script") (CX := fun _ => L2.CX0) rfl (by decide) (by kernel_rfl) ⟨rfl, by decide, by decide⟩ ?F (fun _ _ _ _ _ z => z)
    intro w mg fa h Y G hmg0
    obtain ⟨K, KX, c⟩ := Y
    have hmg : mg ("law" : PySem.Str) = some (.ref fa) := by
      have e : (HandSHeadRun.topDef (OpenLaw.row PySem.Challenge.rw_kindgrove_k11_ranges).prog 25).name = ("law" : PySem.Str) := by kernel_rfl
      rw [← e]
      exact hmg0
    obtain ⟨fd, hb, hF⟩ := K11.facts (P := (PySem.Challenge.rw_kindgrove_k11_ranges).prog) (w := w) KX G hmg c.t.d c.more
    refine ⟨K, KX, fd, K11.tf.map (He.cT K), K11.spLaw K, fun p hp => ?_, fun p hp => ?_, fun p hp => ?_, hb, fun H a ns hl _ hTb hS => ⟨a, ns, rfl, hS, hl, K11.tabs_of hTb, fun _ => rfl⟩, hF⟩
    all_goals obtain ⟨p0, hp0, rfl⟩ := List.mem_map.mp hp
    · exact c.empty p0 hp0
    · exact c.out p0 hp0
    · exact PySem.W.codeHd_of_K KX (c.hd p0 hp0)
