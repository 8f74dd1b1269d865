import PyProof.Rows.All
import Wide.All
import OpenK.AllK
import Wide.FinOn
import HandS.ForMost
import HandS.HeadHook4
import HandS.Zip
import HandS.Defaults
import HandS.Wide
import HandS.IsInst
import HandS.NoneIn
import HandS.Style
import HandS.DeepEq
import HandS.Evl
import PyProof.NeKinds
import HandS.TupMul
import PyProof.StrBlock2
import KE.SortKeyHeap
import KE.SortData
import HandS.Lambda
import HandS.EndTab
import HandS.HeadWalk
import HandS.SortKw
import HandS.DictComp
import HandS.Conv
import PyProof.MaxThree
import HandS.Text
import KE.LtData
import HandS.Walk
import HandS.Head0
import HandS.Head1
import HandS.Head2
import HandS.HeadEnd
import PySem.Challenge.RW_kindgrove_k14_beginnings
set_option Elab.async false
set_option linter.all false
set_option maxRecDepth 100000
set_option maxHeartbeats 4000000
namespace CM
open PySem PySem.Spec PyProof.Rows L2
/-- a def of the text, by the module's name of it -/
structure Cal (P : Program) (w : World) (K : PySem.W.Frag) (mg : Str → Option Value) (base : Heap) (CX : CXT) (x : Str) (k : Nat) (ps : List Str) (sp : Sp) : Prop where
  ex : ∃ (f : Addr) (fd : FuncData), FnOk P w K mg base CX k f fd ps sp ∧ Binds K fd ps [] ∧ mg x = some (.ref f) ∧ PySem.W.keepIn K (.ref f) = true
/-- a method of the class at C -/
structure CalM (P : Program) (w : World) (K : PySem.W.Frag) (mg : Str → Option Value) (base : Heap) (CX : CXT) (C : Addr) (x : Str) (k : Nat) (ps : List Str) (sp : Sp) : Prop where
  ex : ∃ (f : Addr) (fd : FuncData), FnOk P w K mg base CX k f fd ps sp ∧ Binds K fd ps [] ∧ Meth K C x f
/-- a value that is equal to itself at once -/
def okV (v : V) : Prop := flatB v = true ∨ ∃ a, v = .ref a
theorem okV_ref (a : Addr) : okV (.ref a) := .inr ⟨a, rfl⟩
theorem okV_int (i : Int) : okV (.int i) := .inl rfl
theorem eqAt_ok {A : Around} {s : Shared} {v : V} {u u' : Value} (h : okV v) (r : RelV v u) (r' : RelV v u') : SeqAt.EqAt A s u u' true := by
  rcases h with f | ⟨a, rfl⟩
  · exact eqAt_same r r' f
  · cases (show u = Value.ref a from r)
    cases (show u' = Value.ref a from r')
    exact SeqAt.EqAt.same _
theorem vals_eqAt {A : Around} {s : Shared} : ∀ {xs : List V} {us ws : List Value}, (∀ v ∈ xs, okV v) → Vals xs us → Vals xs ws → ∀ j (h1 : j < us.length) (h2 : j < ws.length), SeqAt.EqAt A s us[j] ws[j] true
  | [], _, _, _, r1, _, j, h1, _ => by
    cases r1
    exact absurd h1 (Nat.not_lt_zero j)
  | v :: xs, _, _, ok, .cons a1 b1, .cons a2 b2, 0, _, _ => eqAt_ok (ok v (List.mem_cons_self ..)) a1 a2
  | v :: xs, _, _, ok, .cons a1 b1, .cons a2 b2, j + 1, h1, h2 => vals_eqAt (fun z hz => ok z (List.mem_cons_of_mem _ hz)) b1 b2 j (Nat.lt_of_succ_lt_succ h1) (Nat.lt_of_succ_lt_succ h2)
/-! ### what stays -/
theorem same_upd {H : Hp} {p : Addr} {o : HO} (h : H p = none) : Same H (upd H p o) := fun b x e => by
  rw [upd_ne (ne_of_none e h)]
  exact e
theorem same_put {A H : Hp} {p : Addr} {o : HO} (s : Same A H) (h : A p = none) : Same A (upd H p o) := fun b u e => by
  rw [upd_ne (ne_of_none e h)]
  exact s b u e
/-- all but the thing at a stays -/
def Kp (a : Addr) (H H' : Hp) : Prop := ∀ b o, b ≠ a → H b = some o → H' b = some o
theorem Kp.trans {a : Addr} {H H1 H2 : Hp} (x : Kp a H H1) (y : Kp a H1 H2) : Kp a H H2 := fun b o n e => y b o n (x b o n e)
theorem Kp.same {a : Addr} {H H1 : Hp} (s : Same H H1) : Kp a H H1 := fun b o _ e => s b o e
theorem Kp.set {a : Addr} {H : Hp} {o : HO} : Kp a H (upd H a o) := fun b u n e => by
  rw [upd_ne n]
  exact e
theorem Kp.ne {a p : Addr} {H : Hp} {o : HO} (h : H a = some o) (hp : H p = none) : p ≠ a := fun z => by
  rw [z, h] at hp
  cases hp
theorem max_if (i j : Int) : (if j > i then j else i) = max i j := by
  rw [Int.max_def]
  split <;> split <;> omega
theorem min_if (i j : Int) : (if j < i then j else i) = min i j := by
  rw [Int.min_def]
  split <;> split <;> omega
def Tup2 (H : Hp) (p : Addr) (lo hi : Int) : Prop := H p = some (.tup [.int lo, .int hi])
section
variable {X : Cx}
theorem pe_gref {x : Str} {C : Addr} {pos : Pos} (hg : Gl X x) (hm : X.mg x = some (.ref C)) (hdb : (x == ("__debug__" : Str)) = false := by decide) : PE X (.Name x pos) (tC (.ref C)) := pe_glob (v := .ref C) hg hm rfl hdb
/-- a != b of two lists of the very same items -/
def rNeS (K : PySem.W.Frag) : R2 := fun x y H Q => ∃ (a b : Addr) (xs : List V), x = .ref a ∧ y = .ref b ∧ SqL K H a xs ∧ SqL K H b xs ∧ (∀ v ∈ xs, okV v) ∧ Q (.bl false) H
theorem op_neS (hu : X.A.units + 64 < cLine) : OpR X (compareOp .NotEq) (rNeS X.K) := by
  intro pns s σ H x y v u Q I rx ry h
  obtain ⟨a, b, xs, rfl, rfl, ha, hb, ok, q⟩ := h
  cases (show v = Value.ref a from rx)
  cases (show u = Value.ref b from ry)
  obtain ⟨us, r1, p1, _⟩ := I.list ha
  obtain ⟨ws, r2, p2, _⟩ := I.list hb
  have hz : us.toArray.size = ws.toArray.size := by
    rw [List.size_toArray, List.size_toArray, ← r1.length, ← r2.length]
  refine SeqAt.RcNeAt.lists (e := fun _ => true) p1.isList p2.isList hz (by omega) (fun j h1 h2 => ?_) X.prog X.w X.xe _ ?_
  · have z := vals_eqAt (A := X.A.in1) (s := s) ok r1 r2 j (by simpa using h1) (by simpa using h2)
    simpa using z
  · rw [show ((List.range us.toArray.size).all fun _ => true) = true from List.all_eq_true.mpr fun _ _ => rfl]
    exact ⟨.bl false, H, I, rfl, q⟩
/-- a == (), a a tuple -/
def rEqNil (K : PySem.W.Frag) : R2 := fun x y H Q => ∃ (a b : Addr) (xs : List V), x = .ref a ∧ y = .ref b ∧ SqT K H a xs ∧ SqT K H b [] ∧ Q (.bl xs.isEmpty) H
theorem op_eqNil (hu : X.A.units + 64 < cLine) : OpR X (compareOp .Eq) (rEqNil X.K) := by
  intro pns s σ H x y v u Q I rx ry h
  obtain ⟨a, b, xs, rfl, rfl, ha, hb, q⟩ := h
  cases (show v = Value.ref a from rx)
  cases (show u = Value.ref b from ry)
  obtain ⟨us, r1, p1, _⟩ := I.tuple ha
  obtain ⟨ws, r2, p2, _⟩ := I.tuple hb
  cases r2
  refine SeqAt.eq_tupleAt (e := fun _ => true) p1 p2 (by omega) (fun j h1 h2 => absurd h2 (by simp)) ?_
  have e : ((List.range (min us.toArray.size (#[] : Array Value).size)).all (fun _ => true) && us.toArray.size == (#[] : Array Value).size) = xs.isEmpty := by
    rw [List.size_toArray, ← r1.length]
    cases xs <;> simp
  exact ⟨.bl _, H, I, rfl, by rw [e]; exact q⟩
def rStrMul : R2 := fun x y H Q => ∃ (z : Str) (n : Int), x = .str z ∧ y = .int n ∧ MulOk z n ∧ Q (.str (Txt.mul z n)) H
theorem op_strmul : OpR X (binaryOp .Mult) rStrMul := by
  intro pns s σ H x y v u Q I rx ry h
  obtain ⟨z, n, rfl, rfl, ok, q⟩ := h
  obtain ⟨t1, rfl⟩ := rx
  obtain ⟨t2, rfl⟩ := ry
  exact SB.mul ok fun t' k => ⟨.str _, H, I.tok k, ⟨t', rfl⟩, q⟩
/-- a tuple taken many times -/
def rRepM (K : PySem.W.Frag) : R2 := fun x y H Q => ∃ l k xs, x = .ref l ∧ y = .int k ∧ SqT K H l xs ∧ xs ≠ [] ∧ 2 ≤ k ∧ (xs.length : Int) * k ≤ 1000000 ∧ ∀ p, H p = none → Q (.ref p) (upd H p (.tup (List.replicate k.toNat xs).flatten))
theorem op_repM : OpR X (binaryOp .Mult) (rRepM X.K) := by
  intro pns s σ H x y v u Q I rx ry h
  obtain ⟨l, k, xs, rfl, rfl, hT, hne, hlo, hz, q⟩ := h
  cases (show v = Value.ref l from rx)
  obtain ⟨t, rfl⟩ := ry
  obtain ⟨us, r, ⟨⟨cl, di, da, slo⟩, ho, hc, n, hd⟩, hs⟩ := I.tuple hT
  dsimp only at hc hd
  subst hc
  subst hd
  have hle : us.length = xs.length := r.length.symm
  have h0 : us.toArray.isEmpty = false := by
    cases us with
    | nil =>
      cases xs with
      | nil => exact absurd rfl hne
      | cons => cases hle
    | cons _ _ => rfl
  have hsz : us.toArray.size = xs.length := by rw [List.size_toArray, hle]
  have pos : 1 ≤ xs.length := by
    cases xs with
    | nil => exact absurd rfl hne
    | cons => rw [List.length_cons]; omega
  have hk : k ≤ 1000000 := by
    have a1 : (1 : Int) * k ≤ (xs.length : Int) * k := Int.mul_le_mul_of_nonneg_right (by omega) (by omega)
    omega
  have hm : ((us.toArray.size : Nat) : Int) * k ≤ 1000000 := by rw [hsz]; exact hz
  have hflat : (List.replicate k.toNat us).flatten.length ≤ sizeLine := by
    rw [lm_len_rep_flat, hle, sizeLine_eq]
    have a2 : ((k.toNat * xs.length : Nat) : Int) = (xs.length : Int) * k := by
      rw [Int.natCast_mul, Int.toNat_of_nonneg (by omega), Int.mul_comm]
    omega
  have c0 : (decide (k < -(2 ^ 63)) || decide (k ≥ 2 ^ 63)) = false := by
    simp only [Bool.or_eq_false_iff, decide_eq_false_iff_not]
    omega
  have c1 : (us.toArray.isEmpty || k == 1) = false := by
    rw [h0, Bool.false_or, beq_eq_false_iff_ne]
    omega
  have c2 : (decide (k ≤ 0) || us.toArray.isEmpty) = false := by
    rw [h0, Bool.or_false, decide_eq_false_iff_not]
    omega
  have c4 : Builtin.Tuple.tupleTooMany (((us.toArray.size : Nat) : Int) * k) = false := by
    unfold Builtin.Tuple.tupleTooMany
    rw [sizeLine_eq, decide_eq_false_iff_not]
    omega
  have big : (List.foldl (fun x1 x2 => x1 ++ x2) #[] (List.replicate k.toNat us.toArray)).size ≤ sizeLine := by
    rw [size_rep, List.size_toArray]
    exact hflat
  have inner := tuple_mulW l us.toArray n di slo k t c0 c1 c2 (by omega) c4 big
  have outer := int_rmul_tuple k t l us.toArray n di slo
  refine wpAny_binaryOp_repeat_ref (T := "tuple") (U := "int") (by decide) ⟨_, ho, rfl⟩ (fun s1 => typeIs_int s1 k t) noFill_tuple_mul F.fills_int_mul F.slot_int_rmul repeat_tuple F.slot_int_index.lookup ?_
  refine call_meets F.slot_int_rmul (typeIs_int s k t) F.entry_int_rmul (F.args_int_rmul_2 _ _) outer ⟨ho, rfl, ⟨_, ho, rfl⟩, ?_⟩
  refine call_meets F.slot_tuple_mul ⟨_, ho, rfl⟩ F.entry_tuple_mul (F.args_tuple_mul_2 _ _) inner ⟨ho, ?_⟩
  rw [size_rep]
  have hnew : H s.heap.objs.size = none := I.hok.fresh (Nat.le_refl _)
  have hfl2 : (List.replicate k.toNat xs).flatten.length ≤ sizeLine := by
    have z := (r.rep k.toNat).length
    rw [z]
    exact hflat
  exact ⟨.ref s.heap.objs.size, _, I.laid (t' := s.toks) (o := .tup (List.replicate k.toNat xs).flatten) (fun b ob z => Heap.get?_push_of_some _ z) (Nat.le_refl _) ⟨hfl2, _, r.rep k.toNat, IsTup.new _ _⟩, rfl, q _ hnew⟩
/-- a != b of two tuples of the very same items -/
def rNeST (K : PySem.W.Frag) : R2 := fun x y H Q => ∃ (a b : Addr) (xs : List V), x = .ref a ∧ y = .ref b ∧ SqT K H a xs ∧ SqT K H b xs ∧ (∀ v ∈ xs, okV v) ∧ Q (.bl false) H
theorem op_neST (hu : X.A.units + 64 < cLine) : OpR X (compareOp .NotEq) (rNeST X.K) := by
  intro pns s σ H x y v u Q I rx ry h
  obtain ⟨a, b, xs, rfl, rfl, ha, hb, ok, q⟩ := h
  cases (show v = Value.ref a from rx)
  cases (show u = Value.ref b from ry)
  obtain ⟨us, r1, p1, _⟩ := I.tuple ha
  obtain ⟨ws, r2, p2, _⟩ := I.tuple hb
  have hz : us.toArray.size = ws.toArray.size := by
    rw [List.size_toArray, List.size_toArray, ← r1.length, ← r2.length]
  refine SeqAt.RcNeAt.tuples (e := fun _ => true) p1 p2 (by omega) (fun j h1 h2 => ?_) X.prog X.w X.xe _ ?_
  · have z := vals_eqAt (A := X.A.in1) (s := s) ok r1 r2 j (by simpa using h1) (by simpa using h2)
    simpa using z
  · rw [show ((List.range (min us.toArray.size ws.toArray.size)).all fun _ => true) = true from List.all_eq_true.mpr fun _ _ => rfl, hz]
    exact ⟨.bl _, H, I, rfl, by simpa using q⟩
/-- a != b, both of them pairs of ints -/
def rNeI2 (K : PySem.W.Frag) : R2 := fun x y H Q => ∃ (a b : Addr) (i j k l : Int), x = .ref a ∧ y = .ref b ∧ SqT K H a [.int i, .int j] ∧ SqT K H b [.int k, .int l] ∧ Q (.bl (!decide (i = k ∧ j = l))) H
theorem op_neI2 (hu : X.A.units + 64 < cLine) : OpR X (compareOp .NotEq) (rNeI2 X.K) := by
  intro pns s σ H x y v u Q I rx ry h
  obtain ⟨a, b, i, j, k, l, rfl, rfl, ha, hb, q⟩ := h
  cases (show v = Value.ref a from rx)
  cases (show u = Value.ref b from ry)
  obtain ⟨us, r1, p1, _⟩ := I.tuple ha
  obtain ⟨ws, r2, p2, _⟩ := I.tuple hb
  obtain ⟨u1, u2, rfl, ⟨t1, rfl⟩, ⟨t2, rfl⟩⟩ := vals2 r1
  obtain ⟨w1, w2, rfl, ⟨t3, rfl⟩, ⟨t4, rfl⟩⟩ := vals2 r2
  refine SeqAt.RcNeAt.tuples (e := fun n => if n = 0 then i == k else j == l) p1 p2 (by omega) (fun n h1 h2 => ?_) X.prog X.w X.xe _ ?_
  · match n, h1, h2 with
    | 0, _, _ => exact SeqAt.EqAt.int_int i t1 k t3
    | 1, _, _ => exact SeqAt.EqAt.int_int j t2 l t4
    | n + 2, h1, _ => exact absurd h1 (by simp)
  · have e : (!((List.range (min [Value.int i t1, Value.int j t2].toArray.size [Value.int k t3, Value.int l t4].toArray.size)).all (fun n => if n = 0 then i == k else j == l) && [Value.int i t1, Value.int j t2].toArray.size == [Value.int k t3, Value.int l t4].toArray.size)) = !decide (i = k ∧ j = l) := by
      show (!((List.range 2).all (fun n => if n = 0 then i == k else j == l) && true)) = _
      rw [show List.range 2 = [0, 1] from rfl]
      by_cases e1 : i = k <;> by_cases e2 : j = l <;> simp [e1, e2]
    rw [e]
    exact ⟨.bl _, H, I, rfl, q⟩
/-- a == b of two lists of the very same items -/
def rEqS (K : PySem.W.Frag) : R2 := fun x y H Q => ∃ (a b : Addr) (xs : List V), x = .ref a ∧ y = .ref b ∧ SqL K H a xs ∧ SqL K H b xs ∧ (∀ v ∈ xs, okV v) ∧ Q (.bl true) H
theorem op_eqS (hu : X.A.units + 64 < cLine) : OpR X (compareOp .Eq) (rEqS X.K) := by
  intro pns s σ H x y v u Q I rx ry h
  obtain ⟨a, b, xs, rfl, rfl, ha, hb, ok, q⟩ := h
  cases (show v = Value.ref a from rx)
  cases (show u = Value.ref b from ry)
  obtain ⟨us, r1, p1, _⟩ := I.list ha
  obtain ⟨ws, r2, p2, _⟩ := I.list hb
  have hz : us.toArray.size = ws.toArray.size := by
    rw [List.size_toArray, List.size_toArray, ← r1.length, ← r2.length]
  refine SeqAt.eq_listAt (e := fun _ => true) p1.isList p2.isList hz (by omega) (fun j h1 h2 => ?_) ?_
  · have z := vals_eqAt (A := X.A.in1) (s := s) ok r1 r2 j (by simpa using h1) (by simpa using h2)
    simpa using z
  · rw [show ((List.range us.toArray.size).all fun _ => true) = true from List.all_eq_true.mpr fun _ _ => rfl]
    exact ⟨.bl true, H, I, rfl, q⟩
/-- a != [], a a list -/
def rNeNil (K : PySem.W.Frag) : R2 := fun x y H Q => ∃ (a b : Addr) (xs : List V), x = .ref a ∧ y = .ref b ∧ SqL K H a xs ∧ SqL K H b [] ∧ Q (.bl (!xs.isEmpty)) H
theorem op_neNil (hu : X.A.units + 64 < cLine) : OpR X (compareOp .NotEq) (rNeNil X.K) := by
  intro pns s σ H x y v u Q I rx ry h
  obtain ⟨a, b, xs, rfl, rfl, ha, hb, q⟩ := h
  cases (show v = Value.ref a from rx)
  cases (show u = Value.ref b from ry)
  obtain ⟨us, r1, p1, _⟩ := I.list ha
  obtain ⟨ws, r2, p2, _⟩ := I.list hb
  cases r2
  cases r1 with
  | nil => exact SeqAt.RcNeAt.lists (e := fun _ => true) p1.isList p2.isList rfl (by omega) (fun j h1 h2 => absurd h2 (by simp)) X.prog X.w X.xe _ ⟨.bl false, H, I, rfl, q⟩
  | cons a1 b1 => exact SeqAt.RcNeAt.lists_lengths p1.isList p2.isList (by simp) (by omega) X.prog X.w X.xe _ ⟨.bl true, H, I, rfl, q⟩
/-- how many unlike ints a list has -/
def unlike (ns : List Int) : Nat := (firstMet (fun i => ns.getD i 0) ns.length).length
def tUnlike (K : PySem.W.Frag) (ta : TE) : TE := fun σ H Q => ta σ H fun x G => ∃ (l : Addr) (ns : List Int), x = .ref l ∧ SqL K G l (ns.map V.int) ∧ ns.length ≤ 4000 ∧ Q (.int (unlike ns : Nat)) G
theorem pe_unlike {e : Expr} {ta : TE} {p1 p2 p3 p4 : Pos} (hg : Gl X "len") (hm : X.mg "len" = none) (hg2 : Gl X "set") (hm2 : X.mg "set" = none) (ha : PE X e ta) (hc : X.calm = true := by rfl)
    (na : starEach [e] X.env = (false, eval e X.env) :: starEach [] X.env := by rfl) : PE X (.Call (.Name "len" p1) [.Call (.Name "set" p2) [e] [] p3] [] p4) (tUnlike X.K ta) := by
  refine ⟨fun pns s σ H Q I h => Call_ (ld_blt I hg hm PySem.boot_len (callWith_builtin1 (args_cons (Call_ (ld_blt I hg2 hm2 boot_set (callWith_type1 (args_cons (thn (ha.run pns s σ H _ I h) ?_) na) na rfl))) rfl) rfl rfl))⟩
  rintro v t ⟨x, G, J, r, l, ns, rfl, hq, hl, q⟩
  cases r
  obtain ⟨us, rv, pl, _⟩ := J.list hq
  have hz : us.toArray.size = ns.length := by rw [List.size_toArray, ← rv.length, List.length_map]
  refine args_nil (call_set_list (J.ok.hd hc) pl.isList (ns := ns) (by simpa using RZ.intsAre_vals rv) (by rw [hz]; unfold scanBound; omega) fun h' tk hS hk => args_nil ?_)
  rw [hz] at hS
  obtain ⟨o, es, ep, tb, ho, hex, hd, _, _, _, hf, hn⟩ := hS
  have hle := firstMet_length_le (fun i => ns.getD i 0) ns.length
  have J2 : Inv X pns σ G { t with heap := h', toks := tk } := J.kept fun b o e => hk b o (Heap.lt_size e) e
  exact call_len_set ho hex hd hf (by rw [hn]; omega) ⟨.int (unlike ns : Nat), G, J2.tok _, ⟨_, by rw [hn]; rfl⟩, q⟩
/-- a class without an __init__ -/
structure MkO (K : PySem.W.Frag) (C : Addr) : Prop where
  makes : PySem.W.makesIn K C = true
  init : PySem.W.findIn K (.ref C) "__init__" = some (some (.builtin "object.__init__"))
  kp : PySem.W.keepIn K (.ref C) = true
  ob : PySem.W.mroIn K C (.type "object") = some true
def mkoB (K : PySem.W.Frag) (C : Addr) : Bool := PySem.W.makesIn K C && (He.eqO (PySem.W.findIn K (.ref C) "__init__") (some (some (.builtin "object.__init__"))) && (PySem.W.keepIn K (.ref C) && decide (PySem.W.mroIn K C (.type "object") = some true)))
theorem mkoB_ok {K : PySem.W.Frag} {C : Addr} (h : mkoB K C = true) : MkO K C := by
  obtain ⟨h1, h⟩ := He.ba h
  obtain ⟨h2, h⟩ := He.ba h
  obtain ⟨h3, h4⟩ := He.ba h
  exact ⟨h1, He.eqO_ok h2, h3, of_decide_eq_true h4⟩
theorem pe_make00 {C : Addr} {x : Str} {p pos : Pos} (M : MkO X.K C) (hg : Gl X x) (hm : X.mg x = some (.ref C)) (hdb : (x == ("__debug__" : Str)) = false := by decide) :
    PE X (.Call (.Name x p) [] [] pos) (fun σ H Q => ∀ x dx, H x = none → H dx = none → dx ≠ x → Q (.ref x) (upd (upd H dx (.own x)) x (.ins C dx []))) := by
  refine ⟨fun pns s σ H Q I h => wpAny_Call_Name_kw (ld_glob I hg hm ?_ hdb)⟩
  refine PySem.W.callWith_K0 I.kIn M.kp ?_
  show wpAny _ _ (call (.ref C) []) _ _ _
  have hq := h (s.heap.objs.size + 1) s.heap.objs.size (I.hok.fresh (Nat.le_succ _)) (I.hok.fresh (Nat.le_refl _)) (Nat.ne_of_lt (Nat.lt_succ_self _))
  have J := Inv.made (C := C) I
  refine wpAny_call (make_map0 I.kIn M.makes M.init (fun me => PySem.W.Looks.of_pure (PySem.W.oi_bind me)) ?_)
  have ho : ((s.heap.push PySem.W.emptyDict).push (PySem.W.instObj C s.heap.objs.size)).get? (s.heap.objs.size + 1) = some (PySem.W.instObj C s.heap.objs.size) := by
    have z := Heap.get?_push_size (s.heap.push PySem.W.emptyDict) (o := PySem.W.instObj C s.heap.objs.size) rfl
    rw [Heap.size_push] at z
    exact z
  have t1 : PySem.W.Looks (model X.prog X.w) ((s.heap.push PySem.W.emptyDict).push (PySem.W.instObj C s.heap.objs.size)) (typeOf (.ref (s.heap.objs.size + 1))) (.ref C) := (PySem.W.Looks.ld ho).andThen .now
  have t2 : PySem.W.Looks (model X.prog X.w) ((s.heap.push PySem.W.emptyDict).push (PySem.W.instObj C s.heap.objs.size)) (isInstance (.ref (s.heap.objs.size + 1)) (.type "object")) true := t1.andThen (PySem.W.looks_mroIn J.kIn M.ob)
  refine codeAny_call_builtin PySem.W.oi_plain PySem.W.entry_oi (PySem.W.check_slot PySem.W.oi_kind PySem.W.oi_split t2 (PySem.W.oi_args (.ref (s.heap.objs.size + 1))) ?_)
  rw [PySem.W.oi_run]
  exact wpAny_pure ⟨rfl, ⟨V.ref (s.heap.objs.size + 1), _, J, rfl, hq⟩⟩
/-! ### within a comprehension: the written part by its name -/
theorem ix_listK {K : PySem.W.Frag} (h : X.K = K := by rfl) : IxR X (rIxL K) := by
  subst h
  exact ix_list
theorem ix_tupK {K : PySem.W.Frag} (h : X.K = K := by rfl) : IxR X (rIxT K) := by
  subst h
  exact ix_tup
theorem pg_tupK {K : PySem.W.Frag} {n : Nat} {es : List Expr} {k : Nat} {t : TGs} (hc : X.calm = true) (h : PGs X es t) (hK : X.K = K := by rfl)
    (hn : (assignEach es X.env).length = n := by rfl) (hst : (assignEach es X.env).findIdx? (·.1) = none := by rfl) : PG X (.Tuple es k pos) (gTup K n t) := by
  subst hK
  exact pg_tup hc h hn hst
theorem op_ltTK {K : PySem.W.Frag} (hu : X.A.units < cLine) (h : X.K = K := by rfl) : OpR X (compareOp .Lt) (rLtT K) := by
  subst h
  exact op_ltT hu
end
end CM
set_option Elab.async false
set_option linter.all false
set_option maxRecDepth 100000
set_option maxHeartbeats 4000000
namespace SL
open PySem PySem.Spec PyProof.Rows L2 CM LamX
/-! ### a def whose code object is told -/
section
variable {P : Program} {w : World} {K : PySem.W.Frag} {mg : Str → Option Value} {base : Heap} {x qual : Str} {params : Arguments} {body : List Stmt} {scope : Scope} {dvs : List V} {kws : List (Str × V)} {fd : FuncData}
theorem okC {CX : CXT} {N ps : List Str} {k : Nat} {sp : Sp} {p : He.Defn} (F : FunD K x qual params body scope dvs kws (He.fAd K p) fd) (S : FnScope N ps scope) (len : ∀ vs H Q E, sp vs H Q E → vs.length = ps.length)
    (hbody : ∀ (A : Around) (outer : List Env) (s : Shared) (H : Hp) (vs : List V) (Q : VK) (E : XK), Room k (A.deeper (envOfC qual scope s.heap.objs.size (He.fAd K p) (.ref (He.codeOf K p)))) → sp vs H Q E →
      ∃ t, PSs (cxOf CX P w K mg base N qual scope (He.fAd K p) (.ref (He.codeOf K p)) A outer s H E) body t ∧ t { nx := fun _ H' => Q .non H', rt := Q } (start N vs) H) : FnOk P w K mg base CX (k + 1) (He.fAd K p) fd ps sp := by
  obtain ⟨oc, od, dV, kV, doc, pm, an, cdv, ct, osl, rfl, lk, hcd, _, _⟩ := F.ex
  obtain ⟨c, rfl⟩ := He.codeIn_ref hcd
  have e : He.codeOf K p = c := He.codeOf_eq lk rfl
  rw [e] at hbody
  exact fn_of lk hcd S len hbody
end
/-! ### a lambda of one parameter, called: its key alone is asked, the heap grows -/
/-- one parameter of its own, captured names, globals -/
structure Lam1 (sc scope : Scope) (x : Str) : Prop where
  kind : scope.kind = .function
  co : scope.isCoroutine = false
  gen : scope.isGenerator = false
  par : scope.names.lookup x = some .local
  nocell : ∀ y ∈ scope.names, y.2 ≠ .cell
  free : ∀ y ∈ scope.names, y.2 = .free → sc.names.lookup y.1 = some .cell ∨ sc.names.lookup y.1 = some .free
def lam1B (sc scope : Scope) (x : Str) : Bool :=
  decide (scope.kind = .function) && (!scope.isCoroutine && (!scope.isGenerator && (decide (scope.names.lookup x = some .local) && ((scope.names.all fun y => !decide (y.2 = .cell)) && (scope.names.all fun y => !decide (y.2 = .free) || decide (sc.names.lookup y.1 = some .cell) || decide (sc.names.lookup y.1 = some .free))))))
theorem lam1_by {sc scope : Scope} {x : Str} (h : lam1B sc scope x = true) : Lam1 sc scope x := by
  unfold lam1B at h
  simp only [Bool.and_eq_true, Bool.or_eq_true, Bool.not_eq_true', decide_eq_true_eq, decide_eq_false_iff_not, List.all_eq_true] at h
  obtain ⟨h1, h2, h3, h4, h5, h6⟩ := h
  refine ⟨h1, h2, h3, h4, h5, fun y hy e => ?_⟩
  rcases h6 y hy with (z | z) | z
  · exact absurd e z
  · exact .inl z
  · exact .inr z
theorem Lam1.has {X : Cx} {scope : Scope} {x : Str} (L : Lam1 X.env.scope scope x) (ok : X.Ok) : ∀ y ∈ scope.names, y.2 = .free → ∃ c, X.env.cells.lookup y.1 = some c := fun y hy e =>
  (L.free y hy e).elim (fun z => ok.has _ (.inl z)) fun z => ok.has _ (.inr z)
section
variable {prog : Program} {w : World} {A : Around} {s : Shared}
theorem lam_call {sc : Scope} {f c' : Addr} {x : Str} {params : Arguments} {body : Expr} {scope : Scope} {cl : List (Str × Addr)} {pm ctv v : Value} {qual : Str} {k : PyData} (L : Lam1 sc scope x)
    (hroom : A.depth < recursionLimit) (hf : s.heap.get? f = some (PySem.W.kla_obj "<lambda>" qual params body scope cl pm c' ctv)) (hcd : s.heap.CodeRec (.ref c') qual) (lim : s.heap.NoLimit)
    (hbind : bindArgs (PySem.W.kla_fn "<lambda>" qual params body scope cl pm (.ref c') ctv) ⟨[v], []⟩ = pure [(x, v)])
    (h : ∀ (D : Addr) (g : Heap) (tk : Nat), (∀ b o, s.heap.get? b = some o → g.get? b = some o) → g.Ns D (fun y => [(x, v)].reverse.lookup y) →
      wpAny (model prog w) (A.deeper (PySem.W.envX qual scope D f (.ref c') cl)) (eval body (PySem.W.envX qual scope D f (.ref c') cl)) (PySem.W.KeyPure k { s with heap := g, toks := tk }) (fun _ _ => False) { s with heap := g, toks := tk }) :
    wpAny (model prog w) A (call (.ref f) [v]) (PySem.W.KeyPure k s) (fun _ _ => False) s := by
  refine wpAny_call (PySem.W.kla_callFunE hroom hf rfl L.co L.gen rfl hcd ?_)
  rw [hbind]
  refine wpAny_pure (wpAny_newFunctionEnv L.nocell (fun y hy => ?_) (fun g hns hsb => ⟨lim.fresh _ hsb, ?_⟩) L.kind)
  · rw [List.mem_singleton.mp hy]
    exact L.par
  · have up : ∀ b o, s.heap.get? b = some o → g.get? b = some o := fun b o e => hsb.extBut b o (Nat.ne_of_lt (Heap.lt_size e)) (Heap.get?_push_of_some _ e)
    refine PySem.W.kla_codeExpr (wpAny_mono (h _ g _ up hns) (fun u t ⟨g2, tk, e, up2, rd⟩ => ?_) fun _ _ z => z.elim)
    exact ⟨g2, tk, e, fun b o q => up2 b o (up b o q), rd⟩
end
/-! ### sorted(e, key=lambda x: body) -/
/-- what stands at the captured names: cells of the running frame, their values -/
def CapAt (X : Cx) (σ : L2.St) (g : Heap) (cl : List (Str × Addr)) : Prop := ∀ (i : Nat) (y : Str) (v : V), X.N[i]? = some y → σ[i]? = some (some v) → (∃ c, cl.lookup y = some c) → ∃ c u, cl.lookup y = some c ∧ RelV v u ∧ g.IsCell c (some u)
theorem capAt_of {X : Cx} {pins : List (Addr × Obj)} {σ : L2.St} {H : Hp} {s : Shared} {scope : Scope} {x : Str} (I : Inv X pins σ H s) (L : Lam1 X.env.scope scope x) : CapAt X σ s.heap (cloFrom X.env.cells scope.names []) := by
  intro i y v hi hv ⟨c, hc⟩
  have hm : (y, NameKind.free) ∈ scope.names := by
    rcases cloFrom_mem (PySem.mem_of_lookup hc) with hm | ⟨h1, _⟩
    · cases hm
    · exact h1
  have hk := L.free _ hm rfl
  obtain ⟨m, _, hl⟩ := I.loc
  obtain ⟨u, r, q⟩ := hl i y v hi hv (hk.elim (fun z => .inr (.inl z)) fun z => .inr (.inr z))
  rcases q with ⟨z, _⟩ | ⟨_, c2, hc2, cell⟩
  · have z : X.env.scope.names.lookup y = some .local := z
    rcases hk with k | k <;> rw [show X.env.scope.names.lookup y = _ from k] at z <;> cases z
  · refine ⟨c, u, hc, r, ?_⟩
    have hc' : (y, c) ∈ cloFrom X.env.cells scope.names [] := PySem.mem_of_lookup hc
    rcases cloFrom_mem hc' with hm | ⟨_, e⟩
    · cases hm
    · rw [e, hc2]
      exact cell
/-- the key's reckoning: k, for the item v, wherever the heap has grown -/
def KeyRun (X : Cx) (σ : L2.St) (body : Expr) (scope : Scope) (x : Str) (s : Shared) (H : Hp) (v : Value) (k : PyData) : Prop :=
  ∀ (A : Around) (qual : Str) (f c' D : Addr) (cl : List (Str × Addr)) (g : Heap) (tk : Nat), X.A.units ≤ A.units → (∀ b o, s.heap.get? b = some o → g.get? b = some o) → CapAt X σ g cl → (∀ y, scope.names.lookup y = some .free → ∃ c, cl.lookup y = some c) →
    g.Ns D (fun y => [(x, v)].reverse.lookup y) → wpAny (model X.prog X.w) A (eval body (PySem.W.envX qual scope D f (.ref c') cl)) (PySem.W.KeyPure k { s with heap := g, toks := tk }) (fun _ _ => False) { s with heap := g, toks := tk }
/-- the reading -/
def tSortL {β : Type} (X : Cx) (T : List (Addr × Str)) (body : Expr) (scope : Scope) (x : Str) (ta : TE) : TE := fun σ H Q => ta σ H fun u H1 => Tabs T H1 ∧ ∃ (l : Addr) (bs : List β) (vf : β → V) (kf : β → PyData), u = .ref l ∧ SqL X.K H1 l (bs.map vf) ∧
  (∀ b ∈ bs, ∀ d ∈ bs, PySem.W.alike (kf b) (kf d) = true) ∧ PySem.W.Sortable (bs.map kf) ∧ (∀ b ∈ bs, (kf b).depth ≤ 60) ∧
  (∀ (pins : List (Addr × Obj)) (s : Shared) (H2 : Hp) (b : β) (v : Value), Inv X pins σ H2 s → ExtN H1 H2 → b ∈ bs → RelV (vf b) v → KeyRun X σ body scope x s H2 v (kf b)) ∧
  ∀ (D : Addr) (H2 : Hp), ExtN H1 H2 → (∀ o, H1 D = some o → ∃ ps, o = .tbl ps) → Tabs T H2 → H2 D = some (.lst ((bs.mergeSort (PySem.W.dataLe false kf)).map vf)) → Q (.ref D) H2
theorem each_of_vals {β : Type} {vf : β → V} : ∀ {bs : List β} {us : List Value}, Vals (bs.map vf) us → PySem.W.EachIs (fun v b => RelV (vf b) v) us bs
  | [], _, .nil => .nil
  | b :: bs, _, .cons r t => .cons r (each_of_vals t)
theorem vals_of_each {β : Type} {vf : β → V} : ∀ {bs : List β} {us : List Value}, PySem.W.EachIs (fun v b => RelV (vf b) v) us bs → Vals (bs.map vf) us
  | [], _, .nil => .nil
  | b :: bs, _, .cons r t => .cons r (vals_of_each t)
section
variable {X : Cx}
theorem pe_sortL {β : Type} {T : List (Addr × Str)} {c P : Addr} {a : Expr} {ta : TE} {params : Arguments} {body : Expr} {scope : Scope} {x : Str} {k : Nat} {lpos kpos p1 pos : Pos} (hr : Room k X.A) (TB : TabB X.base X.mg c P) (hcode : X.env.code = .ref c)
    (hmT : (P, X.env.qual ++ "<lambda>") ∈ T) (hu : ∀ p ∈ T, p.1 = P → p.2 = X.env.qual ++ "<lambda>") (L : Lam1 X.env.scope scope x) (hdef : defaultsOf params X.env = ([], []))
    (hbind : ∀ (q : Str) (cl : List (Str × Addr)) (pm cv ctv v : Value), bindArgs (PySem.W.kla_fn "<lambda>" q params body scope cl pm cv ctv) ⟨[v], []⟩ = pure [(x, v)])
    (hg : Gl X "sorted") (hm : X.mg "sorted" = none) (ha : PE X a ta)
    (he : backTo pos (starEach [a] X.env) = (false, eval a X.env) :: backTo pos (starEach [] X.env) := by rfl) (hpl : (backTo pos (starEach [a] X.env)).any (·.1) = false := by rfl) :
    PE X (.Call (.Name "sorted" p1) [a] [⟨some "key", .Lambda params body scope lpos, kpos⟩] pos) (tSortL (β := β) X T body scope x ta) := by
  refine ⟨fun pins s σ H Q I h => ?_⟩
  refine wpAny_Call_Name_kw (ld_blt I hg hm (show bootBuiltins "sorted" = some (.builtin "sorted") by decide +kernel) ?_ (by decide) (by decide))
  refine PyProof.Rows.callWith_kw ?_ he hpl (by rfl) (by rfl)
  rw [he]
  refine Calls.spliced_cons (thn (ha.run pins s σ H _ I h) fun u s1 ⟨v0, H1, I1, r1, hT, l, bs, vf, kf, e0, hS, al, so, dp, kr, q⟩ => Calls.spliced_nil ?_)
  subst e0
  obtain rfl : u = Value.ref l := r1
  show wpAny _ _ (evalAll ((do let v ← eval (.Lambda params body scope lpos) X.env; standAt pos; pure v) :: [])) _ _ s1
  refine wpAny_evalAll_cons (wpAny_bind (lam_make2 I1 TB hcode hmT hu hT hdef (L.has I1.ok) fun f c' pm ctv H2 s2 I2 eN T2 hf hfn hfr hco => wpAny_bind (wpAny_standAt (wpAny_pure (wpAny_evalAll_nil ?_)))))
  show wpAny _ _ (call (.builtin "sorted") [.ref l] [(Str.ofString "key", .ref f)]) _ _ s2
  have hS2 : SqL X.K H2 l (bs.map vf) := by
    rcases hS with hS | hS
    · rcases hS with hS | ⟨o, hS⟩
      · exact .inl (.inl (eN _ _ hS fun ps z => by cases z))
      · exact .inl (.inr ⟨o, eN _ _ hS fun ps z => by cases z⟩)
    · exact .inr hS
  obtain ⟨its, rv, hl, hz⟩ := I2.list hS2
  rw [List.length_map] at hz
  have hcr := (show ∃ (oc : Obj) (vs : Array Value) (t : Tok), s2.heap.get? c' = some oc ∧ oc.data = .fields vs ∧ vs[1]? = some (.str (X.env.qual ++ "<lambda>") t) from (I2.hok c' _ hco).1)
  have ea := each_of_vals rv
  refine PySem.W.sorted_key_data (b := false) (bs := bs) (R := fun v b => RelV (vf b) v) kf hl.isList ea ?_ so hz (fun b hb => ?_) (PyProof.Rows.ksk_s1 _ _) (fun _ => PyProof.Rows.ksk_l1 _ _) (fun _ => PyProof.Rows.ksk_t1 _ _)
    (fun v b rb hb g tk up => ?_) fun out cc g tk up hD hD2 hlen eo => ?_
  · intro d hd e he
    obtain ⟨b, hb, rfl⟩ := List.mem_map.mp hd
    obtain ⟨b2, hb2, rfl⟩ := List.mem_map.mp he
    exact al b hb b2 hb2
  · have z1 := hr.units
    have z2 := dp b hb
    omega
  · have I3 : Inv X pins σ H2 { s2 with heap := g, toks := tk } := I2.kept up
    obtain ⟨oc, vs, t, h1, h2, h3⟩ := hcr
    refine lam_call L (by show X.A.depth < _; exact hr.depth) (up _ _ hf) ⟨c', oc, vs, t, rfl, up _ _ h1, h2, h3⟩ I3.nolimit (hbind _ _ _ _ _ _) fun D g2 tk2 up2 hns => ?_
    refine kr pins _ H2 b v I3 eN hb rb _ _ _ _ _ _ g2 tk2 (by show X.A.units ≤ X.A.units + 1 + 1 + 3; omega) up2 ?_ (fun y hy => ?_) hns
    · intro i y w hi hw hc
      obtain ⟨c0, u0, a1, a2, o, a3, a4⟩ := capAt_of I3 L i y w hi hw hc
      exact ⟨c0, u0, a1, a2, o, up2 _ _ a3, a4⟩
    · exact mem_lookup (cloFrom_has (cells := X.env.cells) (acc := []) (PySem.mem_of_lookup hy))
  · have hlen2 : ((bs.mergeSort (PySem.W.dataLe false kf)).map vf).length ≤ sizeLine := by
      rw [List.length_map, List.length_mergeSort]
      exact hz
    have hnew : H2 (s2.heap.objs.size + 1) = none := I2.hok.fresh (Nat.le_succ _)
    have vo := vals_of_each eo
    refine ⟨.ref (s2.heap.objs.size + 1), upd H2 (s2.heap.objs.size + 1) (.lst ((bs.mergeSort (PySem.W.dataLe false kf)).map vf)), I2.laid (t' := tk) up (Nat.le_succ _) ⟨hlen2, out, cc, vo, hD2⟩, rfl, ?_⟩
    refine q _ _ (fun b o e n => ?_) (fun o e1 => ?_) (T2.ext fun b o e => ?_) upd_same
    · rw [upd_ne (ne_of_none (eN _ _ e n) hnew)]
      exact eN _ _ e n
    · cases o with
      | tbl ps => exact ⟨ps, rfl⟩
      | _ =>
        rw [eN _ _ e1 (fun ps z => by cases z)] at hnew
        cases hnew
    · rw [upd_ne (ne_of_none e hnew)]
      exact e
end
end SL
set_option Elab.async false
set_option linter.all false
set_option maxRecDepth 100000
set_option maxHeartbeats 4000000
namespace SL
open PySem PySem.Spec PyProof.Rows L2 CM LamX
/-! ### tables stay -/
theorem Tabs.kp {T : List (Addr × Str)} {a : Addr} {xs : List V} {H H' : Hp} (t : Tabs T H) (ha : H a = some (.lst xs)) (k : Kp a H H') : Tabs T H' := fun p hp => by
  obtain ⟨ps, h1, h2, h3⟩ := t p hp
  have ne : ∀ {b : Addr} {o : HO}, H b = some o → (∀ ys, o ≠ .lst ys) → b ≠ a := fun {b o} e n z => by
    rw [z, ha] at e
    exact n xs (Option.some.inj e).symm
  refine ⟨ps, k _ _ (ne h1 fun ys z => by cases z) h1, h2, fun pos cv hc => ?_⟩
  obtain ⟨c, e1, e2⟩ := h3 pos cv hc
  exact ⟨c, e1, k _ _ (ne e2 fun ys z => by unfold CodeO at z; cases z) e2⟩
theorem Tabs.same {T : List (Addr × Str)} {H H' : Hp} (t : Tabs T H) (s : Same H H') : Tabs T H' := t.ext s
/-- all but the thing at a and the tables stays -/
def KpN (a : Addr) (H H' : Hp) : Prop := ∀ b o, b ≠ a → (∀ ps, o ≠ .tbl ps) → H b = some o → H' b = some o
theorem KpN.of {a : Addr} {H H' : Hp} (k : Kp a H H') : KpN a H H' := fun b o n _ e => k b o n e
theorem KpN.ext {a : Addr} {H H' : Hp} (k : ExtN H H') : KpN a H H' := fun b o _ n e => k b o e n
theorem KpN.trans {a : Addr} {H H1 H2 : Hp} (x : KpN a H H1) (y : KpN a H1 H2) : KpN a H H2 := fun b o n m e => y b o n m (x b o n m e)
theorem ExtN.of_same {H H' : Hp} (s : Same H H') : ExtN H H' := fun b o e _ => s b o e
theorem ExtN.seqL {K : PySem.W.Frag} {H H' : Hp} {a : Addr} {xs : List V} (e : ExtN H H') (h : SqL K H a xs) : SqL K H' a xs := by
  rcases h with (h | ⟨o, h⟩) | h
  · exact .inl (.inl (e _ _ h fun ps z => by cases z))
  · exact .inl (.inr ⟨o, e _ _ h fun ps z => by cases z⟩)
  · exact .inr h
theorem one_tab {P P' : Addr} {q q' : Str} (e : q = q') : ∀ p ∈ [(P', q)], p.1 = P → p.2 = q' := fun p hp _ => by rw [List.mem_singleton.mp hp]; exact e
/-! ### the key (m[x], x) -/
/-- a leaf as data -/
inductive LeafD : V → PyData → Prop where
  | int (i : Int) : LeafD (.int i) (.int i)
  | str (z : Str) : LeafD (.str z) (.str z)
theorem LeafD.reads {w : V} {d : PyData} {u : Value} {h : Heap} (l : LeafD w d) (r : RelV w u) : Reads h u d [] := by
  cases l with
  | int i =>
    obtain ⟨t, rfl⟩ := r
    exact .int i t
  | str z =>
    obtain ⟨t, rfl⟩ := r
    exact .str z t
theorem ns_one {x : Str} {v : Value} : [(x, v)].reverse.lookup x = some v := by simp [List.lookup]
theorem kr_pair {X : Cx} {pins : List (Addr × Obj)} {σ : L2.St} {H : Hp} {s : Shared} {scope : Scope} {m x : Str} {i b : Nat} {l : Addr} {items : List V} {w : V} {d : PyData} {v : Value} {ctx : Nat} {p1 p2 p3 p4 p5 : Pos} (I : Inv X pins σ H s)
    (kind : scope.kind = .function) (hm : scope.names.lookup m = some .free) (hx : scope.names.lookup x = some .local) (hN : X.N[i]? = some m) (hs : σ[i]? = some (some (.ref l))) (hl : SqL X.K H l items) (hb : items[b]? = some w) (ld : LeafD w d) (rv : RelV (.int (b : Int)) v)
    (dm : (m == ("__debug__" : Str)) = false := by decide) (dx : (x == ("__debug__" : Str)) = false := by decide) (cm : (m == ("__classdict__" : Str)) = false := by decide) :
    KeyRun X σ (.Tuple [.Subscript (.Name m p1) (.Name x p2) p3, .Name x p4] ctx p5) scope x s H v (.tuple [d, .int (b : Int)]) := by
  intro A qual f c' D cl g tk hu up cap has hns
  obtain ⟨its, rvs, pl, hz⟩ := I.list hl
  obtain ⟨c0, u0, hc0, r0, cell⟩ := cap i m (.ref l) hN hs (has m hm)
  cases (show u0 = Value.ref l from r0)
  obtain ⟨t, rfl⟩ := rv
  obtain ⟨w', ew, rw'⟩ := rvs.get hb
  have hlen := (List.getElem?_eq_some_iff.mp hb).1
  have hl63 := line63
  refine wpAny_Tuple_spliced ?_
  show wpAny _ _ (spliced ((false, eval (.Subscript (.Name m p1) (.Name x p2) p3) (PySem.W.envX qual scope D f (.ref c') cl)) :: (false, eval (.Name x p4) (PySem.W.envX qual scope D f (.ref c') cl)) :: [])) _ _ _
  refine Calls.spliced_cons (Subscript_ (wpAny_Name (wpAny_loadName_free kind hm hc0 cell ?_ cm) dm))
  refine wpAny_Name (wpAny_loadName_local kind hx hns ns_one ?_) dx
  have pl2 : g.IsList l its.toArray := by
    obtain ⟨o, h1, h2, n, h3⟩ := pl.isList
    exact ⟨o, up _ _ h1, h2, n, h3⟩
  refine item_listR (x := w') pl2 (by omega) (by omega) (by rw [Int.toNat_natCast]; simpa using ew) ?_ (by rfl)
  refine Calls.spliced_cons (wpAny_Name (wpAny_loadName_local kind hx hns ns_one (Calls.spliced_nil ⟨by show 2 ≤ sizeLine; decide, ?_⟩)) dx)
  refine ⟨_, _, rfl, fun b o e => Heap.get?_push_of_some _ e, ?_⟩
  exact Reads.tuple (as := [] ++ ([] ++ [])) (Heap.get?_push_size _ rfl) rfl rfl (.cons (ld.reads rw') (.cons (.int _ t) .nil))
/-! ### {k: v for x in a list} -/
theorem dc_list {K : PySem.W.Frag} {a : Addr} {xs : List V} {g : TG} {tt : TT} {tk tv : TE} {vs : List Nat} {σ : L2.St} {H1 : Hp} {D : Addr} {Qd : Hp → Prop} (Pv : Nat → Hp → Prop) (h0 : Pv 0 (upd H1 D (.dK []))) (hl : ∀ i H, i ≤ xs.length → Pv i H → SqL K H a xs)
    (hs : ∀ i x H, xs[i]? = some x → Pv i H → g x (wipe σ vs) H fun σ2 H2 => wipe σ2 vs = wipe σ vs ∧ tt σ2 H2 fun b H3 =>
      if b = true then tk σ2 H3 fun y H4 => tv σ2 H4 fun z H5 => ∃ kvs k, y = kV k ∧ H5 D = some (.dK kvs) ∧ kvs.length < sizeLine ∧ Pv (i + 1) (upd H5 D (.dK (putK kvs k z))) else Pv (i + 1) H3) (hd : ∀ H, Pv xs.length H → Qd H) :
    ∃ W : Nat → Nat → Hp → Prop, (∃ m, W 0 m (upd H1 D (.dK []))) ∧ ∀ i m H, W i m H →
      ((Itl K a).stop i H ∧ Qd H) ∨ ((Itl K a).go i H ∧ ∃ Nx : Hp → Prop, (∀ H', Nx H' → ∃ m', m' < m ∧ W (i + 1) m' H') ∧ ∀ x H', (Itl K a).yld i H x H' → g x (wipe σ vs) H' fun σ2 H2 => wipe σ2 vs = wipe σ vs ∧ tt σ2 H2 fun b H3 =>
        if b = true then tk σ2 H3 fun y H4 => tv σ2 H4 fun z H5 => ∃ kvs k, y = kV k ∧ H5 D = some (.dK kvs) ∧ kvs.length < sizeLine ∧ Nx (upd H5 D (.dK (putK kvs k z))) else Nx H3) := by
  refine ⟨fun i m H => m + i = xs.length ∧ Pv i H, ⟨xs.length, rfl, h0⟩, fun i m H ⟨e, p⟩ => ?_⟩
  have q := hl i H (by omega) p
  cases m with
  | zero =>
    have e : i = xs.length := by omega
    subst e
    exact .inl ⟨⟨xs, q, Nat.le_refl _⟩, hd H p⟩
  | succ m =>
    have hlt : i < xs.length := by omega
    refine .inr ⟨⟨xs, xs[i], q, List.getElem?_eq_getElem hlt⟩, Pv (i + 1), fun H' p' => ⟨m, Nat.lt_succ_self m, by omega, p'⟩, fun x H' y => ?_⟩
    obtain ⟨rfl, y⟩ := y
    exact hs i x _ (y xs q) p
/-! ### the first half of a sorted row -/
theorem count_take {α : Type} [BEq α] {lt : α → α → Bool} (irr : ∀ a, lt a a = false) (asy : ∀ a b, lt a b = true → lt b a = false) : ∀ {xs : List α} {h : Nat} {x : α}, xs.Pairwise (fun a b => lt a b = true) → x ∈ xs → (x ∈ xs.take h ↔ (xs.filter fun y => lt y x).length < h)
  | [], _, _, _, hx => by cases hx
  | a :: as, 0, x, _, _ => by
    simp
  | a :: as, h + 1, x, hp, hx => by
    obtain ⟨h1, h2⟩ := List.pairwise_cons.mp hp
    rw [List.take_succ_cons, List.mem_cons, List.filter_cons]
    by_cases e : x = a
    · subst e
      have f : as.filter (fun y => lt y x) = [] := by
        rw [List.filter_eq_nil_iff]
        intro y hy z
        rw [asy _ _ (h1 y hy)] at z
        cases z
      rw [irr, f]
      simp
    · have hx2 : x ∈ as := (List.mem_cons.mp hx).resolve_left e
      have ih := count_take (h := h) irr asy h2 hx2
      rw [h1 x hx2]
      simp only [e, false_or, if_true, List.length_cons]
      rw [ih]
      omega
/-- the numbers below n that a strict order puts ahead of i -/
def aheadN (lt : Nat → Nat → Bool) (n i : Nat) : Nat := ((List.range n).filter fun k => lt k i).length
theorem in_half {lt : Nat → Nat → Bool} (irr : ∀ a, lt a a = false) (tr : ∀ a b c, lt a b = true → lt b c = true → lt a c = true) (tot : ∀ a b, a ≠ b → lt a b = true ∨ lt b a = true) {le : Nat → Nat → Bool} (hle : ∀ a b, le a b = !lt b a) {n h i : Nat} (hi : i < n) :
    i ∈ ((List.range n).mergeSort le).take h ↔ aheadN lt n i < h := by
  have asy : ∀ a b, lt a b = true → lt b a = false := fun a b e => by
    cases q : lt b a with
    | false => rfl
    | true =>
      have z := tr a b a e q
      rw [irr] at z
      cases z
  have perm := List.mergeSort_perm (List.range n) le
  have nd : ((List.range n).mergeSort le).Nodup := perm.nodup_iff.mpr List.nodup_range
  have pw := List.pairwise_mergeSort (le := le) (fun a b c h1 h2 => by
    rw [hle] at h1 h2 ⊢
    simp only [Bool.not_eq_true'] at h1 h2 ⊢
    cases q : lt c a with
    | false => rfl
    | true =>
      by_cases e1 : a = b
      · subst e1
        rw [q] at h2
        cases h2
      · rcases tot a b e1 with z | z
        · rw [tr c a b q z] at h2
          cases h2
        · rw [h1] at z
          cases z) (fun a b => by
    rw [hle, hle]
    cases q : lt b a with
    | false => rfl
    | true => rw [asy _ _ q]; rfl) (List.range n)
  have ps : ((List.range n).mergeSort le).Pairwise (fun a b => lt a b = true) := by
    have both := pw.and nd
    refine both.imp fun {a b} ⟨h1, h2⟩ => ?_
    rw [hle] at h1
    simp only [Bool.not_eq_true'] at h1
    rcases tot a b h2 with z | z
    · exact z
    · rw [h1] at z
      cases z
  have hm : i ∈ (List.range n).mergeSort le := perm.mem_iff.mpr (List.mem_range.mpr hi)
  rw [count_take irr asy ps hm]
  unfold aheadN
  rw [(perm.filter _).length_eq]
/-! ### max of three -/
theorem call_max3 {X : Cx} (hc : X.calm = true) : CallR X (.builtin "max") (fun xs H Q => ∃ i j k, xs = [.int i, .int j, .int k] ∧ Q (.int (max (max i j) k)) H) := by
  intro pins s σ H xs us Q I r h
  obtain ⟨i, j, k, rfl, q⟩ := h
  obtain ⟨u, us2, rfl, r2⟩ : ∃ u us2, us = u :: us2 ∧ Vals [.int j, .int k] us2 ∧ RelV (.int i) u := by
    cases r with
    | cons a b => exact ⟨_, _, rfl, b, a⟩
  obtain ⟨v, w, rfl, ⟨t2, rfl⟩, ⟨t3, rfl⟩⟩ := vals2 r2.1
  obtain ⟨t1, rfl⟩ := r2.2
  refine max_three_ints (I.ok.hd hc) fun h' tk kp => ⟨_, H, I.kept kp, ?_, q⟩
  by_cases h1 : j > i <;> by_cases h2 : k > j <;> by_cases h3 : k > i <;> simp only [h1, h2, h3, if_true, if_false]
  all_goals first
    | (rw [show max (max i j) k = k by omega]; exact ⟨_, rfl⟩)
    | (rw [show max (max i j) k = j by omega]; exact ⟨_, rfl⟩)
    | (rw [show max (max i j) k = i by omega]; exact ⟨_, rfl⟩)
/-! ### marks that are ints, in their order -/
def ltI (ns : List Int) (a b : Nat) : Bool := decide (ns.getD a 0 < ns.getD b 0 ∨ (ns.getD a 0 = ns.getD b 0 ∧ a < b))
theorem ltI_irr (ns : List Int) (a : Nat) : ltI ns a a = false := decide_eq_false (by omega)
theorem ltI_tr (ns : List Int) (a b c : Nat) (h1 : ltI ns a b = true) (h2 : ltI ns b c = true) : ltI ns a c = true := by
  have h1 := of_decide_eq_true h1
  have h2 := of_decide_eq_true h2
  exact decide_eq_true (by omega)
theorem ltI_tot (ns : List Int) (a b : Nat) (h : a ≠ b) : ltI ns a b = true ∨ ltI ns b a = true := by
  by_cases q : ns.getD a 0 < ns.getD b 0 ∨ (ns.getD a 0 = ns.getD b 0 ∧ a < b)
  · exact .inl (decide_eq_true q)
  · exact .inr (decide_eq_true (by omega))
def keyI (ns : List Int) (b : Nat) : PyData := .tuple [.int (ns.getD b 0), .int (b : Int)]
theorem leI (ns : List Int) : PySem.W.dataLe false (keyI ns) = fun a b => !ltI ns b a := by
  have z := PySem.W.dataLe_ii (β := Nat) (fun b => ns.getD b 0) (fun b => (b : Int))
  have z2 : PySem.W.dataLe false (keyI ns) = fun p q => decide (ns.getD p 0 < ns.getD q 0 ∨ (ns.getD p 0 = ns.getD q 0 ∧ (p : Int) ≤ (q : Int))) := z
  rw [z2]
  funext p q
  unfold ltI
  by_cases h : ns.getD q 0 < ns.getD p 0 ∨ (ns.getD q 0 = ns.getD p 0 ∧ q < p)
  · rw [decide_eq_true h, decide_eq_false (by omega)]
    rfl
  · rw [decide_eq_false h, decide_eq_true (by omega)]
    rfl
/-- what halves_by tells of marks in a strict order -/
def halvesL (lt : Nat → Nat → Bool) (n : Nat) : List V := (List.range n).map fun i => V.int (if aheadN lt n i < n / 2 then 0 else 1)
theorem cut_half {ord : List Nat} {ms : List V} {n : Nat} (lo : ord.length = n) (lm : ms.length = n) : cutV (ord.map fun b : Nat => V.int (b : Int)) none (some ((ms.length : Int) / 2)) = (ord.take (n / 2)).map fun b : Nat => V.int (b : Int) := by
  have l1 : (ord.map fun b : Nat => V.int (b : Int)).length = n := by rw [List.length_map, lo]
  have e : HT.sIx n n (some ((n : Int) / 2)) = n / 2 := by
    rw [show (n : Int) / 2 = ((n / 2 : Nat) : Int) by omega, HT.sIx_nat]
    omega
  have e0 : HT.sIx n 0 none = 0 := rfl
  unfold cutV
  rw [lm, l1, e, e0, List.drop_zero, Nat.sub_zero, List.map_take]
theorem halvesL_at {lt : Nat → Nat → Bool} {n j : Nat} (h : j < n) : (halvesL lt n)[j]? = some (V.int (if aheadN lt n j < n / 2 then 0 else 1)) := by
  unfold halvesL
  rw [List.getElem?_map, List.getElem?_range h]
  rfl
end SL
set_option Elab.async false
set_option linter.all false
set_option maxRecDepth 100000
set_option maxHeartbeats 4000000
namespace WD
open PySem PySem.Spec PyProof.Rows L2 CM LamX
/-! ### texts as lists of signs -/
abbrev cs (z : Str) : List Nat := z.cps.toList
theorem len_cs (z : Str) : z.length = (cs z).length := (Array.length_toList).symm
theorem str_ext {a b : Str} (h : cs a = cs b) : a = b := by
  cases a with
  | mk x => cases b with
    | mk y => exact congrArg Str.mk (Array.toList_inj.mp h)
theorem cs_mk (l : List Nat) : cs ⟨l.toArray⟩ = l := rfl
theorem cs_one (c : Nat) : cs ⟨#[c]⟩ = [c] := rfl
theorem cs_add (a b : Str) : cs (a ++ b) = cs a ++ cs b := by
  show (a.cps ++ b.cps).toList = _
  rw [Array.toList_append]
/-- how many signs two rows share at their beginning -/
def cpl : List Nat → List Nat → Nat
  | a :: as, b :: bs => if a = b then cpl as bs + 1 else 0
  | _, _ => 0
theorem cpl_of : ∀ {a b : List Nat} {k : Nat}, k ≤ a.length → k ≤ b.length → a.take k = b.take k → (∀ x y, a[k]? = some x → b[k]? = some y → x ≠ y) → cpl a b = k
  | [], b, k, h1, _, _, _ => by
    have : k = 0 := by simpa using h1
    subst this
    cases b <;> rfl
  | a :: as, [], k, _, h2, _, _ => by
    have : k = 0 := by simpa using h2
    subst this
    rfl
  | a :: as, b :: bs, 0, _, _, _, hd => by
    show (if a = b then cpl as bs + 1 else 0) = 0
    rw [if_neg (hd a b rfl rfl)]
  | a :: as, b :: bs, k + 1, h1, h2, ht, hd => by
    rw [List.take_succ_cons, List.take_succ_cons] at ht
    have e1 := (List.cons.inj ht).1
    have e2 := (List.cons.inj ht).2
    show (if a = b then cpl as bs + 1 else 0) = k + 1
    rw [if_pos e1, cpl_of (by simpa using h1) (by simpa using h2) e2 (fun x y hx hy => hd x y (by simpa using hx) (by simpa using hy))]
/-- the longest text with which both begin -/
def com (a b : Str) : Str := ⟨((cs a).take (cpl (cs a) (cs b))).toArray⟩
theorem com_of {a b : Str} {k : Nat} (h1 : k ≤ (cs a).length) (h2 : k ≤ (cs b).length) (ht : (cs a).take k = (cs b).take k) (hd : ∀ x y, (cs a)[k]? = some x → (cs b)[k]? = some y → x ≠ y) {z : Str} (hz : cs z = (cs a).take k) : z = com a b := by
  refine str_ext ?_
  show cs z = (cs a).take (cpl (cs a) (cs b))
  rw [hz, cpl_of h1 h2 ht hd]
/-- b at the beginning of a -/
def isPre (b a : Str) : Bool := decide ((cs a).take (cs b).length = cs b)
theorem starts (a b : Str) : Txt.startswith a b = isPre b a := by
  unfold Txt.startswith isPre
  have e : (Builtin.Str.subAt a b 0) = decide ((cs a).take (cs b).length = cs b) := by
    unfold Builtin.Str.subAt
    rw [Nat.zero_add, len_cs b]
    have e1 : (a.cps.extract 0 (cs b).length).toList = (cs a).take (cs b).length := by simp
    by_cases h : (cs a).take (cs b).length = cs b
    · have e2 : a.cps.extract 0 (cs b).length = b.cps := Array.toList_inj.mp (e1.trans h)
      rw [e2, decide_eq_true h]
      simp
    · rw [decide_eq_false h]
      refine beq_eq_false_iff_ne.mpr fun e2 => h ?_
      rw [← e1, e2]
  rw [e, Nat.zero_add]
  by_cases h : (cs a).take (cs b).length = cs b
  · have l := congrArg List.length h
    rw [List.length_take] at l
    rw [decide_eq_true h, len_cs a, len_cs b, decide_eq_true (by omega)]
    rfl
  · rw [decide_eq_false h, Bool.and_false]
theorem isPre_long {a b : Str} (h : (cs a).length < (cs b).length) : isPre b a = false := by
  refine decide_eq_false fun e => ?_
  have l := congrArg List.length e
  rw [List.length_take] at l
  omega
/-- the places below j at which the two differ -/
def diffs (a b : List Nat) (j : Nat) : List Nat := (List.range j).filter fun k => !decide (a.getD k 0 = b.getD k 0)
theorem diffs_succ (a b : List Nat) (j : Nat) : diffs a b (j + 1) = if (!decide (a.getD j 0 = b.getD j 0)) = true then diffs a b j ++ [j] else diffs a b j := by
  unfold diffs
  rw [List.range_succ, List.filter_append]
  by_cases h : (!decide (a.getD j 0 = b.getD j 0)) = true
  · rw [if_pos h, List.filter_cons_of_pos (p := fun k => !decide (a.getD k 0 = b.getD k 0)) h]
    rfl
  · rw [if_neg h, List.filter_cons_of_neg (p := fun k => !decide (a.getD k 0 = b.getD k 0)) h]
    exact List.append_nil _
theorem diffs_nil {a b : List Nat} : ∀ {j : Nat}, j ≤ a.length → j ≤ b.length → ((diffs a b j).isEmpty = true ↔ a.take j = b.take j)
  | 0, _, _ => by simp [diffs]
  | j + 1, h1, h2 => by
    have ih := diffs_nil (a := a) (b := b) (j := j) (by omega) (by omega)
    unfold diffs at ih ⊢
    rw [List.range_succ, List.filter_append, List.take_add_one, List.take_add_one, List.getElem?_eq_getElem (show j < a.length by omega), List.getElem?_eq_getElem (show j < b.length by omega)]
    have g1 : a.getD j 0 = a[j] := by rw [List.getD_eq_getElem?_getD, List.getElem?_eq_getElem (show j < a.length by omega)]; rfl
    have g2 : b.getD j 0 = b[j] := by rw [List.getD_eq_getElem?_getD, List.getElem?_eq_getElem (show j < b.length by omega)]; rfl
    by_cases e : a[j] = b[j]
    · have f : [j].filter (fun k => !decide (a.getD k 0 = b.getD k 0)) = [] := by
        rw [List.filter_cons_of_neg (by rw [g1, g2, e]; simp)]
        rfl
      rw [f, List.append_nil, ih, e]
      exact ⟨fun z => by rw [z], fun z => (List.append_inj' z rfl).1⟩
    · have f : [j].filter (fun k => !decide (a.getD k 0 = b.getD k 0)) = [j] := by
        rw [List.filter_cons_of_pos (by rw [g1, g2]; simp [e])]
        rfl
      rw [f]
      constructor
      · intro z
        simp at z
      · intro z
        have l : (a.take j).length = (b.take j).length := by rw [List.length_take, List.length_take]; omega
        have z2 := (List.append_inj z l).2
        exact absurd (by simpa using z2) e
theorem diffs_pre {a b : Str} (h : (cs b).length ≤ (cs a).length) : (diffs (cs a) (cs b) (cs b).length).isEmpty = isPre b a := by
  have z := diffs_nil (a := cs a) (b := cs b) h (Nat.le_refl _)
  rw [List.take_length] at z
  unfold isPre
  cases e : (diffs (cs a) (cs b) (cs b).length).isEmpty with
  | true => rw [decide_eq_true (z.mp e)]
  | false => rw [decide_eq_false fun q => by rw [z.mpr q] at e; cases e]
/-! ### marks that are texts, in their order -/
def ltS (zs : List Str) (a b : Nat) : Bool := decide (cs (zs.getD a Str.empty) < cs (zs.getD b Str.empty) ∨ (cs (zs.getD a Str.empty) = cs (zs.getD b Str.empty) ∧ a < b))
theorem ltS_irr (zs : List Str) (a : Nat) : ltS zs a a = false := decide_eq_false fun h => by
  rcases h with h | ⟨_, h⟩
  · exact absurd h (List.lt_irrefl _)
  · omega
theorem ltS_tr (zs : List Str) (a b c : Nat) (h1 : ltS zs a b = true) (h2 : ltS zs b c = true) : ltS zs a c = true := by
  have h1 := of_decide_eq_true h1
  have h2 := of_decide_eq_true h2
  refine decide_eq_true ?_
  rcases h1 with h1 | ⟨h1, l1⟩
  · rcases h2 with h2 | ⟨h2, l2⟩
    · exact .inl (List.lt_trans h1 h2)
    · exact .inl (by rw [← h2]; exact h1)
  · rcases h2 with h2 | ⟨h2, l2⟩
    · exact .inl (by rw [h1]; exact h2)
    · exact .inr ⟨h1.trans h2, by omega⟩
theorem ltS_tot (zs : List Str) (a b : Nat) (h : a ≠ b) : ltS zs a b = true ∨ ltS zs b a = true := by
  unfold ltS
  generalize cs (zs.getD a Str.empty) = x
  generalize cs (zs.getD b Str.empty) = y
  by_cases e : x = y
  · by_cases l : a < b
    · exact .inl (decide_eq_true (.inr ⟨e, l⟩))
    · exact .inr (decide_eq_true (.inr ⟨e.symm, by omega⟩))
  · by_cases l : x < y
    · exact .inl (decide_eq_true (.inl l))
    · exact .inr (decide_eq_true (.inl (by
        have l2 : y ≤ x := List.not_lt.mp l
        rcases List.le_iff_lt_or_eq.mp l2 with z | z
        · exact z
        · exact absurd z.symm e)))
def keyS (zs : List Str) (b : Nat) : PyData := .tuple [.str (zs.getD b Str.empty), .int (b : Int)]
theorem dataLt_si (x : Str) (i : Int) (y : Str) (j : Int) : PySem.W.dataLt (.tuple [.str x, .int i]) (.tuple [.str y, .int j]) = decide (cs x < cs y ∨ (cs x = cs y ∧ i < j)) := by
  rw [PySem.W.dataLt_pair (by simp [PySem.W.alike]) (by simp [PySem.W.alike]), PySem.W.dataLt_int, PySem.W.dataLt_str]
  by_cases e : x = y
  · subst e
    have n : ¬ cs x < cs x := List.lt_irrefl _
    rw [if_pos (show PyData.eqv (.str x) (.str x) = true by simp [PyData.eqv])]
    by_cases e2 : i = j
    · rw [if_pos (show PyData.eqv (.int i) (.int j) = true by simp [PyData.eqv, e2])]
      exact (decide_eq_false fun h => h.elim n fun z => by omega).symm
    · rw [if_neg (show ¬ PyData.eqv (.int i) (.int j) = true by simp [PyData.eqv, e2])]
      exact decide_eq_decide.mpr ⟨fun h => .inr ⟨rfl, h⟩, fun h => h.elim (fun z => absurd z n) fun z => z.2⟩
  · have e3 : ¬ cs x = cs y := fun z => e (str_ext z)
    rw [if_neg (show ¬ PyData.eqv (.str x) (.str y) = true by simp [PyData.eqv, e])]
    exact decide_eq_decide.mpr ⟨.inl, fun h => h.elim id fun z => absurd z.1 e3⟩
theorem leS (zs : List Str) : PySem.W.dataLe false (keyS zs) = fun a b => !ltS zs b a := by
  rw [PySem.W.dataLe_eq]
  funext a b
  show (!PySem.W.dataLt (keyS zs b) (keyS zs a)) = _
  unfold keyS ltS
  rw [dataLt_si]
  refine congrArg (fun q : Bool => !q) (decide_eq_decide.mpr ⟨fun h => ?_, fun h => ?_⟩)
  · exact h.imp id fun z => ⟨z.1, by omega⟩
  · exact h.imp id fun z => ⟨z.1, by omega⟩
/-! ### (text, int) < (text, int) -/
def rLtSI (K : PySem.W.Frag) : R2 := fun x y H Q => ∃ (a b : Addr) (z w : Str) (i j : Int), x = .ref a ∧ y = .ref b ∧ SqT K H a [.str z, .int i] ∧ SqT K H b [.str w, .int j] ∧ Q (.bl (decide (cs z < cs w ∨ (cs z = cs w ∧ i < j)))) H
theorem op_ltSI {X : Cx} {K : PySem.W.Frag} (hu : X.A.units + 64 < cLine) (hK : X.K = K := by rfl) : OpR X (compareOp .Lt) (rLtSI K) := by
  subst hK
  intro pins s σ H x y v u Q I rx ry h
  obtain ⟨a, b, z, w, i, j, rfl, rfl, ha, hb, q⟩ := h
  cases rx
  cases ry
  obtain ⟨us, r1, p1, _⟩ := I.tuple ha
  obtain ⟨ws, r2, p2, _⟩ := I.tuple hb
  have rd : ∀ {c : Addr} {us : List Value} {z : Str} {i : Int}, Vals [V.str z, V.int i] us → IsTup s.heap c us.toArray → Reads s.heap (.ref c) (.tuple [.str z, .int i]) [] := fun {c us z i} r p => by
    obtain ⟨u1, u2, rfl, ⟨t1, rfl⟩, ⟨t2, rfl⟩⟩ := vals2 r
    obtain ⟨o, h1, h2, n, h3⟩ := p
    exact Reads.tuple (as := [] ++ ([] ++ [])) h1 h2 h3 (.cons (.str z t1) (.cons (.int i t2) .nil))
  have e := PySem.W.rcLt_alike (.tuple [.str z, .int i]) (.tuple [.str w, .int j]) X.A s (.ref a) (.ref b) [] [] (rd r1 p1) (rd r2 p2) (by simp [PySem.W.alike, PySem.W.alikeAll]) (fun z => by cases z) (by
    have : min (PyData.tuple [.str z, .int i]).depth (PyData.tuple [.str w, .int j]).depth ≤ 64 := Nat.le_trans (Nat.min_le_left _ _) (by show 1 ≤ 64; decide)
    omega)
  rw [dataLt_si] at e
  exact e X.prog X.w X.xe _ ⟨.bl _, H, I, rfl, q⟩
/-! ### a == [] of a list -/
def rEqNilL (K : PySem.W.Frag) : R2 := fun x y H Q => ∃ (a b : Addr) (xs : List V), x = .ref a ∧ y = .ref b ∧ SqL K H a xs ∧ SqL K H b [] ∧ Q (.bl xs.isEmpty) H
theorem op_eqNilL {X : Cx} {K : PySem.W.Frag} (hu : X.A.units + 64 < cLine) (hK : X.K = K := by rfl) : OpR X (compareOp .Eq) (rEqNilL K) := by
  subst hK
  intro pns s σ H x y v u Q I rx ry h
  obtain ⟨a, b, xs, rfl, rfl, ha, hb, q⟩ := h
  cases (show v = Value.ref a from rx)
  cases (show u = Value.ref b from ry)
  obtain ⟨us, r1, p1, _⟩ := I.list ha
  obtain ⟨ws, r2, p2, _⟩ := I.list hb
  cases r2
  cases r1 with
  | nil =>
    exact SeqAt.eq_listAt (e := fun _ => true) p1.isList p2.isList rfl (by omega) (fun j h1 h2 => absurd h2 (by simp)) ⟨.bl true, H, I, rfl, q⟩
  | cons a1 b1 => exact SeqAt.eq_list_lengthsAt p1.isList p2.isList (by simp) (by omega) ⟨.bl false, H, I, rfl, q⟩
end WD
set_option Elab.async false
set_option linter.all false
set_option maxRecDepth 100000
set_option maxHeartbeats 2000000
namespace K14
open PySem PySem.Spec PyProof.Rows L2 CM LamX WD
def topS (i : Nat) : Stmt := PySem.Challenge.pw_kindgrove_k14_beginnings.main.body.getD i (.Pass ⟨0, 0, 0, 0⟩)
abbrev s_NotGiven___init : Stmt := inClass (topS 2) 0
abbrev n_NotGiven___init : List Str := ["self", "name"]
theorem sc_NotGiven___init : FnScope n_NotGiven___init ["self", "name"] (defScope s_NotGiven___init) := ⟨rfl, rfl, rfl, by decide +kernel, rfl, by decide +kernel, by decide +kernel⟩
abbrev s_halves_by : Stmt := topS 4
abbrev n_halves_by : List Str := ["marks", "order", "first", "at"]
theorem sc_halves_by : FnScope n_halves_by ["marks"] (defScope s_halves_by) := ⟨rfl, rfl, rfl, by decide +kernel, rfl, by decide +kernel, by decide +kernel⟩
abbrev s_Kind_own : Stmt := inClass (topS 6) 0
abbrev n_Kind_own : List Str := ["self", "key"]
theorem sc_Kind_own : FnScope n_Kind_own ["self", "key"] (defScope s_Kind_own) := ⟨rfl, rfl, rfl, by decide +kernel, rfl, by decide +kernel, by decide +kernel⟩
abbrev s_Kind_join : Stmt := inClass (topS 6) 1
abbrev n_Kind_join : List Str := ["self", "one", "other"]
theorem sc_Kind_join : FnScope n_Kind_join ["self", "one", "other"] (defScope s_Kind_join) := ⟨rfl, rfl, rfl, by decide +kernel, rfl, by decide +kernel, by decide +kernel⟩
abbrev s_Kind_consistent : Stmt := inClass (topS 6) 2
abbrev n_Kind_consistent : List Str := ["self", "label", "question"]
theorem sc_Kind_consistent : FnScope n_Kind_consistent ["self", "label", "question"] (defScope s_Kind_consistent) := ⟨rfl, rfl, rfl, by decide +kernel, rfl, by decide +kernel, by decide +kernel⟩
abbrev s_Kind_matches : Stmt := inClass (topS 6) 3
abbrev n_Kind_matches : List Str := ["self", "key", "question"]
theorem sc_Kind_matches : FnScope n_Kind_matches ["self", "key", "question"] (defScope s_Kind_matches) := ⟨rfl, rfl, rfl, by decide +kernel, rfl, by decide +kernel, by decide +kernel⟩
abbrev s_Kind_penalty : Stmt := inClass (topS 6) 4
abbrev n_Kind_penalty : List Str := ["self", "label", "key"]
theorem sc_Kind_penalty : FnScope n_Kind_penalty ["self", "label", "key"] (defScope s_Kind_penalty) := ⟨rfl, rfl, rfl, by decide +kernel, rfl, by decide +kernel, by decide +kernel⟩
abbrev s_Kind_sides : Stmt := inClass (topS 6) 5
abbrev n_Kind_sides : List Str := ["self", "labels", "half"]
theorem sc_Kind_sides : FnScope n_Kind_sides ["self", "labels"] (defScope s_Kind_sides) := ⟨rfl, rfl, rfl, by decide +kernel, rfl, by decide +kernel, by decide +kernel⟩
abbrev s_Stems_own : Stmt := inClass (topS 8) 0
abbrev n_Stems_own : List Str := ["self", "key"]
theorem sc_Stems_own : FnScope n_Stems_own ["self", "key"] (defScope s_Stems_own) := ⟨rfl, rfl, rfl, by decide +kernel, rfl, by decide +kernel, by decide +kernel⟩
abbrev s_Stems_join : Stmt := inClass (topS 8) 1
abbrev n_Stems_join : List Str := ["self", "one", "other"]
theorem sc_Stems_join : FnScope n_Stems_join ["self", "one", "other"] (defScope s_Stems_join) := ⟨rfl, rfl, rfl, by decide +kernel, rfl, by decide +kernel, by decide +kernel⟩
abbrev s_Stems_consistent : Stmt := inClass (topS 8) 2
abbrev n_Stems_consistent : List Str := ["self", "label", "question"]
theorem sc_Stems_consistent : FnScope n_Stems_consistent ["self", "label", "question"] (defScope s_Stems_consistent) := ⟨rfl, rfl, rfl, by decide +kernel, rfl, by decide +kernel, by decide +kernel⟩
abbrev s_Stems_matches : Stmt := inClass (topS 8) 3
abbrev n_Stems_matches : List Str := ["self", "key", "question"]
theorem sc_Stems_matches : FnScope n_Stems_matches ["self", "key", "question"] (defScope s_Stems_matches) := ⟨rfl, rfl, rfl, by decide +kernel, rfl, by decide +kernel, by decide +kernel⟩
abbrev s_Stems_penalty : Stmt := inClass (topS 8) 4
abbrev n_Stems_penalty : List Str := ["self", "label", "key"]
theorem sc_Stems_penalty : FnScope n_Stems_penalty ["self", "label", "key"] (defScope s_Stems_penalty) := ⟨rfl, rfl, rfl, by decide +kernel, rfl, by decide +kernel, by decide +kernel⟩
abbrev s_Stems_sides : Stmt := inClass (topS 8) 5
abbrev n_Stems_sides : List Str := ["self", "labels"]
theorem sc_Stems_sides : FnScope n_Stems_sides ["self", "labels"] (defScope s_Stems_sides) := ⟨rfl, rfl, rfl, by decide +kernel, rfl, by decide +kernel, by decide +kernel⟩
abbrev s_common_stem : Stmt := topS 9
abbrev n_common_stem : List Str := ["one", "other", "many", "longest"]
theorem sc_common_stem : FnScope n_common_stem ["one", "other"] (defScope s_common_stem) := ⟨rfl, rfl, rfl, by decide +kernel, rfl, by decide +kernel, by decide +kernel⟩
abbrev s_law_well : Stmt := topS 11
abbrev n_law_well : List Str := ["_law_cell"]
theorem sc_law_well : FnScope n_law_well ["_law_cell"] (defScope s_law_well) := ⟨rfl, rfl, rfl, by decide +kernel, rfl, by decide +kernel, by decide +kernel⟩
abbrev s_law_draw : Stmt := topS 12
abbrev n_law_draw : List Str := ["_law_well_here", "_law_many", "_law_digit", "_law_number", "_law_more"]
theorem sc_law_draw : FnScope n_law_draw ["_law_well_here", "_law_many"] (defScope s_law_draw) := ⟨rfl, rfl, rfl, by decide +kernel, rfl, by decide +kernel, by decide +kernel⟩
abbrev s_law_one : Stmt := topS 13
abbrev n_law_one : List Str := ["_law_well_here", "_law_some"]
theorem sc_law_one : FnScope n_law_one ["_law_well_here", "_law_some"] (defScope s_law_one) := ⟨rfl, rfl, rfl, by decide +kernel, rfl, by decide +kernel, by decide +kernel⟩
abbrev s_law_word : Stmt := topS 14
abbrev n_law_word : List Str := ["_law_well_here", "_law_signs", "_law_k"]
theorem sc_law_word : FnScope n_law_word ["_law_well_here", "_law_signs"] (defScope s_law_word) := ⟨rfl, rfl, rfl, by decide +kernel, rfl, by decide +kernel, by decide +kernel⟩
abbrev s_law_begins : Stmt := topS 15
abbrev n_law_begins : List Str := ["_law_one_here", "_law_two", "_law_k"]
theorem sc_law_begins : FnScope n_law_begins ["_law_one_here", "_law_two"] (defScope s_law_begins) := ⟨rfl, rfl, rfl, by decide +kernel, rfl, by decide +kernel, by decide +kernel⟩
abbrev s_law_shared : Stmt := topS 16
abbrev n_law_shared : List Str := ["_law_one_here", "_law_two", "_law_found", "_law_k"]
theorem sc_law_shared : FnScope n_law_shared ["_law_one_here", "_law_two"] (defScope s_law_shared) := ⟨rfl, rfl, rfl, by decide +kernel, rfl, by decide +kernel, by decide +kernel⟩
abbrev s_law_halves : Stmt := topS 17
abbrev n_law_halves : List Str := ["_law_words", "_law_found", "_law_at", "_law_word_here", "_law_ahead", "_law_k"]
theorem sc_law_halves : FnScope n_law_halves ["_law_words"] (defScope s_law_halves) := ⟨rfl, rfl, rfl, by decide +kernel, rfl, by decide +kernel, by decide +kernel⟩
abbrev s_law_right : Stmt := topS 18
abbrev n_law_right : List Str := ["_law_well_here", "_law_made", "_law_signs", "_law_turn", "_law_one_here", "_law_two", "_law_three", "_law_words", "_law_k"]
theorem sc_law_right : FnScope n_law_right ["_law_well_here"] (defScope s_law_right) := ⟨rfl, rfl, rfl, by decide +kernel, rfl, by decide +kernel, by decide +kernel⟩
abbrev s_law : Stmt := topS 19
abbrev n_law : List Str := ["_law_script", "_law_cell"]
theorem sc_law : FnScope n_law ["_law_script"] (defScope s_law) := ⟨rfl, rfl, rfl, by decide +kernel, rfl, by decide +kernel, by decide +kernel⟩
abbrev FnP (K : PySem.W.Frag) (x q : Str) (st : Stmt) (f : Addr) (fd : FuncData) : Prop := FunD K x q (defArgs st) (defBody st) (defScope st) [] [] f fd
section
variable {P : Program} {w : World} {K : PySem.W.Frag} {mg : Str → Option Value} {base : Heap}
/-- a number of draws to be divided by -/
structure Sz (m : Int) : Prop where
  lt : m.natAbs.log2 < 9000
theorem Sz.of {m : Int} {k : Nat} (h : m.natAbs < 2 ^ k) (hk : k ≤ 9000) : Sz m := by
  refine ⟨?_⟩
  cases k with
  | zero =>
    have : m.natAbs = 0 := by omega
    rw [this]
    decide
  | succ k => exact Nat.lt_of_lt_of_le (PySem.Flt.log2_lt_of (Nat.succ_pos k) h) hk
def spWell : Sp := fun vs H Q _ => ∃ i : Int, vs = [.int i] ∧ ∀ p, H p = none → Q (.ref p) (upd H p (.lst [.int i, .int 0]))
def spDraw : Sp := fun vs H Q _ => ∃ (a : Addr) (x c m : Int), vs = [.ref a, .int m] ∧ H a = some (.lst [.int x, .int c]) ∧ 0 < m ∧ Sz m ∧
  ∀ r x' c' : Int, 0 ≤ r → r < m → Q (.int r) (upd H a (.lst [.int x', .int c']))
theorem ok_well {f : Addr} {fd : FuncData} {k : Nat} (F : FnP K "_law_well" "_law_well" s_law_well f fd) (m_int : mg "int" = none) : FnOk P w K mg base CX0 (k + 1) f fd ["_law_cell"] spWell := by
  refine F.ok sc_law_well (fun vs H Q E h => ?_) (fun cdv A outer s H vs Q E hr h => ?_)
  · obtain ⟨i, rfl, _⟩ := h
    rfl
  · obtain ⟨i, rfl, q⟩ := h
    refine ⟨_, pss_one (ps_ret (pe_lst (pa_cons (pe_callTy call_int1 (by rfl) m_int boot_int (pa_cons (pv 0) pa_nil)) (pa_cons pe_int pa_nil)))), ?_⟩
    exact ⟨_, rfl, .inl ⟨i, rfl, ⟨by show 2 ≤ sizeLine; decide, fun p hp => q p hp⟩⟩⟩
theorem ok_draw {f : Addr} {fd : FuncData} {k : Nat} (F : FnP K "_law_draw" "_law_draw" s_law_draw f fd) (m_int : mg "int" = none) : FnOk P w K mg base CX0 (k + 1) f fd ["_law_well_here", "_law_many"] spDraw := by
  refine F.ok sc_law_draw (fun vs H Q E h => ?_) (fun cdv A outer s H vs Q E hr h => ?_)
  · obtain ⟨a, x, c, m, rfl, _⟩ := h
    rfl
  · obtain ⟨a, x, c, m, rfl, ha, m0, m1, q⟩ := h
    refine ⟨_, pss_cons (ps_if (pt_cmpR op_ge (pe_ix ix_list (pv 0) pe_int (fun _ _ => rfl)) (pe_op op_pow pe_int pe_int) (nomark _)) (pss_cons (ps_set (i := 2) sc_law_draw.nd rfl (.inl rfl) (pe_op op_mod (pe_callTy call_int1 (by rfl) m_int boot_int (pa_cons (pe_ix ix_list (pv 0) pe_int (fun _ _ => rfl)) pa_nil)) (pv 1)))
      (pss_cons (ps_asg (pe_op op_fdivW (pe_ix ix_list (pv 0) pe_int (fun _ _ => rfl)) (pv 1)) (pg_sub (pv 0) pe_int set_list))
      (pss_one (ps_ret (pv 2))))) (pss_nil))
    (pss_cons (ps_asg (pe_op op_add (pe_ix ix_list (pv 0) pe_int (fun _ _ => rfl)) pe_int) (pg_sub (pv 0) pe_int set_list))
    (pss_cons (ps_set (i := 3) sc_law_draw.nd rfl (.inl rfl) (pe_op op_mod (pe_callTy call_int1 (by rfl) m_int boot_int (pa_cons (pe_op op_mul (pe_callTy call_int1 (by rfl) m_int boot_int (pa_cons (pe_op op_add (pe_op op_add (pe_op op_mod (pe_callTy call_int1 (by rfl) m_int boot_int (pa_cons (pe_ix ix_list (pv 0) pe_int (fun _ _ => rfl)) pa_nil)) pe_int) (pe_op op_mul pe_int (pe_ix ix_list (pv 0) pe_int (fun _ _ => rfl)))) pe_int) pa_nil)) pe_int) pa_nil)) pe_int))
    (pss_cons (ps_set (i := 4) sc_law_draw.nd rfl (.inl rfl) (pe_op op_mod (pe_callTy call_int1 (by rfl) m_int boot_int (pa_cons (pe_op op_fdivW (pe_ix ix_list (pv 0) pe_int (fun _ _ => rfl)) pe_int) pa_nil)) pe_int))
    (pss_cons (ps_set (i := 3) sc_law_draw.nd rfl (.inl rfl) (pe_op op_mod (pe_callTy call_int1 (by rfl) m_int boot_int (pa_cons (pe_op op_mul (pv 3) (pe_op op_add (pe_op op_add (pe_op op_fdiv (pv 3) pe_int) pe_int) (pv 4))) pa_nil)) pe_int))
    (pss_one (ps_ret (pe_op op_mod (pe_callTy call_int1 (by rfl) m_int boot_int (pa_cons (pe_op op_fdiv (pe_op op_mod (pe_callTy call_int1 (by rfl) m_int boot_int (pa_cons (pe_op op_mul (pv 3) (pe_op op_add (pe_op op_fdiv (pv 3) pe_int) pe_int)) pa_nil)) pe_int) pe_int) pa_nil)) (pv 1)))))))), ?_⟩
    have hA : SqL K H a [.int x, .int c] := .inl (.inl ha)
    -- if well[0] >= 10 ** 18
    refine ⟨_, rfl, a, _, 0, _, rfl, rfl, hA, rfl, ?_⟩
    refine ⟨10, 18, rfl, rfl, ⟨by decide, by decide, by decide⟩, ?_⟩
    refine ⟨x, _, rfl, rfl, _, rfl, ite2 (fun big => ?_) (fun small => ?_)⟩
    · refine ⟨_, rfl, a, _, 0, _, rfl, rfl, hA, rfl, .inl ⟨x, rfl, _, rfl, x, m, rfl, rfl, m0, ?_⟩⟩
      refine ⟨_, rfl, a, _, 0, _, rfl, rfl, hA, rfl, _, rfl, x, m, rfl, rfl, ⟨m0, m1.lt⟩, ?_⟩
      refine ⟨_, rfl, a, _, 0, 0, rfl, rfl, ha, rfl, ?_⟩
      exact ⟨_, rfl, q (x % m) (x / m) c (Int.emod_nonneg _ (by omega)) (Int.emod_lt_of_pos _ m0)⟩
    · -- well[1] = well[1] + 1
      refine ⟨_, rfl, a, _, 1, _, rfl, rfl, hA, rfl, c, 1, rfl, rfl, _, rfl, a, _, 1, 1, rfl, rfl, ha, rfl, ?_⟩
      have hB : SqL K (upd H a (.lst [.int x, .int (c + 1)])) a [.int x, .int (c + 1)] := .inl (.inl upd_same)
      have e2 : upd H a (.lst ([V.int x, V.int c].set 1 (.int (c + 1)))) = upd H a (.lst [.int x, .int (c + 1)]) := rfl
      rw [e2]
      have k1 : (0 : Int) < 2147483629 := by decide
      refine ⟨_, rfl, a, _, 0, _, rfl, rfl, hB, rfl, .inl ⟨x, rfl, x, 2147483629, rfl, rfl, (by show (0 : Int) < 2147483629; decide), ?_⟩⟩
      refine ⟨_, rfl, a, _, 1, _, rfl, rfl, hB, rfl, 60013, c + 1, rfl, rfl, .inl (by decide), _, _, rfl, rfl, _, _, rfl, rfl, .inl ⟨_, rfl, ?_⟩⟩
      refine ⟨_, _, rfl, rfl, .inr (by decide), .inl ⟨_, rfl, _, _, rfl, rfl, (by show (0 : Int) < 2147483647; decide), ?_⟩⟩
      dsimp only
      generalize hn : ((x % 2147483629 + 60013 * (c + 1) + 11) * 48271) % 2147483647 = n
      have n0 : 0 ≤ n := by rw [← hn]; exact Int.emod_nonneg _ (by decide)
      have n1 : n < 2147483647 := by rw [← hn]; exact Int.emod_lt_of_pos _ (by decide)
      refine ⟨_, rfl, a, _, 0, _, rfl, rfl, hB, rfl, x, _, rfl, rfl, wide_div (b := 40) (by decide) (by decide) (by decide) (by decide), .inl ⟨_, rfl, _, _, rfl, rfl, (by show (0 : Int) < 9973; decide), ?_⟩⟩
      dsimp only
      generalize hz : (x / 2147483629) % 9973 = z
      refine ⟨_, rfl, _, rfl, _, _, rfl, rfl, ⟨by decide, by decide⟩, _, _, rfl, rfl, _, rfl, _, _, rfl, rfl, n, _, rfl, rfl, .inl ⟨by omega, by omega⟩, .inl ⟨_, rfl, _, _, rfl, rfl, (by show (0 : Int) < 2147483587; decide), ?_⟩⟩
      dsimp only
      generalize hg : (n * (n / 1013 + 40692 + z)) % 2147483587 = g
      have g0 : 0 ≤ g := by rw [← hg]; exact Int.emod_nonneg _ (by decide)
      have g1 : g < 2147483587 := by rw [← hg]; exact Int.emod_lt_of_pos _ (by decide)
      refine ⟨_, rfl, _, rfl, _, _, rfl, rfl, ⟨by decide, by decide⟩, _, _, rfl, rfl, g, _, rfl, rfl, .inl ⟨by omega, by omega⟩, .inl ⟨_, rfl, _, _, rfl, rfl, (by show (0 : Int) < 2147483563; decide), ?_⟩⟩
      refine ⟨_, _, rfl, rfl, ⟨by decide, by decide⟩, .inl ⟨_, rfl, _, rfl, _, m, rfl, rfl, m0, ?_⟩⟩
      exact q _ x (c + 1) (Int.emod_nonneg _ (by omega)) (Int.emod_lt_of_pos _ m0)
/-- one of a list's items -/
def spOne (K : PySem.W.Frag) : Sp := fun vs H Q _ => ∃ (a b : Addr) (x c : Int) (xs : List V), vs = [.ref a, .ref b] ∧ H a = some (.lst [.int x, .int c]) ∧ SqL K H b xs ∧ (∀ x' c' : Int, SqL K (upd H a (.lst [.int x', .int c'])) b xs) ∧ 0 < xs.length ∧ xs.length ≤ 1000 ∧
  ∀ (v : V) (x' c' : Int), v ∈ xs → Q v (upd H a (.lst [.int x', .int c']))
theorem ok_one {f : Addr} {fd : FuncData} {k : Nat} (F : FnP K "_law_one" "_law_one" s_law_one f fd) (C_draw : Cal P w K mg base CX0 "_law_draw" (k + 1) ["_law_well_here", "_law_many"] spDraw) (m_len : mg "len" = none) :
    FnOk P w K mg base CX0 (k + 1 + 1) f fd ["_law_well_here", "_law_some"] (spOne K) := by
  obtain ⟨f_law_draw, fd_law_draw, G_law_draw, b_law_draw, m_law_draw, k_law_draw⟩ := C_draw
  refine F.ok sc_law_one (fun vs H Q E h => ?_) (fun cdv A outer s H vs Q E hr h => ?_)
  · obtain ⟨a, b, x, c, xs, rfl, _⟩ := h
    rfl
  · obtain ⟨a, b, x, c, xs, rfl, ha, hb, hb', l0, l1, q⟩ := h
    refine ⟨_, pss_one (ps_ret (pe_ix ix_list (pv 1) (pe_call G_law_draw (hr.mono (by omega)) (by rfl) m_law_draw k_law_draw b_law_draw .nil pass0 (pa_cons (pv 0) (pa_cons (pe_callB call_len_seq (by rfl) m_len PySem.boot_len (pa_cons (pv 1) pa_nil)) pa_nil))) (fun _ _ => rfl))), ?_⟩
    refine ⟨_, rfl, _, rfl, _, rfl, b, xs, rfl, .inl hb, a, x, c, xs.length, rfl, ha, by omega, .of (k := 10) (by show (xs.length : Int).natAbs < 1024; omega) (by decide), fun r x' c' r0 r1 => ?_⟩
    obtain ⟨i, rfl⟩ := Int.eq_ofNat_of_zero_le r0
    have hi : i < xs.length := by omega
    exact ⟨b, xs, _, xs[i], rfl, rfl, hb' x' c', atI_nat (List.getElem?_eq_getElem hi), q _ x' c' (List.getElem_mem hi)⟩

end
end K14
set_option Elab.async false
set_option linter.all false
set_option maxRecDepth 100000
set_option maxHeartbeats 2000000
namespace K14
open PySem PySem.Spec PyProof.Rows L2 CM LamX WD
section
variable {P : Program} {w : World} {K : PySem.W.Frag} {mg : Str → Option Value} {base : Heap}
/-! ### words -/
def spWord (K : PySem.W.Frag) : Sp := fun vs H Q _ => ∃ (a l : Addr) (x c : Int) (zs : List Str), vs = [.ref a, .ref l] ∧ H a = some (.lst [.int x, .int c]) ∧ H l = some (.lst (zs.map V.str)) ∧ zs ≠ [] ∧ zs.length ≤ 10 ∧ (∀ z ∈ zs, z.length ≤ 2) ∧
  ∀ (H' : Hp) (z : Str) (x' c' : Int), Kp a H H' → H' a = some (.lst [.int x', .int c']) → z.length ≤ 12 → Q (.str z) H'
theorem word_ne {H : Hp} {a l : Addr} {x c : Int} {zs : List Str} (ha : H a = some (.lst [.int x, .int c])) (hl : H l = some (.lst (zs.map V.str))) (hz : zs ≠ []) : l ≠ a := fun e => by
  rw [e, ha] at hl
  cases zs with
  | nil => exact hz rfl
  | cons z r =>
    have q := HO.lst.inj (Option.some.inj hl)
    cases (List.cons.inj q).1
theorem join_len (ws : List Str) : (Txt.join "" ws).length ≤ (ws.map (·.length)).sum := by
  have z := StrLaws.join_length_le "" ws
  have e : ("" : Str).length = 0 := by decide +kernel
  rw [e, Nat.mul_zero, Nat.add_zero, show Str.join "" ws = Txt.join "" ws from (StrLaws.glued_eq_join "" ws).symm] at z
  exact z
theorem sum_two : ∀ ws : List Str, (∀ z ∈ ws, z.length ≤ 2) → (ws.map (·.length)).sum ≤ 2 * ws.length
  | [], _ => Nat.le_refl _
  | z :: ws, h => by
    have h1 := h z (List.mem_cons_self ..)
    have h2 := sum_two ws fun y hy => h y (List.mem_cons_of_mem _ hy)
    rw [List.map_cons, List.sum_cons, List.length_cons]
    omega
theorem ok_word {f : Addr} {fd : FuncData} {k : Nat} (F : FnP K "_law_word" "_law_word" s_law_word f fd) (m_range : mg "range" = none) (C_draw : Cal P w K mg base CX0 "_law_draw" k ["_law_well_here", "_law_many"] spDraw) (C_one : Cal P w K mg base CX0 "_law_one" k ["_law_well_here", "_law_some"] (spOne K)) :
    FnOk P w K mg base CX0 (k + 1) f fd ["_law_well_here", "_law_signs"] (spWord K) := by
  obtain ⟨f_law_draw, fd_law_draw, G_law_draw, b_law_draw, m_law_draw, k_law_draw⟩ := C_draw
  obtain ⟨f_law_one, fd_law_one, G_law_one, b_law_one, m_law_one, k_law_one⟩ := C_one
  refine F.ok sc_law_word (fun vs H Q E h => ?_) (fun cdv A outer s H vs Q E hr h => ?_)
  · obtain ⟨a, l, x, c, zs, rfl, _⟩ := h
    rfl
  · obtain ⟨a, l, x, c, zs, rfl, ha, hl, hz, hz1, hz2, q⟩ := h
    have la := word_ne ha hl hz
    refine ⟨_, pss_one (ps_ret (pe_join pe_str (pe_lc (own := [("_law_k", 2)]) rfl sc_law_word.nd (pi_range1 (by rfl) m_range (pa_cons (pe_call G_law_draw (hr.mono (by omega)) (by rfl) m_law_draw k_law_draw b_law_draw .nil pass0 (pa_cons (pv 0) (pa_cons pe_int pa_nil))) pa_nil)) (blkOk_by (N := n_law_word) (sc := defScope s_law_word) (by decide +kernel)) (fun _ _ _ _ _ => pg_name (i := 2) sc_law_word.nd rfl (.inl rfl)) (fun _ _ _ _ _ => pts_nil) (fun _ _ _ _ _ => (pe_call G_law_one (hr.mono (by omega)) (by rfl) m_law_one k_law_one b_law_one .nil pass0 (pa_cons (pv 0) (pa_cons (pv 1) pa_nil))))))), ?_⟩
    refine ⟨⟨_, rfl⟩, _, rfl, a, x, c, 7, rfl, ha, by decide, .of (k := 3) (by decide) (by decide), fun r x1 c1 r0 r1 => ⟨_, rfl, by omega, by omega, fun D nD => ?_⟩⟩
    obtain ⟨j, rfl⟩ := Int.eq_ofNat_of_zero_le r0
    rw [Int.toNat_natCast]
    have k0 : Kp a H (upd H a (.lst [.int x1, .int c1])) := Kp.set
    have a0 : (upd H a (.lst [.int x1, .int c1])) a = some (.lst [.int x1, .int c1]) := upd_same
    have l0 := k0 _ _ la hl
    generalize upd H a (.lst [.int x1, .int c1]) = G at nD k0 a0 l0
    have Da : D ≠ a := fun z => by
      rw [z, a0] at nD
      cases nD
    refine lc_range (lo := 0) (n := j) (fun t H' => ∃ (ws : List Str) (x' c' : Int), H' D = some (.lst (ws.map V.str)) ∧ ws.length = t ∧ (∀ z ∈ ws, z.length ≤ 2) ∧ Kp a G H' ∧ H' a = some (.lst [.int x', .int c'])) ⟨[], x1, c1, upd_same, rfl, (fun z hz => by cases hz), .same (same_upd nD), same_upd nD _ _ a0⟩ ?_ ?_
    · rintro t H2 ht ⟨ws, x2, c2, hD, hlw, hw, k2, a2⟩
      have l2 := k2 _ _ la l0
      refine ⟨rfl, _, rfl, _, rfl, a, l, x2, c2, zs.map V.str, rfl, a2, .inl (.inl l2), (fun x' c' => .inl (.inl ((Kp.set (o := .lst [.int x', .int c'])) _ _ la l2))), ?_, ?_, fun v x3 c3 hv => ?_⟩
      · rw [List.length_map]
        exact List.length_pos_iff.mpr hz
      · rw [List.length_map]
        omega
      · obtain ⟨z, hz3, rfl⟩ := List.mem_map.mp hv
        have k3 := Kp.set (a := a) (H := H2) (o := .lst [.int x3, .int c3])
        refine ⟨_, k3 _ _ Da hD, by rw [List.length_map]; exact small1000 (by omega), ws ++ [z], x3, c3, ?_, ?_, ?_, ?_, ?_⟩
        · rw [upd_same, List.map_append]
          rfl
        · rw [List.length_append, hlw]
          rfl
        · intro y hy
          rcases List.mem_append.mp hy with hy | hy
          · exact hw y hy
          · rw [List.mem_singleton.mp hy]
            exact hz2 z hz3
        · exact fun b o nb e => by
            have bD : b ≠ D := ne_of_none e nD
            rw [upd_ne bD]
            exact k3 _ _ nb (k2 _ _ nb e)
        · rw [upd_ne (Ne.symm Da)]
          exact upd_same
    · rintro H2 ⟨ws, x2, c2, hD, hlw, hw, k2, a2⟩
      have s2 := sum_two ws hw
      refine ⟨_, D, ws, rfl, rfl, .inl (.inl (.inl hD)), ?_, ?_⟩
      · have e : ("" : Str).length = 0 := by decide +kernel
        rw [e]
        omega
      · exact q H2 _ x2 c2 (k0.trans k2) a2 (Nat.le_trans (join_len ws) (by omega))
end
end K14
set_option Elab.async false
set_option linter.all false
set_option maxRecDepth 100000
set_option maxHeartbeats 2000000
namespace K14
open PySem PySem.Spec PyProof.Rows L2 CM LamX WD
section
variable {P : Program} {w : World} {K : PySem.W.Frag} {mg : Str → Option Value} {base : Heap}
/-! ### beginnings -/
def spBegins : Sp := fun vs H Q _ => ∃ (a b : Str), vs = [.str a, .str b] ∧ a.length ≤ 900 ∧ b.length ≤ 900 ∧ ∀ H', Same H H' → Q (.bl (isPre b a)) H'
theorem getS {z : Str} {k : Nat} (h : k < z.length) : atI z.cps.toList (0 + (k : Int)) = some ((cs z).getD k 0) := by
  rw [len_cs] at h
  rw [Int.zero_add, List.getD_eq_getElem?_getD, List.getElem?_eq_getElem h]
  exact atI_nat (List.getElem?_eq_getElem h)
theorem ok_begins {f : Addr} {fd : FuncData} {k : Nat} (F : FnP K "_law_begins" "_law_begins" s_law_begins f fd) (m_len : mg "len" = none) (m_range : mg "range" = none) : FnOk P w K mg base CX0 (k + 1) f fd ["_law_one_here", "_law_two"] spBegins := by
  refine F.ok sc_law_begins (fun vs H Q E h => ?_) (fun cdv A outer s H vs Q E hr h => ?_)
  · obtain ⟨a, b, rfl, _⟩ := h
    rfl
  · obtain ⟨a, b, rfl, la, lb, q⟩ := h
    refine ⟨_, PSs.nox (pss_cons (ps_if (pt_cmpR op_gt (pe_callB call_len_str (by rfl) m_len PySem.boot_len (pa_cons (pv 1) pa_nil)) (pe_callB call_len_str (by rfl) m_len PySem.boot_len (pa_cons (pv 0) pa_nil)) (nomark _)) (pss_one (ps_ret pe_bl)) (pss_nil))
    (pss_one (ps_ret (pe_cmpR (WD.op_eqNilL hr.units) (pe_lc (own := [("_law_k", 2)]) rfl sc_law_begins.nd (pi_range1 (by rfl) m_range (pa_cons (pe_callB call_len_str (by rfl) m_len PySem.boot_len (pa_cons (pv 1) pa_nil)) pa_nil)) (blkOk_by (N := n_law_begins) (sc := defScope s_law_begins) (by decide +kernel)) (fun _ _ _ _ _ => pg_name (i := 2) sc_law_begins.nd rfl (.inl rfl)) (fun _ _ _ _ _ => pts_one (pt_cmpR op_ne (pe_ix ix_str (pv 0) (pv 2) (fun _ _ => rfl)) (pe_ix ix_str (pv 1) (pv 2) (fun _ _ => rfl)) (nomark _))) (fun _ _ _ _ _ => (pv 2))) (pe_lst (pa_nil)) (nomark _))))), ?_⟩
    have hb9 : b.length ≤ sizeLine := Nat.le_of_lt (small1000 (by omega))
    have ha9 : a.length ≤ sizeLine := Nat.le_of_lt (small1000 (by omega))
    refine ⟨_, rfl, _, rfl, hb9, _, rfl, _, rfl, ha9, _, _, rfl, rfl, _, rfl, ite2 (fun e => ?_) (fun e => ?_)⟩
    · have e := of_decide_eq_true e
      have z := q H (Same.refl H)
      rw [isPre_long (by rw [← len_cs, ← len_cs]; omega)] at z
      exact z
    · have e : b.length ≤ a.length := by
        have z : ¬ ((b.length : Int) > (a.length : Int)) := fun z => e (decide_eq_true z)
        omega
      refine ⟨_, rfl, _, rfl, hb9, _, rfl, by omega, by omega, fun D nD => ?_⟩
      rw [Int.toNat_natCast]
      refine lc_range (lo := 0) (n := b.length) (fun j H' => Same H H' ∧ H' D = some (.lst ((diffs (cs a) (cs b) j).map fun k : Nat => V.int (0 + (k : Int))))) ⟨same_upd nD, upd_same⟩ ?_ ?_
      · rintro j H3 hj ⟨s3, hD⟩
        refine ⟨rfl, _, rfl, _, rfl, a, 0 + (j : Int), (cs a).getD j 0, rfl, rfl, ha9, getS (by omega), _, rfl, _, rfl, b, 0 + (j : Int), (cs b).getD j 0, rfl, rfl, hb9, getS hj, rfl, _, rfl, ?_⟩
        have ed : (!decide (V.str ⟨#[(cs a).getD j 0]⟩ = V.str ⟨#[(cs b).getD j 0]⟩)) = !decide ((cs a).getD j 0 = (cs b).getD j 0) := by
          refine congrArg (fun q : Bool => !q) (decide_eq_decide.mpr ⟨fun z => ?_, fun z => by rw [z]⟩)
          have z2 := congrArg cs (V.str.inj z)
          rw [cs_one, cs_one] at z2
          exact (List.cons.inj z2).1
        rw [ed]
        refine ite2 (fun e1 => ?_) (fun e1 => ?_)
        · refine ⟨_, rfl, _, hD, ?_, same_put s3 nD, ?_⟩
          · have z := List.length_filter_le (fun k => !decide ((cs a).getD k 0 = (cs b).getD k 0)) (List.range j)
            rw [List.length_range] at z
            rw [List.length_map]
            exact small1000 (Nat.le_trans z (by omega))
          · rw [upd_same, diffs_succ, if_pos e1, List.map_append]
            rfl
        · refine ⟨s3, ?_⟩
          rw [hD, diffs_succ, if_neg e1]
      · rintro H3 ⟨s3, hD⟩
        refine ⟨by show 0 ≤ sizeLine; decide, fun N0 nN => ?_⟩
        refine ⟨D, N0, _, rfl, rfl, .inl (.inl (same_upd nN _ _ hD)), .inl (.inl upd_same), ?_⟩
        have z := q _ (s3.trans (same_upd (o := .lst []) nN))
        rw [← diffs_pre (by rw [← len_cs, ← len_cs]; exact e)] at z
        rw [List.isEmpty_map, len_cs]
        exact z
end
end K14
set_option Elab.async false
set_option linter.all false
set_option maxRecDepth 100000
set_option maxHeartbeats 2000000
namespace K14
open PySem PySem.Spec PyProof.Rows L2 CM LamX WD
section
variable {P : Program} {w : World} {K : PySem.W.Frag} {mg : Str → Option Value} {base : Heap}
/-! ### what is shared -/
def spShared : Sp := fun vs H Q _ => ∃ (a b : Str), vs = [.str a, .str b] ∧ a.length ≤ 900 ∧ b.length ≤ 900 ∧ Q (.str (com a b)) H
theorem take_one {a b : List Nat} {k : Nat} (ha : k < a.length) (hb : k < b.length) (ht : a.take k = b.take k) (e : a.getD k 0 = b.getD k 0) : a.take (k + 1) = b.take (k + 1) := by
  rw [List.take_add_one, List.take_add_one, ht, List.getElem?_eq_getElem ha, List.getElem?_eq_getElem hb]
  rw [List.getD_eq_getElem?_getD, List.getD_eq_getElem?_getD, List.getElem?_eq_getElem ha, List.getElem?_eq_getElem hb] at e
  rw [show a[k] = b[k] from e]
theorem unlike_at {a b : List Nat} {k : Nat} (e : a.getD k 0 ≠ b.getD k 0) : ∀ x y, a[k]? = some x → b[k]? = some y → x ≠ y := fun x y hx hy z => e (by
  rw [List.getD_eq_getElem?_getD, List.getD_eq_getElem?_getD, hx, hy]
  exact z)
theorem sign_eq {x y : Nat} : decide (V.str ⟨#[x]⟩ = V.str ⟨#[y]⟩) = decide (x = y) := by
  refine decide_eq_decide.mpr ⟨fun z => ?_, fun z => by rw [z]⟩
  have z2 := congrArg cs (V.str.inj z)
  rw [cs_one, cs_one] at z2
  exact (List.cons.inj z2).1
theorem ok_shared {f : Addr} {fd : FuncData} {k : Nat} (F : FnP K "_law_shared" "_law_shared" s_law_shared f fd) (m_len : mg "len" = none) (m_range : mg "range" = none) (m_min : mg "min" = none) : FnOk P w K mg base CX0 (k + 1) f fd ["_law_one_here", "_law_two"] spShared := by
  refine F.ok sc_law_shared (fun vs H Q E h => ?_) (fun cdv A outer s H vs Q E hr h => ?_)
  · obtain ⟨a, b, rfl, _⟩ := h
    rfl
  · obtain ⟨a, b, rfl, la, lb, q⟩ := h
    refine ⟨_, PSs.nox (pss_cons (ps_set (i := 2) sc_law_shared.nd rfl (.inl rfl) pe_str)
    (pss_cons (ps_for PassesOwn.never rfl (pi_range1 (by rfl) m_range (pa_cons (pe_callB (call_min2 rfl) (by rfl) m_min (by decide +kernel) (pa_cons (pe_callB call_len_str (by rfl) m_len PySem.boot_len (pa_cons (pv 0) pa_nil)) (pa_cons (pe_callB call_len_str (by rfl) m_len PySem.boot_len (pa_cons (pv 1) pa_nil)) pa_nil))) pa_nil)) (pg_name (i := 3) sc_law_shared.nd rfl (.inl rfl))
      (pss_cons (ps_if (pt_cmpR op_ne (pe_ix ix_str (pv 0) (pv 3) (fun _ _ => rfl)) (pe_ix ix_str (pv 1) (pv 3) (fun _ _ => rfl)) (nomark _)) (pss_one (ps_ret (pv 2))) (pss_nil))
      (pss_one (ps_set (i := 2) sc_law_shared.nd rfl (.inl rfl) (pe_op op_add_str (pv 2) (pe_ix ix_str (pv 0) (pv 3) (fun _ _ => rfl)))))))
    (pss_one (ps_ret (pv 2))))), ?_⟩
    have hb9 : b.length ≤ sizeLine := Nat.le_of_lt (small1000 (by omega))
    have ha9 : a.length ≤ sizeLine := Nat.le_of_lt (small1000 (by omega))
    have l1 := len_cs a
    have l2 := len_cs b
    refine ⟨_, rfl, _, rfl, ha9, _, rfl, _, rfl, hb9, a.length, b.length, rfl, ?_⟩
    rw [min_if, show min (a.length : Int) (b.length : Int) = ((min a.length b.length : Nat) : Int) by omega]
    refine ⟨_, rfl, by omega, by omega, ?_⟩
    rw [Int.toNat_natCast]
    refine for_range (lo := 0) (n := min a.length b.length) (fun j σ H' => H' = H ∧ ∃ (z : Str) (v3 : Option V), σ = [some (.str a), some (.str b), some (.str z), v3] ∧ cs z = (cs a).take j ∧ (cs a).take j = (cs b).take j) ⟨rfl, "", none, rfl, by rw [List.take_zero]; decide +kernel, by rw [List.take_zero, List.take_zero]⟩ ?_ ?_
    · rintro j σ H1 hj ⟨rfl, z, v3, rfl, hz, ht⟩
      refine ⟨_, rfl, _, rfl, a, 0 + (j : Int), (cs a).getD j 0, rfl, rfl, ha9, getS (by omega), _, rfl, _, rfl, b, 0 + (j : Int), (cs b).getD j 0, rfl, rfl, hb9, getS (by omega), rfl, _, rfl, ?_⟩
      rw [sign_eq]
      refine ite2 (fun e1 => ?_) (fun e1 => ?_)
      · have e2 : (cs a).getD j 0 ≠ (cs b).getD j 0 := by simpa using e1
        refine ⟨_, rfl, ?_⟩
        rw [com_of (by omega) (by omega) ht (unlike_at e2) hz]
        exact q
      · have e2 : (cs a).getD j 0 = (cs b).getD j 0 := by simpa using e1
        have lz : z.length = j := by
          rw [len_cs, hz, List.length_take]
          omega
        refine ⟨_, rfl, _, rfl, _, rfl, a, 0 + (j : Int), (cs a).getD j 0, rfl, rfl, ha9, getS (by omega), z, ⟨#[(cs a).getD j 0]⟩, rfl, rfl, ?_, ?_⟩
        · rw [lz]
          exact Nat.le_of_lt (small1000 (show j + 1 ≤ 1000 by omega))
        · refine ⟨rfl, _, _, rfl, ?_, take_one (by omega) (by omega) ht e2⟩
          rw [cs_add, hz, cs_one, List.take_add_one, List.getElem?_eq_getElem (show j < (cs a).length by omega), List.getD_eq_getElem?_getD, List.getElem?_eq_getElem (show j < (cs a).length by omega)]
          rfl
    · rintro σ H1 ⟨rfl, z, v3, rfl, hz, ht⟩
      refine ⟨_, rfl, ?_⟩
      rw [com_of (by omega) (by omega) ht (fun x y hx hy => ?_) hz]
      · exact q
      · have h1 := (List.getElem?_eq_some_iff.mp hx).1
        have h2 := (List.getElem?_eq_some_iff.mp hy).1
        omega
theorem ok_common {f : Addr} {fd : FuncData} {k : Nat} (F : FnP K "common_stem" "common_stem" s_common_stem f fd) (m_len : mg "len" = none) (m_min : mg "min" = none) : FnOk P w K mg base CX0 (k + 1) f fd ["one", "other"] spShared := by
  refine F.ok sc_common_stem (fun vs H Q E h => ?_) (fun cdv A outer s H vs Q E hr h => ?_)
  · obtain ⟨a, b, rfl, _⟩ := h
    rfl
  · obtain ⟨a, b, rfl, la, lb, q⟩ := h
    refine ⟨_, PSs.nox (pss_cons (ps_set (i := 2) sc_common_stem.nd rfl (.inl rfl) pe_int)
    (pss_cons (ps_set (i := 3) sc_common_stem.nd rfl (.inl rfl) (pe_callB (call_min2 rfl) (by rfl) m_min (by decide +kernel) (pa_cons (pe_callB call_len_str (by rfl) m_len PySem.boot_len (pa_cons (pv 0) pa_nil)) (pa_cons (pe_callB call_len_str (by rfl) m_len PySem.boot_len (pa_cons (pv 1) pa_nil)) pa_nil))))
    (pss_cons (ps_while PassesOwn.never (PW.pt (pw_and (pt_cmpR op_lt (pv 2) (pv 3) (nomark _)) (pw_and1 (pt_cmpR op_eq (pe_ix ix_str (pv 0) (pv 2) (fun _ _ => rfl)) (pe_ix ix_str (pv 1) (pv 2) (fun _ _ => rfl)) (nomark _))))) (pss_one (ps_aug (i := 2) sc_common_stem.nd rfl (.inl rfl) pe_int ip_add)))
    (pss_one (ps_ret (pe_slice sl_str (pv 0) po_none (po_some (pv 2)))))))), ?_⟩
    have hb9 : b.length ≤ sizeLine := Nat.le_of_lt (small1000 (by omega))
    have ha9 : a.length ≤ sizeLine := Nat.le_of_lt (small1000 (by omega))
    have l1 := len_cs a
    have l2 := len_cs b
    refine ⟨_, rfl, _, rfl, ha9, _, rfl, _, rfl, hb9, a.length, b.length, rfl, ?_⟩
    rw [min_if, show min (a.length : Int) (b.length : Int) = ((min a.length b.length : Nat) : Int) by omega]
    generalize hm : min a.length b.length = m
    refine ⟨fun d σ H' => H' = H ∧ ∃ j : Nat, d + j = m ∧ σ = [some (.str a), some (.str b), some (.int (j : Int)), some (.int (m : Int))] ∧ (cs a).take j = (cs b).take j, ⟨m, rfl, 0, rfl, rfl, by rw [List.take_zero, List.take_zero]⟩, ?_⟩
    rintro d σ H1 ⟨rfl, j, hd, rfl, ht⟩
    have fin : ∀ (_ : ∀ x y, (cs a)[j]? = some x → (cs b)[j]? = some y → x ≠ y), Q (.str (cutS a none (some (j : Int)))) H1 := fun hu => by
      have e : cutS a none (some (j : Int)) = com a b := by
        refine com_of (k := j) (by omega) (by omega) ht hu ?_
        unfold cutS
        rw [HT.sIx_nat, HT.sIx_none, Nat.min_eq_left (by omega)]
        show ((cs a).drop 0).take (j - 0) = _
        rw [List.drop_zero, Nat.sub_zero]
      rw [e]
      exact q
    refine ⟨_, rfl, _, rfl, _, _, rfl, rfl, _, rfl, ite2 (fun e1 => ?_) (fun e1 => ?_)⟩
    · have e1 : j < m := by
        have z := of_decide_eq_true e1
        omega
      refine ⟨_, rfl, _, rfl, a, (j : Int), (cs a).getD j 0, rfl, rfl, ha9, by have z := getS (z := a) (k := j) (by omega); rw [Int.zero_add] at z; exact z, _, rfl, _, rfl, b, (j : Int), (cs b).getD j 0, rfl, rfl, hb9, by have z := getS (z := b) (k := j) (by omega); rw [Int.zero_add] at z; exact z, rfl, _, rfl, ?_⟩
      rw [sign_eq]
      refine ite2 (fun e2 => ?_) (fun e2 => ?_)
      · have e2 := of_decide_eq_true e2
        refine ⟨fun σ' H' => H' = H1 ∧ σ' = [some (.str a), some (.str b), some (.int ((j : Int) + 1)), some (.int (m : Int))], ?_, ?_⟩
        · rintro σ' H' ⟨rfl, rfl⟩
          exact ⟨d - 1, by omega, rfl, j + 1, by omega, rfl, take_one (by omega) (by omega) ht e2⟩
        · exact ⟨_, rfl, _, _, rfl, rfl, rfl, rfl⟩
      · exact ⟨_, rfl, _, rfl, _, rfl, a, rfl, ha9, fin (unlike_at fun z => e2 (decide_eq_true z))⟩
    · have e1 : ¬ j < m := fun z => e1 (decide_eq_true (by omega))
      refine iteF ⟨_, rfl, _, rfl, _, rfl, a, rfl, ha9, fin fun x y hx hy => ?_⟩
      have h1 := (List.getElem?_eq_some_iff.mp hx).1
      have h2 := (List.getElem?_eq_some_iff.mp hy).1
      omega
end
end K14
set_option Elab.async false
set_option linter.all false
set_option maxRecDepth 100000
set_option maxHeartbeats 2000000
namespace K14
open PySem PySem.Spec PyProof.Rows L2 CM LamX WD
section
variable {P : Program} {w : World} {K : PySem.W.Frag} {mg : Str → Option Value} {base : Heap}
/-! ### halves, as the law has them -/
def aheadL (zs : List Str) (i j : Nat) : List V := ((List.range j).filter fun k => WD.ltS zs k i).map fun k : Nat => V.int (0 + (k : Int))
theorem aheadL_succ (zs : List Str) (i j : Nat) : aheadL zs i (j + 1) = if WD.ltS zs j i = true then aheadL zs i j ++ [V.int (0 + (j : Int))] else aheadL zs i j := by
  unfold aheadL
  rw [List.range_succ, List.filter_append, List.map_append]
  by_cases h : WD.ltS zs j i = true
  · rw [if_pos h, List.filter_cons_of_pos (p := fun k => WD.ltS zs k i) h]
    rfl
  · rw [if_neg h, List.filter_cons_of_neg (p := fun k => WD.ltS zs k i) h]
    exact List.append_nil _
theorem aheadL_len (zs : List Str) (i j : Nat) : (aheadL zs i j).length ≤ j := by
  unfold aheadL
  rw [List.length_map]
  have z := List.length_filter_le (fun k => WD.ltS zs k i) (List.range j)
  rw [List.length_range] at z
  exact z
def spHalves (K : PySem.W.Frag) : Sp := fun vs H Q _ => ∃ (l : Addr) (zs : List Str), vs = [.ref l] ∧ SqL K H l (zs.map V.str) ∧ zs.length ≤ 900 ∧ ∀ (p : Addr) (H' : Hp), Same H H' → H' p = some (.lst (SL.halvesL (WD.ltS zs) zs.length)) → Q (.ref p) H'
theorem ok_halves {f : Addr} {fd : FuncData} {k : Nat} (F : FnP K "_law_halves" "_law_halves" s_law_halves f fd) (m_enumerate : mg "enumerate" = none) (m_range : mg "range" = none) (m_len : mg "len" = none) (m_int : mg "int" = none) :
    FnOk P w K mg base CX0 (k + 1) f fd ["_law_words"] (spHalves K) := by
  refine F.ok sc_law_halves (fun vs H Q E h => ?_) (fun cdv A outer s H vs Q E hr h => ?_)
  · obtain ⟨l, zs, rfl, _⟩ := h
    rfl
  · obtain ⟨l, zs, rfl, hl, hn, q⟩ := h
    refine ⟨_, PSs.nox (pss_cons (ps_set (i := 1) sc_law_halves.nd rfl (.inl rfl) (pe_lst (pa_nil)))
    (pss_cons (ps_for PassesOwn.never rfl (pi_enum (by rfl) m_enumerate (pa_cons (pv 0) pa_nil)) (pg_tup rfl (pgs_cons (pg_name (i := 2) sc_law_halves.nd rfl (.inr rfl)) (pgs_cons (pg_name (i := 3) sc_law_halves.nd rfl (.inr rfl)) (pgs_nil))))
      (pss_cons (ps_setLc (i := 4) (own := [("_law_k", 5)]) rfl sc_law_halves.nd rfl rfl (sw_true rfl rfl rfl (by decide +kernel)) (pi_range1 (by rfl) m_range (pa_cons (pe_callB call_len_seq (by rfl) m_len PySem.boot_len (pa_cons (pv 0) pa_nil)) pa_nil)) (blkOk_by (N := n_law_halves) (sc := defScope s_law_halves) (by decide +kernel)) (fun _ _ _ _ _ => pg_name (i := 5) sc_law_halves.nd rfl (.inl rfl)) (fun _ _ _ _ _ => pts_one (pt_cmpR (WD.op_ltSI hr.units) (pe_tup (pa_cons (pe_ix ix_listK (pv 0) (pv 5) (fun _ _ => rfl)) (pa_cons (pv 5) pa_nil))) (pe_tup (pa_cons (pv 3) (pa_cons (pv 2) pa_nil))) (nomark _))) (fun _ _ _ _ _ => (pv 5)))
      (pss_one (ps_expr (pe_bm PySem.F.plainAttrs_list PySem.F.slot_list_append PySem.F.type_list_append mt_append (pv 1) (pa_cons (pe_callTy call_int1 (by rfl) m_int boot_int (pa_cons (pe_cmpR op_ge (pe_callB call_len_seq (by rfl) m_len PySem.boot_len (pa_cons (pv 4) pa_nil)) (pe_op op_fdiv (pe_callB call_len_seq (by rfl) m_len PySem.boot_len (pa_cons (pv 0) pa_nil)) pe_int) (nomark _)) pa_nil)) pa_nil))))))
    (pss_one (ps_ret (pv 1))))), ?_⟩
    refine ⟨by show 0 ≤ sizeLine; decide, fun F0 nF => ?_⟩
    have lm : (zs.map V.str).length = zs.length := List.length_map ..
    refine ⟨_, rfl, l, zs.map V.str, rfl, (same_upd nF).seq hl, for_it (walk_enum (K := K) (a := l) (xs := zs.map V.str)) (fun i σ H' => ∃ v2 v3 v4 v5 : Option V, σ = [some (.ref l), some (.ref F0), v2, v3, v4, v5] ∧ Same H H' ∧ H' F0 = some (.lst ((SL.halvesL (WD.ltS zs) zs.length).take i)))
      ⟨_, _, _, _, rfl, same_upd nF, upd_same⟩ (fun i σ H' _ ⟨_, _, _, _, _, s1, _⟩ => s1.seq hl) ?_ ?_⟩
    · rintro i x σ H1 H2 hi ⟨v2, v3, v4, v5, rfl, s1, hF⟩ ⟨T0, x0, y0, rfl, nT, rfl, hx0, hy0⟩
      have hx1 : V.int (i : Int) = x0 := Option.some.inj hx0
      subst hx1
      rw [lm] at hi
      have hgi : zs.getD i Str.empty = zs[i] := by
        rw [List.getD_eq_getElem?_getD, List.getElem?_eq_getElem hi]
        rfl
      have hy1 : V.str zs[i] = y0 := by
        have hy2 : (zs.map V.str)[i]? = some y0 := hy0
        rw [List.getElem?_map, List.getElem?_eq_getElem hi] at hy2
        exact Option.some.inj hy2
      subst hy1
      generalize zs[i] = x at hgi hy0
      have s2 : Same H (upd H1 T0 (.tup [.int (i : Int), .str x])) := s1.trans (same_upd nT)
      refine ⟨T0, [.int (i : Int), .str x], rfl, .inl (.inl upd_same), rfl, _, _, rfl, _, _, rfl, rfl, ?_⟩
      have hF2 := same_upd (o := .tup [V.int (i : Int), V.str x]) nT _ _ hF
      generalize upd H1 T0 (.tup [.int (i : Int), .str x]) = G at s2 hF2
      refine ⟨_, rfl, l, zs.map V.str, rfl, .inl (s2.seq hl), _, rfl, by rw [lm]; omega, by rw [lm]; omega, fun D nD => ?_⟩
      rw [lm, Int.toNat_natCast]
      refine lc_range (lo := 0) (n := zs.length) (fun j H' => Same G H' ∧ H' D = some (.lst (aheadL zs i j))) ⟨same_upd nD, upd_same⟩ ?_ ?_
      · rintro j H3 hj ⟨s3, hD⟩
        have hj1 : (zs.map V.str)[j]? = some (.str (zs.getD j Str.empty)) := by
          rw [List.getElem?_map, List.getElem?_eq_getElem hj, List.getD_eq_getElem?_getD, List.getElem?_eq_getElem hj]
          rfl
        refine ⟨rfl, _, rfl, _, rfl, l, zs.map V.str, 0 + (j : Int), _, rfl, rfl, (s2.trans s3).seq hl, by rw [Int.zero_add]; exact atI_nat hj1, _, rfl, by show 2 ≤ sizeLine; decide, fun T1 n1 => ?_⟩
        refine ⟨_, rfl, _, rfl, by show 2 ≤ sizeLine; decide, fun T2 n2 => ⟨T1, T2, zs.getD j Str.empty, x, 0 + (j : Int), (i : Int), rfl, rfl, .inl (.inl (same_upd n2 _ _ upd_same)), .inl (.inl upd_same), _, rfl, ?_⟩⟩
        have elt : decide (cs (zs.getD j Str.empty) < cs x ∨ (cs (zs.getD j Str.empty) = cs x ∧ 0 + (j : Int) < (i : Int))) = WD.ltS zs j i := by
          unfold WD.ltS
          rw [hgi]
          exact decide_eq_decide.mpr ⟨fun h => h.imp id fun z => ⟨z.1, by omega⟩, fun h => h.imp id fun z => ⟨z.1, by omega⟩⟩
        rw [elt]
        have s5 : Same G _ := s3.trans ((same_upd (o := .tup [V.str (zs.getD j Str.empty), V.int (0 + (j : Int))]) n1).trans (same_upd (o := .tup [V.str x, V.int (i : Int)]) n2))
        have hD5 := ((same_upd (o := .tup [V.str (zs.getD j Str.empty), V.int (0 + (j : Int))]) n1).trans (same_upd (o := .tup [V.str x, V.int (i : Int)]) n2)) _ _ hD
        refine ite2 (fun e => ?_) (fun e => ?_)
        · refine ⟨_, rfl, _, hD5, small1000 (Nat.le_trans (aheadL_len ..) (by omega)), same_put s5 nD, ?_⟩
          rw [upd_same, aheadL_succ, if_pos e]
        · refine ⟨s5, ?_⟩
          rw [aheadL_succ, if_neg e]
          exact hD5
      · rintro H3 ⟨s3, hD⟩
        have hF3 := s3 _ _ hF2
        have s23 := s2.trans s3
        have la : (aheadL zs i zs.length).length = SL.aheadN (WD.ltS zs) zs.length i := by
          unfold aheadL SL.aheadN
          rw [List.length_map]
        have lh : (SL.halvesL (WD.ltS zs) zs.length).length = zs.length := by
          unfold SL.halvesL
          rw [List.length_map, List.length_range]
        refine ⟨_, rfl, .inl ⟨rfl, _, .inl (.inl hF3)⟩, _, rfl, D, _, rfl, .inl (.inl (.inl hD)), _, rfl, l, _, rfl, .inl (s23.seq hl), _, 2, rfl, rfl, ⟨by decide, by decide⟩, _, _, rfl, rfl, .inr ⟨_, rfl, F0, _, _, rfl, rfl, hF3, small1000 ?_, ?_⟩⟩
        · rw [List.length_take, lh]
          omega
        · refine ⟨_, _, _, _, rfl, fun b o e => ?_, ?_⟩
          · have hb : b ≠ F0 := ne_of_none e nF
            rw [upd_ne hb]
            exact s23 _ _ e
          · rw [upd_same, List.take_add_one, SL.halvesL_at hi, la, lm]
            refine congrArg (fun v : Int => some (HO.lst (_ ++ [V.int v]))) ?_
            by_cases z : SL.aheadN (WD.ltS zs) zs.length i < zs.length / 2
            · rw [if_pos z, if_neg (fun y => by have y := of_decide_eq_true y; omega)]
            · rw [if_neg z, if_pos (decide_eq_true (by omega))]
    · rintro σ H1 ⟨v2, v3, v4, v5, rfl, s1, hF⟩
      refine ⟨_, rfl, q F0 H1 s1 ?_⟩
      rw [lm, List.take_of_length_le (by unfold SL.halvesL; rw [List.length_map, List.length_range]; exact Nat.le_refl _)] at hF
      exact hF
/-! ### halves_by, marks that are texts -/
abbrev TT (K : PySem.W.Frag) : List (Addr × Str) := [((He.cT K ("halves_by", none)).2, ("halves_by" ++ ".<locals>.") ++ "<lambda>")]
def spHB (K : PySem.W.Frag) : Sp := fun vs H Q _ => ∃ (l : Addr) (ns : List Str), vs = [.ref l] ∧ SqL K H l (ns.map V.str) ∧ ns.length ≤ 900 ∧ Tabs (TT K) H ∧
  ∀ (D : Addr) (H' : Hp), ExtN H H' → Tabs (TT K) H' → H' D = some (.lst (SL.halvesL (WD.ltS ns) ns.length)) → Q (.ref D) H'
theorem ok_halvesby {fd : FuncData} {k : Nat} (F : FnP K "halves_by" "halves_by" s_halves_by (He.fAd K ("halves_by", none)) fd) (TB : TabB base mg (He.cT K ("halves_by", none)).1 (He.cT K ("halves_by", none)).2)
    (m_sorted : mg "sorted" = none) (m_list : mg "list" = none) (m_range : mg "range" = none) (m_len : mg "len" = none) : FnOk P w K mg base CX0 (k + 1) (He.fAd K ("halves_by", none)) fd ["marks"] (spHB K) := by
  refine SL.okC F sc_halves_by (fun vs H Q E h => ?_) (fun A outer s H vs Q E hr h => ?_)
  · obtain ⟨l, ns, rfl, _⟩ := h
    rfl
  · obtain ⟨l, ns, rfl, hl, hn, hT, q⟩ := h
    refine ⟨_, PSs.nox (pss_cons (ps_set (i := 1) sc_halves_by.nd rfl (.inl rfl) (SL.pe_sortL (β := Nat) hr TB rfl (List.mem_singleton.mpr rfl) (SL.one_tab rfl) (SL.lam1_by (sc := defScope s_halves_by) (by decide +kernel)) rfl (fun _ _ _ _ _ _ => rfl) (by rfl) m_sorted (pe_listRg rfl (by rfl) m_list (prg_1 (by rfl) m_range (pe_callB call_len_seq (by rfl) m_len PySem.boot_len (pa_cons (pv 0) pa_nil))))))
    (pss_cons (ps_set (i := 2) sc_halves_by.nd rfl (.inr rfl) (pe_dc (own := [("at", 3)]) rfl sc_halves_by.nd (pi_list (pe_slice sl_list (pv 1) po_none (po_some (pe_op op_fdiv (pe_callB call_len_seq (by rfl) m_len PySem.boot_len (pa_cons (pv 0) pa_nil)) pe_int)))) (blkOk_by (N := n_halves_by) (sc := defScope s_halves_by) (by decide +kernel)) (fun _ _ _ _ _ => pg_name (i := 3) sc_halves_by.nd rfl (.inl rfl)) (fun _ _ _ _ _ => pts_nil) (fun _ _ _ _ _ => (pv 3)) (fun _ _ _ _ _ => pe_bl)))
    (pss_one (ps_ret (pe_lc (own := [("at", 3)]) rfl sc_halves_by.nd (pi_range1 (by rfl) m_range (pa_cons (pe_callB call_len_seq (by rfl) m_len PySem.boot_len (pa_cons (pv 0) pa_nil)) pa_nil)) (blkOk_by (N := n_halves_by) (sc := defScope s_halves_by) (by decide +kernel)) (fun _ _ _ _ _ => pg_name (i := 3) sc_halves_by.nd rfl (.inl rfl)) (fun _ _ _ _ _ => pts_nil) (fun _ _ _ _ _ => (pe_ifExp (pt_cmp (pc_din (hu_of hr) (pv 3) (pv 2))) pe_int pe_int))))))), ?_⟩
    have lm : (ns.map V.str).length = ns.length := List.length_map ..
    refine ⟨_, rfl, l, ns.map V.str, rfl, .inl hl, _, rfl, RgOk.of_le (by omega) (by omega) (by omega) (by omega), fun q0 n0 => ?_⟩
    have eR : rgV 0 ((ns.map V.str).length : Int) = (List.range ns.length).map fun b : Nat => V.int (b : Int) := by
      unfold rgV
      rw [lm]
      refine List.map_congr_left fun b _ => ?_
      simp
    rw [eR]
    refine ⟨SL.Tabs.same hT (same_upd n0), q0, List.range ns.length, fun b : Nat => V.int (b : Int), WD.keyS ns, rfl, .inl (.inl upd_same), fun _ _ _ _ => rfl, PySem.W.Sortable.tuples fun _ => ⟨_, _, rfl⟩, fun _ _ => by show 1 ≤ 60; decide, ?_, ?_⟩
    · intro pins s2 H2 b v I2 eN hb rv
      have hb := List.mem_range.mp hb
      have hb1 : ns[b]? = some (ns.getD b Str.empty) := by
        rw [List.getD_eq_getElem?_getD, List.getElem?_eq_getElem hb]
        rfl
      have hb2 : (ns.map V.str)[b]? = some (V.str (ns.getD b Str.empty)) := by rw [List.getElem?_map, hb1]; rfl
      exact SL.kr_pair (i := 0) I2 rfl rfl rfl rfl rfl (SL.ExtN.seqL eN ((same_upd n0).seq hl)) hb2 (.str _) rv
    · intro O H1 e1 nO t1 hO
      have hl1 := SL.ExtN.seqL e1 ((same_upd (o := .lst ((List.range ns.length).map fun b : Nat => V.int (b : Int))) n0).seq hl)
      have e0 : ExtN H H1 := (SL.ExtN.of_same (same_upd n0)).trans e1
      generalize hord : (List.range ns.length).mergeSort (PySem.W.dataLe false (WD.keyS ns)) = ord at hO
      have lo : ord.length = ns.length := by rw [← hord, List.length_mergeSort, List.length_range]
      -- the first half, a dict
      refine ⟨_, rfl, _, rfl, l, _, rfl, .inl hl1, _, 2, rfl, rfl, ⟨by decide, by decide⟩, _, rfl, O, _, rfl, .inl (.inl hO), fun P0 nP => ⟨P0, rfl, ⟨_, .inl (.inl upd_same)⟩, fun D nD => ?_⟩⟩
      have ec : cutV (ord.map fun b : Nat => V.int (b : Int)) none (some (((ns.map V.str).length : Int) / 2)) = (ord.take (ns.length / 2)).map fun b : Nat => V.int (b : Int) := SL.cut_half lo lm
      rw [ec] at nD ⊢
      generalize hhs : ord.take (ns.length / 2) = hs at nD ⊢
      have lhs : hs.length ≤ 900 := by
        rw [← hhs, List.length_take]
        omega
      have s2 : Same H1 (upd H1 P0 (.lst (hs.map fun b : Nat => V.int (b : Int)))) := same_upd nP
      have hP : (upd H1 P0 (.lst (hs.map fun b : Nat => V.int (b : Int)))) P0 = some (.lst (hs.map fun b : Nat => V.int (b : Int))) := upd_same
      have t2 := SL.Tabs.same t1 s2
      have hl2 := s2.seq hl1
      have e2 := e0.trans (SL.ExtN.of_same s2)
      generalize upd H1 P0 (.lst (hs.map fun b : Nat => V.int (b : Int))) = H2 at nD hP t2 hl2 e2
      refine SL.dc_list (K := K) (a := P0) (xs := hs.map fun b : Nat => V.int (b : Int)) (fun i H' => Same H2 H' ∧ ∃ kvs : List (L2.Key × V), H' D = some (.dK kvs) ∧ kvs.length ≤ i ∧ ∀ b : Nat, (valV kvs (Sum.inl (b : Int))).isSome = decide (b ∈ hs.take i))
        ⟨same_upd nD, [], upd_same, Nat.le_refl _, fun b => by simp [valV]⟩ (fun i H' _ ⟨z, _⟩ => .inl (.inl (z _ _ hP))) ?_ ?_
      · rintro i x H3 hi ⟨s3, kvs, hD, lk, hk⟩
        obtain ⟨b, hb, rfl⟩ : ∃ b, hs[i]? = some b ∧ V.int (b : Int) = x := by
          rw [List.getElem?_map] at hi
          cases e : hs[i]? with
          | none => rw [e] at hi; cases hi
          | some b => rw [e] at hi; exact ⟨b, rfl, Option.some.inj hi⟩
        have li := (List.getElem?_eq_some_iff.mp hb).1
        refine ⟨rfl, _, rfl, kvs, Sum.inl (b : Int), rfl, hD, small1000 (by omega), ?_, _, upd_same, ?_, fun j => ?_⟩
        · exact same_put s3 nD
        · exact Nat.le_trans (length_putK ..) (by omega)
        · rw [valV_put, List.take_add_one, hb]
          by_cases e : j = b
          · subst e
            simp
          · rw [if_neg (fun z => e (by have z := Sum.inl.inj z; omega)), hk j]
            simp [e]
      · rintro H3 ⟨s3, kvs, hD, lk, hk⟩
        rw [List.length_map, List.take_length] at hk
        refine ⟨_, rfl, l, _, rfl, .inl (s3.seq hl2), _, rfl, by omega, by omega, fun R nR => ?_⟩
        rw [lm, Int.toNat_natCast]
        have t3 := SL.Tabs.same t2 s3
        have e3 := e2.trans (SL.ExtN.of_same s3)
        refine lc_range (lo := 0) (n := ns.length) (fun j H' => Same H3 H' ∧ H' R = some (.lst ((SL.halvesL (WD.ltS ns) ns.length).take j))) ⟨same_upd nR, upd_same⟩ ?_ ?_
        · rintro j H4 hj ⟨s4, hR⟩
          have hin : decide (j ∈ hs) = decide (SL.aheadN (WD.ltS ns) ns.length j < ns.length / 2) := by
            rw [← hhs, ← hord]
            have z := SL.in_half (h := ns.length / 2) (WD.ltS_irr ns) (WD.ltS_tr ns) (WD.ltS_tot ns) (fun a b => congrFun (congrFun (WD.leS ns) a) b) hj
            exact decide_eq_decide.mpr z
          refine ⟨rfl, _, rfl, _, rfl, D, valV kvs (Sum.inl (0 + (j : Int))), rfl, DGet.k (k := Sum.inl (0 + (j : Int))) (s4 _ _ hD), _, rfl, ?_⟩
          rw [Int.zero_add, hk j, hin]
          have lr : ((SL.halvesL (WD.ltS ns) ns.length).take j).length < sizeLine := small1000 (by rw [List.length_take]; omega)
          have et : ∀ v : Int, v = (if SL.aheadN (WD.ltS ns) ns.length j < ns.length / 2 then 0 else 1) → (SL.halvesL (WD.ltS ns) ns.length).take j ++ [V.int v] = (SL.halvesL (WD.ltS ns) ns.length).take (j + 1) := fun v ev => by
            rw [ev, List.take_add_one, SL.halvesL_at hj]
            rfl
          refine ite2 (fun e => ?_) (fun e => ?_)
          · refine ⟨_, hR, lr, same_put s4 nR, ?_⟩
            rw [upd_same, et 0 (by rw [if_pos (of_decide_eq_true e)])]
          · refine ⟨_, hR, lr, same_put s4 nR, ?_⟩
            rw [upd_same, et 1 (by rw [if_neg (fun z => e (decide_eq_true z))])]
        · rintro H4 ⟨s4, hR⟩
          refine q R H4 (e3.trans (SL.ExtN.of_same s4)) (SL.Tabs.same t3 s4) ?_
          rw [hR, List.take_of_length_le (by unfold SL.halvesL; rw [List.length_map, List.length_range]; exact Nat.le_refl _)]

end
end K14
set_option Elab.async false
set_option linter.all false
set_option maxRecDepth 100000
set_option maxHeartbeats 2000000
namespace K14
open PySem PySem.Spec PyProof.Rows L2 CM LamX WD
section
variable {P : Program} {w : World} {K : PySem.W.Frag} {mg : Str → Option Value} {base : Heap}
/-! ### what each method is to tell -/
def spOwn : Sp := fun vs H Q _ => ∃ (m : Addr) (v : V), vs = [.ref m, v] ∧ Q v H
def spJoin : Sp := fun vs H Q _ => ∃ (m : Addr) (a b : Str), vs = [.ref m, .str a, .str b] ∧ a.length ≤ 900 ∧ b.length ≤ 900 ∧ Q (.str (com a b)) H
def spCons : Sp := fun vs H Q _ => ∃ (m : Addr) (a b : Str), vs = [.ref m, .str a, .str b] ∧ Q (.bl (isPre b a || isPre a b)) H
def spMat : Sp := fun vs H Q _ => ∃ (m : Addr) (a b : Str), vs = [.ref m, .str a, .str b] ∧ Q (.bl (isPre b a)) H
def spPen : Sp := fun vs H Q _ => ∃ (m : Addr) (a b : Str), vs = [.ref m, .str a, .str b] ∧ a.length ≤ 900 ∧ b.length ≤ 900 ∧ Q (.int ((a.length : Int) - ((com a b).length : Int))) H
def spSides (K : PySem.W.Frag) : Sp := fun vs H Q _ => ∃ (m l : Addr) (zs : List Str), vs = [.ref m, .ref l] ∧ SqL K H l (zs.map V.str) ∧ zs.length ≤ 900 ∧ Tabs (TT K) H ∧
  ∀ (t : Addr) (H' : Hp), ExtN H H' → Tabs (TT K) H' → H' t = some (.lst (SL.halvesL (WD.ltS zs) zs.length)) → Q (.ref t) H'
def spRight (K : PySem.W.Frag) : Sp := fun vs H Q _ => ∃ (a : Addr) (x c : Int), vs = [.ref a] ∧ H a = some (.lst [.int x, .int c]) ∧ Tabs (TT K) H ∧ ∀ H' : Hp, SL.KpN a H H' → Tabs (TT K) H' → Q (.bl true) H'
theorem com_len (a b : Str) : (com a b).length ≤ a.length := by
  rw [len_cs, len_cs]
  show ((cs a).take _).length ≤ _
  rw [List.length_take]
  omega
theorem ok_right {f C : Addr} {fd : FuncData} {k : Nat} (F : FnP K "_law_right" "_law_right" s_law_right f fd) (m_range : mg "range" = none) (m_list : mg "list" = none) (m_len : mg "len" = none)
    (M_C : MkO K C) (cl_C : Cls K C) (m_C : mg "Stems" = some (.ref C))
    (C_draw : Cal P w K mg base CX0 "_law_draw" k ["_law_well_here", "_law_many"] spDraw) (C_one : Cal P w K mg base CX0 "_law_one" k ["_law_well_here", "_law_some"] (spOne K))
    (C_word : Cal P w K mg base CX0 "_law_word" k ["_law_well_here", "_law_signs"] (spWord K)) (C_begins : Cal P w K mg base CX0 "_law_begins" k ["_law_one_here", "_law_two"] spBegins)
    (C_shared : Cal P w K mg base CX0 "_law_shared" k ["_law_one_here", "_law_two"] spShared) (C_halves : Cal P w K mg base CX0 "_law_halves" k ["_law_words"] (spHalves K))
    (D_own : CalM P w K mg base CX0 C "own" k ["self", "key"] spOwn) (D_join : CalM P w K mg base CX0 C "join" k ["self", "one", "other"] spJoin)
    (D_consistent : CalM P w K mg base CX0 C "consistent" k ["self", "label", "question"] spCons) (D_matches : CalM P w K mg base CX0 C "matches" k ["self", "key", "question"] spMat)
    (D_penalty : CalM P w K mg base CX0 C "penalty" k ["self", "label", "key"] spPen) (D_sides : CalM P w K mg base CX0 C "sides" k ["self", "labels"] (spSides K)) :
    FnOk P w K mg base CX0 (k + 1) f fd ["_law_well_here"] (spRight K) := by
  obtain ⟨f_law_draw, fd_law_draw, G_law_draw, b_law_draw, m_law_draw, k_law_draw⟩ := C_draw
  obtain ⟨f_law_one, fd_law_one, G_law_one, b_law_one, m_law_one, k_law_one⟩ := C_one
  obtain ⟨f_law_word, fd_law_word, G_law_word, b_law_word, m_law_word, k_law_word⟩ := C_word
  obtain ⟨f_law_begins, fd_law_begins, G_law_begins, b_law_begins, m_law_begins, k_law_begins⟩ := C_begins
  obtain ⟨f_law_shared, fd_law_shared, G_law_shared, b_law_shared, m_law_shared, k_law_shared⟩ := C_shared
  obtain ⟨f_law_halves, fd_law_halves, G_law_halves, b_law_halves, m_law_halves, k_law_halves⟩ := C_halves
  obtain ⟨f_own, fd_own, G_own, b_own, me_own⟩ := D_own
  obtain ⟨f_join, fd_join, G_join, b_join, me_join⟩ := D_join
  obtain ⟨f_consistent, fd_consistent, G_consistent, b_consistent, me_consistent⟩ := D_consistent
  obtain ⟨f_matches, fd_matches, G_matches, b_matches, me_matches⟩ := D_matches
  obtain ⟨f_penalty, fd_penalty, G_penalty, b_penalty, me_penalty⟩ := D_penalty
  obtain ⟨f_sides, fd_sides, G_sides, b_sides, me_sides⟩ := D_sides
  refine F.ok sc_law_right (fun vs H Q E h => ?_) (fun cdv A outer s H vs Q E hr h => ?_)
  · obtain ⟨a, x, c, rfl, _⟩ := h
    rfl
  · obtain ⟨a, x, c, rfl, ha, hT, q⟩ := h
    refine ⟨_, PSs.nox (pss_cons (ps_set (i := 1) sc_law_right.nd rfl (.inl rfl) (pe_make00 M_C (by rfl) m_C))
    (pss_cons (ps_set (i := 2) sc_law_right.nd rfl (.inr rfl) (pe_call G_law_one (hr.mono (by omega)) (by rfl) m_law_one k_law_one b_law_one .nil pass0 (pa_cons (pv 0) (pa_cons (pe_lst (pa_cons (pe_lst (pa_cons pe_str (pa_cons pe_str pa_nil))) (pa_cons (pe_lst (pa_cons pe_str (pa_cons pe_str (pa_cons pe_str (pa_cons pe_str pa_nil))))) (pa_cons (pe_lst (pa_cons pe_str pa_nil)) (pa_cons (pe_lst (pa_cons pe_str (pa_cons pe_str (pa_cons pe_str (pa_cons pe_str (pa_cons pe_str pa_nil)))))) pa_nil))))) pa_nil))))
    (pss_cons (ps_for PassesOwn.never rfl (pi_range1 (by rfl) m_range (pa_cons pe_int pa_nil)) (pg_name (i := 3) sc_law_right.nd rfl (.inl rfl))
      (pss_cons (ps_par3 (i := 4) (j := 5) (l := 6) rfl sc_law_right.nd rfl rfl rfl (by decide) (by decide) (by decide) rfl rfl rfl (pa_cons (pe_call G_law_word (hr.mono (by omega)) (by rfl) m_law_word k_law_word b_law_word .nil pass0 (pa_cons (pv 0) (pa_cons (pv 2) pa_nil))) (pa_cons (pe_call G_law_word (hr.mono (by omega)) (by rfl) m_law_word k_law_word b_law_word .nil pass0 (pa_cons (pv 0) (pa_cons (pv 2) pa_nil))) (pa_cons (pe_call G_law_word (hr.mono (by omega)) (by rfl) m_law_word k_law_word b_law_word .nil pass0 (pa_cons (pv 0) (pa_cons (pv 2) pa_nil))) pa_nil))) (by rfl))
      (Evl.pss_cut (ps_if (pt_cmpR op_eq (pe_call G_law_draw (hr.mono (by omega)) (by rfl) m_law_draw k_law_draw b_law_draw .nil pass0 (pa_cons (pv 0) (pa_cons pe_int pa_nil))) pe_int (nomark _)) (pss_one (ps_set (i := 5) sc_law_right.nd rfl (.inl rfl) (pe_op op_add_str (pv 4) (pv 5)))) (pss_nil))
      (pss_cons (ps_if (PW.pt (pw_or (pt_cmpR op_ne (pe_meth (pv 1) cl_C me_own G_own (hr.mono (by omega)) b_own .nil pass0 (pa_cons (pv 4) pa_nil)) (pv 4) (nomark _)) (pw_or1 (pt_cmpR op_ne (pe_meth (pv 1) cl_C me_join G_join (hr.mono (by omega)) b_join .nil pass0 (pa_cons (pv 4) (pa_cons (pv 5) pa_nil))) (pe_call G_law_shared (hr.mono (by omega)) (by rfl) m_law_shared k_law_shared b_law_shared .nil pass0 (pa_cons (pv 4) (pa_cons (pv 5) pa_nil))) (nomark _))))) (pss_one (ps_ret pe_bl)) (pss_nil))
      (pss_cons (ps_if (PW.pt (pw_or (pt_cmpR op_ne (pe_meth (pv 1) cl_C me_matches G_matches (hr.mono (by omega)) b_matches .nil pass0 (pa_cons (pv 5) (pa_cons (pv 6) pa_nil))) (pe_call G_law_begins (hr.mono (by omega)) (by rfl) m_law_begins k_law_begins b_law_begins .nil pass0 (pa_cons (pv 5) (pa_cons (pv 6) pa_nil))) (nomark _)) (pw_or1 (pt_cmpR op_ne (pe_meth (pv 1) cl_C me_matches G_matches (hr.mono (by omega)) b_matches .nil pass0 (pa_cons (pv 5) (pa_cons (pv 4) pa_nil))) (pe_call G_law_begins (hr.mono (by omega)) (by rfl) m_law_begins k_law_begins b_law_begins .nil pass0 (pa_cons (pv 5) (pa_cons (pv 4) pa_nil))) (nomark _))))) (pss_one (ps_ret pe_bl)) (pss_nil))
      (Evl.pss_cut (ps_if (pt_cmpR op_ne (pe_meth (pv 1) cl_C me_consistent G_consistent (hr.mono (by omega)) b_consistent .nil pass0 (pa_cons (pv 4) (pa_cons (pv 6) pa_nil))) (pe_or (pe_call G_law_begins (hr.mono (by omega)) (by rfl) m_law_begins k_law_begins b_law_begins .nil pass0 (pa_cons (pv 4) (pa_cons (pv 6) pa_nil))) (pe_one (pe_call G_law_begins (hr.mono (by omega)) (by rfl) m_law_begins k_law_begins b_law_begins .nil pass0 (pa_cons (pv 6) (pa_cons (pv 4) pa_nil))))) (nomark _)) (pss_one (ps_ret pe_bl)) (pss_nil))
      (Evl.pss_cut (ps_if (pt_cmpR op_ne (pe_meth (pv 1) cl_C me_consistent G_consistent (hr.mono (by omega)) b_consistent .nil pass0 (pa_cons (pv 4) (pa_cons (pv 5) pa_nil))) (pe_or (pe_call G_law_begins (hr.mono (by omega)) (by rfl) m_law_begins k_law_begins b_law_begins .nil pass0 (pa_cons (pv 4) (pa_cons (pv 5) pa_nil))) (pe_one (pe_call G_law_begins (hr.mono (by omega)) (by rfl) m_law_begins k_law_begins b_law_begins .nil pass0 (pa_cons (pv 5) (pa_cons (pv 4) pa_nil))))) (nomark _)) (pss_one (ps_ret pe_bl)) (pss_nil))
      (pss_one (ps_if (pt_cmpR op_ne (pe_meth (pv 1) cl_C me_penalty G_penalty (hr.mono (by omega)) b_penalty .nil pass0 (pa_cons (pv 4) (pa_cons (pv 5) pa_nil))) (pe_op op_sub (pe_callB call_len_str (by rfl) m_len PySem.boot_len (pa_cons (pv 4) pa_nil)) (pe_callB call_len_str (by rfl) m_len PySem.boot_len (pa_cons (pe_call G_law_shared (hr.mono (by omega)) (by rfl) m_law_shared k_law_shared b_law_shared .nil pass0 (pa_cons (pv 4) (pa_cons (pv 5) pa_nil))) pa_nil))) (nomark _)) (pss_one (ps_ret pe_bl)) (pss_nil))))))))))
    (pss_cons (ps_setLc (i := 7) (own := [("_law_k", 8)]) rfl sc_law_right.nd rfl rfl (sw_true rfl rfl rfl (by decide +kernel)) (pi_range1 (by rfl) m_range (pa_cons (pe_call G_law_draw (hr.mono (by omega)) (by rfl) m_law_draw k_law_draw b_law_draw .nil pass0 (pa_cons (pv 0) (pa_cons pe_int pa_nil))) pa_nil)) (blkOk_by (N := n_law_right) (sc := defScope s_law_right) (by decide +kernel)) (fun _ _ _ _ _ => pg_name (i := 8) sc_law_right.nd rfl (.inl rfl)) (fun _ _ _ _ _ => pts_nil) (fun _ _ _ _ _ => (pe_call G_law_word (hr.mono (by omega)) (by rfl) m_law_word k_law_word b_law_word .nil pass0 (pa_cons (pv 0) (pa_cons (pv 2) pa_nil)))))
    (pss_one (ps_ret (pe_cmpR (op_eqS hr.units) (pe_callTy call_list_of (by rfl) m_list (by decide +kernel) (pa_cons (pe_meth (pv 1) cl_C me_sides G_sides (hr.mono (by omega)) b_sides .nil pass0 (pa_cons (pv 7) pa_nil)) pa_nil)) (pe_call G_law_halves (hr.mono (by omega)) (by rfl) m_law_halves k_law_halves b_law_halves .nil pass0 (pa_cons (pv 7) pa_nil)) (nomark _)))))))), ?_⟩
    refine fun m dx nm ndx hne => ?_
    have hma : m ≠ a := fun z => by
      rw [z, ha] at nm
      cases nm
    have hda : dx ≠ a := fun z => by
      rw [z, ha] at ndx
      cases ndx
    have k0 : Kp a H (upd (upd H dx (.own m)) m (.ins C dx [])) := fun b o _ e => by
      rw [upd_ne (ne_of_none e nm), upd_ne (ne_of_none e ndx)]
      exact e
    have m0 : (upd (upd H dx (.own m)) m (.ins C dx [])) m = some (.ins C dx []) := upd_same
    have a0 : (upd (upd H dx (.own m)) m (.ins C dx [])) a = some (.lst [.int x, .int c]) := by
      rw [upd_ne (Ne.symm hma), upd_ne (Ne.symm hda)]
      exact ha
    generalize upd (upd H dx (.own m)) m (.ins C dx []) = G0 at k0 m0 a0
    -- the signs
    refine ⟨_, rfl, by show 2 ≤ sizeLine; decide, fun p1 n1 => ⟨by show 4 ≤ sizeLine; decide, fun p2 n2 => ⟨by show 1 ≤ sizeLine; decide, fun p3 n3 => ⟨by show 5 ≤ sizeLine; decide, fun p4 n4 => ⟨by show 4 ≤ sizeLine; decide, fun l nl => ?_⟩⟩⟩⟩⟩
    have s1 := same_upd (o := .lst [V.str "a", V.str "b"]) n1
    have s2 := same_upd (o := .lst [V.str "a", V.str "A", V.str " ", V.str "-"]) n2
    have s3 := same_upd (o := .lst [V.str "x"]) n3
    have s4 := same_upd (o := .lst [V.str "a", V.str "b", V.str "\n", V.str "0", V.str "ab"]) n4
    have s5 := same_upd (o := .lst [V.ref p1, V.ref p2, V.ref p3, V.ref p4]) nl
    have u1 := (s2.trans (s3.trans (s4.trans s5))) _ _ upd_same
    have u2 := (s3.trans (s4.trans s5)) _ _ upd_same
    have u3 := (s4.trans s5) _ _ upd_same
    have u4 := s5 _ _ upd_same
    have sA := s1.trans (s2.trans (s3.trans (s4.trans s5)))
    generalize hG1 : upd _ l (.lst [V.ref p1, V.ref p2, V.ref p3, V.ref p4]) = G1 at sA u1 u2 u3 u4
    have hl : G1 l = some (.lst [V.ref p1, V.ref p2, V.ref p3, V.ref p4]) := by
      rw [← hG1]
      exact upd_same
    have a1 := sA _ _ a0
    have la : l ≠ a := fun z => by
      rw [z, a1] at hl
      cases hl
    refine ⟨a, l, x, c, _, rfl, a1, .inl (.inl hl), (fun x' c' => .inl (.inl ((Kp.set (o := .lst [.int x', .int c'])) _ _ la hl))), by show 0 < 4; decide, by show 4 ≤ 1000; decide, fun v x1 c1 hv => ?_⟩
    have g : ∃ (g : Addr) (zs : List Str), v = .ref g ∧ G1 g = some (.lst (zs.map V.str)) ∧ zs ≠ [] ∧ zs.length ≤ 10 ∧ ∀ z ∈ zs, z.length ≤ 2 := by
      rcases List.mem_cons.mp hv with rfl | hv
      · exact ⟨p1, ["a", "b"], rfl, u1, by simp, by decide, by decide +kernel⟩
      rcases List.mem_cons.mp hv with rfl | hv
      · exact ⟨p2, ["a", "A", " ", "-"], rfl, u2, by simp, by decide, by decide +kernel⟩
      rcases List.mem_cons.mp hv with rfl | hv
      · exact ⟨p3, ["x"], rfl, u3, by simp, by decide, by decide +kernel⟩
      rcases List.mem_cons.mp hv with rfl | hv
      · exact ⟨p4, ["a", "b", "\n", "0", "ab"], rfl, u4, by simp, by decide, by decide +kernel⟩
      · cases hv
    obtain ⟨g, zs, rfl, hg, hz, hz1, hz2⟩ := g
    have ga := word_ne a1 hg hz
    have k1 := (k0.trans (.same sA)).trans (Kp.set (o := .lst [.int x1, .int c1]))
    have m1 := (Kp.set (o := .lst [.int x1, .int c1])) _ _ hma (sA _ _ m0)
    have g1 := (Kp.set (o := .lst [.int x1, .int c1])) _ _ ga hg
    generalize hG : upd G1 a (.lst [.int x1, .int c1]) = G at k1 m1 g1
    have a2 : G a = some (.lst [.int x1, .int c1]) := by
      rw [← hG]
      exact upd_same
    refine ⟨_, rfl, by decide, by decide, for_range (n := 10) (fun _ σ H' => ∃ (v3 v4 v5 v6 v7 v8 : Option V) (x' c' : Int), σ = [some (.ref a), some (.ref m), some (.ref g), v3, v4, v5, v6, v7, v8] ∧
      Kp a H H' ∧ H' m = some (.ins C dx []) ∧ H' a = some (.lst [.int x', .int c']) ∧ H' g = some (.lst (zs.map V.str))) ⟨_, _, _, _, _, _, _, _, rfl, k1, m1, a2, g1⟩ ?_ ?_⟩
    · rintro i σ H1 _ ⟨v3, v4, v5, v6, v7, v8, x', c', rfl, kA, mA, aA, gA⟩
      refine ⟨_, rfl, _, rfl, a, g, x', c', zs, rfl, aA, gA, hz, hz1, hz2, fun H2 w1 x2 c2 kB aB l1 => ?_⟩
      have gB := kB _ _ ga gA
      refine ⟨_, rfl, _, rfl, a, g, x2, c2, zs, rfl, aB, gB, hz, hz1, hz2, fun H3 w2 x3 c3 kC aC l2 => ?_⟩
      have gC := kC _ _ ga gB
      refine ⟨_, rfl, _, rfl, a, g, x3, c3, zs, rfl, aC, gC, hz, hz1, hz2, fun H4 w3 x4 c4 kD aD l3 => ⟨_, _, _, rfl, ?_⟩⟩
      have gD := kD _ _ ga gC
      have mD := kD _ _ hma (kC _ _ hma (kB _ _ hma mA))
      have kE := ((kA.trans kB).trans kC).trans kD
      refine ⟨fun σ' H' => ∃ (w5 : Str) (x' c' : Int), σ' = [some (.ref a), some (.ref m), some (.ref g), some (.int (0 + (i : Int))), some (.str w1), some (.str w5), some (.str w3), v7, v8] ∧ w5.length ≤ 24 ∧
        Kp a H H' ∧ H' m = some (.ins C dx []) ∧ H' a = some (.lst [.int x', .int c']) ∧ H' g = some (.lst (zs.map V.str)), ?_, ?_⟩
      · refine ⟨_, rfl, a, x4, c4, 3, rfl, aD, by decide, .of (k := 2) (by decide) (by decide), fun r x7 c7 _ _ => ⟨rfl, _, rfl, ite2 (fun _ => ?_) (fun _ => ?_)⟩⟩
        · refine ⟨_, rfl, _, rfl, w1, w2, rfl, rfl, Nat.le_of_lt (small1000 (by omega)), w1 ++ w2, x7, c7, rfl, ?_, kE.trans Kp.set, Kp.set _ _ hma mD, upd_same, Kp.set _ _ ga gD⟩
          rw [len_cs, cs_add, List.length_append, ← len_cs, ← len_cs]
          omega
        · exact ⟨w2, x7, c7, rfl, by omega, kE.trans Kp.set, Kp.set _ _ hma mD, upd_same, Kp.set _ _ ga gD⟩
      · rintro σ' H5 ⟨w5, x5, c5, rfl, l5, kH, mH, aH, gH⟩
        refine ⟨_, rfl, m, dx, [], rfl, mH, rfl, _, rfl, m, _, rfl, _, rfl, rfl, _, rfl, ite2 (fun e => absurd e (by simp)) (fun _ => ?_)⟩
        refine ⟨_, rfl, m, dx, [], rfl, mH, rfl, _, rfl, _, rfl, m, w1, w5, rfl, by omega, by omega, _, rfl, _, rfl, w1, w5, rfl, by omega, by omega, rfl, _, rfl, ite2 (fun e => absurd e (by simp)) (fun _ => ?_)⟩
        refine ⟨_, rfl, m, dx, [], rfl, mH, rfl, _, rfl, _, rfl, m, w5, w3, rfl, _, rfl, _, rfl, w5, w3, rfl, by omega, by omega, fun H6 s6 => ⟨rfl, _, rfl, ite2 (fun e => absurd e (by simp)) (fun _ => ?_)⟩⟩
        have m6 := s6 _ _ mH
        refine ⟨_, rfl, m, dx, [], rfl, m6, rfl, _, rfl, _, rfl, m, w5, w1, rfl, _, rfl, _, rfl, w5, w1, rfl, by omega, by omega, fun H7 s7 => ⟨rfl, _, rfl, ite2 (fun e => absurd e (by simp)) (fun _ => ?_)⟩⟩
        have s67 := s6.trans s7
        have m7 := s67 _ _ mH
        refine ⟨fun σ' H' => σ' = [some (.ref a), some (.ref m), some (.ref g), some (.int (0 + (i : Int))), some (.str w1), some (.str w5), some (.str w3), v7, v8] ∧ Same H5 H', ?_, ?_⟩
        · refine ⟨_, rfl, m, dx, [], rfl, m7, rfl, _, rfl, _, rfl, m, w1, w3, rfl, ?_⟩
          refine ⟨_, rfl, _, rfl, w1, w3, rfl, by omega, by omega, fun H8 s8 => ⟨_, rfl, ite2 (fun e => ?_) (fun e => ?_)⟩⟩
          · exact ⟨rfl, _, rfl, ite2 (fun e2 => absurd e2 (by simp [e])) (fun _ => ⟨rfl, s67.trans s8⟩)⟩
          · exact ⟨_, rfl, _, rfl, w3, w1, rfl, by omega, by omega, fun H9 s9 => ⟨rfl, _, rfl, ite2 (fun e2 => absurd e2 (by simp [e])) (fun _ => ⟨rfl, s67.trans (s8.trans s9)⟩)⟩⟩
        rintro σ'' Ha ⟨rfl, sa⟩
        refine ⟨fun σ' H' => σ' = [some (.ref a), some (.ref m), some (.ref g), some (.int (0 + (i : Int))), some (.str w1), some (.str w5), some (.str w3), v7, v8] ∧ Same H5 H', ?_, ?_⟩
        · refine ⟨_, rfl, m, dx, [], rfl, sa _ _ mH, rfl, _, rfl, _, rfl, m, w1, w5, rfl, ?_⟩
          refine ⟨_, rfl, _, rfl, w1, w5, rfl, by omega, by omega, fun H8 s8 => ⟨_, rfl, ite2 (fun e => ?_) (fun e => ?_)⟩⟩
          · exact ⟨rfl, _, rfl, ite2 (fun e2 => absurd e2 (by simp [e])) (fun _ => ⟨rfl, sa.trans s8⟩)⟩
          · exact ⟨_, rfl, _, rfl, w5, w1, rfl, by omega, by omega, fun H9 s9 => ⟨rfl, _, rfl, ite2 (fun e2 => absurd e2 (by simp [e])) (fun _ => ⟨rfl, sa.trans (s8.trans s9)⟩)⟩⟩
        rintro σ'' Hb ⟨rfl, sb⟩
        have lc := com_len w1 w5
        refine ⟨_, rfl, m, dx, [], rfl, sb _ _ mH, rfl, _, rfl, _, rfl, m, w1, w5, rfl, by omega, by omega, ?_⟩
        refine ⟨_, rfl, _, rfl, Nat.le_of_lt (small1000 (by omega)), _, rfl, _, rfl, w1, w5, rfl, by omega, by omega, _, rfl, Nat.le_of_lt (small1000 (by omega)), _, _, rfl, rfl, rfl, _, rfl, ite2 (fun e => absurd e (by simp)) (fun _ => ?_)⟩
        exact ⟨_, _, _, _, _, _, _, _, rfl, kH.trans (.same sb), sb _ _ mH, sb _ _ aH, sb _ _ gH⟩
    · rintro σ H1 ⟨v3, v4, v5, v6, v7, v8, x', c', rfl, kA, mA, aA, gA⟩
      refine ⟨_, rfl, a, x', c', 20, rfl, aA, by decide, .of (k := 5) (by decide) (by decide), fun r x2 c2 r0 r1 => ⟨_, rfl, by omega, by omega, fun D nD => ?_⟩⟩
      obtain ⟨j, rfl⟩ := Int.eq_ofNat_of_zero_le r0
      have kB := kA.trans (Kp.set (o := .lst [.int x2, .int c2]))
      have mB := (Kp.set (o := .lst [.int x2, .int c2])) _ _ hma mA
      have gB := (Kp.set (o := .lst [.int x2, .int c2])) _ _ ga gA
      have aB : (upd H1 a (.lst [.int x2, .int c2])) a = some (.lst [.int x2, .int c2]) := upd_same
      generalize upd H1 a (.lst [.int x2, .int c2]) = G2 at nD kB mB aB gB
      rw [Int.toNat_natCast]
      have Da : D ≠ a := fun z => by
        rw [z, aB] at nD
        cases nD
      refine lc_range (lo := 0) (n := j) (fun t H' => ∃ (ws : List Str) (x' c' : Int), H' D = some (.lst (ws.map V.str)) ∧ ws.length = t ∧ Kp a G2 H' ∧ H' a = some (.lst [.int x', .int c'])) ⟨[], x2, c2, upd_same, rfl, .same (same_upd nD), same_upd nD _ _ aB⟩ ?_ ?_
      · rintro t H2 ht ⟨ws, x3, c3, hD, hl2, kC, aC⟩
        refine ⟨rfl, _, rfl, _, rfl, a, g, x3, c3, zs, rfl, aC, kC _ _ ga gB, hz, hz1, hz2, fun H3 z x4 c4 kD aD lz => ?_⟩
        refine ⟨_, kD _ _ Da hD, by rw [List.length_map]; exact small1000 (by omega), ws ++ [z], x4, c4, ?_, ?_, ?_, ?_⟩
        · rw [upd_same, List.map_append]
          rfl
        · rw [List.length_append, hl2]
          rfl
        · exact fun b o nb e => by
            rw [upd_ne (ne_of_none e nD)]
            exact kD _ _ nb (kC _ _ nb e)
        · rw [upd_ne (Ne.symm Da)]
          exact aD
      · rintro H2 ⟨ws, x3, c3, hD, hl2, kC, aC⟩
        have mC := kC _ _ hma mB
        have oks : ∀ v ∈ SL.halvesL (WD.ltS ws) ws.length, okV v := fun v hv => by
          obtain ⟨i, _, rfl⟩ := List.mem_map.mp hv
          exact okV_int _
        refine ⟨_, rfl, m, dx, [], rfl, mC, rfl, _, rfl, m, D, ws, rfl, .inl (.inl hD), by omega, SL.Tabs.kp hT ha (kB.trans kC), fun t H3 e1 t1 ht => ⟨t, _, rfl, .inl (.inl (.inl ht)), fun l3 nl3 => ?_⟩⟩
        have e2 := e1.trans (SL.ExtN.of_same (same_upd (o := .lst (SL.halvesL (WD.ltS ws) ws.length)) nl3))
        have t2 := SL.Tabs.same t1 (same_upd (o := .lst (SL.halvesL (WD.ltS ws) ws.length)) nl3)
        have h3 : (upd H3 l3 (.lst (SL.halvesL (WD.ltS ws) ws.length))) l3 = some (.lst (SL.halvesL (WD.ltS ws) ws.length)) := upd_same
        generalize upd H3 l3 (.lst (SL.halvesL (WD.ltS ws) ws.length)) = G3 at e2 t2 h3
        refine ⟨_, rfl, D, ws, rfl, .inl (.inl (e2 _ _ hD fun _ z => by cases z)), by omega, fun p H5 s5 hp => ?_⟩
        exact ⟨l3, p, _, rfl, rfl, .inl (.inl (s5 _ _ h3)), .inl (.inl hp), oks, q _ ((SL.KpN.of (kB.trans kC)).trans (SL.KpN.ext (e2.trans (SL.ExtN.of_same s5)))) (SL.Tabs.same t2 s5)⟩
end
end K14
set_option Elab.async false
set_option linter.all false
set_option maxRecDepth 100000
set_option maxHeartbeats 2000000
namespace K14
open PySem PySem.Spec PyProof.Rows L2 CM LamX WD
section
variable {P : Program} {w : World} {K : PySem.W.Frag} {mg : Str → Option Value} {base : Heap}
theorem cut_mem {xs : List V} {lo hi : Option Int} {v : V} (h : v ∈ cutV xs lo hi) : v ∈ xs := List.mem_of_mem_drop (List.mem_of_mem_take h)
def spLaw (K : PySem.W.Frag) : Sp := fun vs H Q _ => ∃ (a : Addr) (ns : List Int), vs = [.ref a] ∧ SqL K H a (ns.map V.int) ∧ ns.length ≤ 63 ∧ Tabs (TT K) H ∧ ∀ H', Q (.bl true) H'
theorem ok_law {f : Addr} {fd : FuncData} {k : Nat} (F : FnP K "law" "law" s_law f fd) (C_well : Cal P w K mg base CX0 "_law_well" k ["_law_cell"] spWell) (C_right : Cal P w K mg base CX0 "_law_right" k ["_law_well_here"] (spRight K)) :
    FnOk P w K mg base CX0 (k + 1) f fd ["_law_script"] (spLaw K) := by
  obtain ⟨f_law_well, fd_law_well, G_law_well, b_law_well, m_law_well, k_law_well⟩ := C_well
  obtain ⟨f_law_right, fd_law_right, G_law_right, b_law_right, m_law_right, k_law_right⟩ := C_right
  refine F.ok sc_law (fun vs H Q E h => ?_) (fun cdv A outer s H vs Q E hr h => ?_)
  · obtain ⟨a, ns, rfl, _⟩ := h
    rfl
  · obtain ⟨a, ns, rfl, hS, hlen, hT, q⟩ := h
    refine ⟨_, PSs.nox (pss_cons (ps_for PassesOwn.never rfl (pi_list (pe_op op_cat (pe_slice sl_list (pv 0) po_none (po_some pe_int)) (pe_lst (pa_cons pe_int pa_nil)))) (pg_name (i := 1) sc_law.nd rfl (.inl rfl))
      (pss_one (ps_if (pt_not (pt_val (pe_call G_law_right (hr.mono (by omega)) (by rfl) m_law_right k_law_right b_law_right .nil pass0 (pa_cons (pe_call G_law_well (hr.mono (by omega)) (by rfl) m_law_well k_law_well b_law_well .nil pass0 (pa_cons (pv 1) pa_nil)) pa_nil)))) (pss_one (ps_ret pe_bl)) (pss_nil))))
    (pss_one (ps_ret pe_bl))), ?_⟩
    refine ⟨_, rfl, 4, rfl, a, _, rfl, hS, fun c nc => ⟨by show 1 ≤ sizeLine; decide, fun d nd => ?_⟩⟩
    have hc : (upd (upd H c (.lst (cutV (ns.map V.int) none (some 4)))) d (.lst [V.int 0])) c = some (.lst (cutV (ns.map V.int) none (some 4))) := by
      rw [upd_ne (ne_of_none upd_same nd), upd_same]
    have hl : (cutV (ns.map V.int) none (some 4)).length ≤ 63 := Nat.le_trans (cutV_length ..) (by rw [List.length_map]; exact hlen)
    refine ⟨c, d, _, _, rfl, rfl, hc, upd_same, Nat.le_of_lt (small1000 (by rw [List.length_singleton]; omega)), fun e ne => ?_⟩
    generalize hX : cutV (ns.map V.int) none (some 4) ++ [V.int 0] = X
    have hXi : ∀ v ∈ X, ∃ z : Int, v = .int z := fun v hv => by
      rw [← hX] at hv
      rcases List.mem_append.mp hv with h1 | h1
      · obtain ⟨z, _, rfl⟩ := List.mem_map.mp (cut_mem h1)
        exact ⟨z, rfl⟩
      · exact ⟨0, List.mem_singleton.mp h1⟩
    have hT1 := SL.Tabs.same hT ((same_upd (o := .lst (cutV (ns.map V.int) none (some 4))) nc).trans (same_upd (o := .lst [V.int 0]) nd))
    generalize upd (upd H c (.lst (cutV (ns.map V.int) none (some 4)))) d (.lst [V.int 0]) = H1 at ne hT1
    refine ⟨e, rfl, ⟨X, .inl (.inl upd_same)⟩, for_list (K := K) (a := e) (xs := X) (fun i σ H' => ∃ v1 : Option V, σ = [some (.ref a), v1] ∧ H' e = some (.lst X) ∧ Tabs (TT K) H')
      ⟨none, rfl, upd_same, SL.Tabs.same hT1 (same_upd ne)⟩ (fun i σ H' _ ⟨_, _, he, _⟩ => .inl (.inl he)) ?_ ?_⟩
    · rintro i y σ H2 hi ⟨v1, rfl, he, hTi⟩
      obtain ⟨z, rfl⟩ := hXi y (List.mem_of_getElem? hi)
      refine ⟨_, rfl, z, rfl, fun p np => ⟨p, z, 0, rfl, upd_same, SL.Tabs.same hTi (same_upd np), fun H3 kp hT3 => ⟨_, rfl, ite2 (fun e => absurd e (by decide)) (fun _ => ⟨_, rfl, ?_⟩)⟩⟩⟩
      have hpe : e ≠ p := ne_of_none he np
      exact ⟨kp _ _ hpe (fun _ z => by cases z) (same_upd np _ _ he), hT3⟩
    · rintro σ H2 ⟨v1, rfl, he, hTi⟩
      exact q _
end
end K14
set_option Elab.async false
set_option linter.all false
set_option maxRecDepth 100000
set_option maxHeartbeats 2000000
namespace K14
open PySem PySem.Spec PyProof.Rows L2 CM LamX WD
section
variable {P : Program} {w : World} {K : PySem.W.Frag} {mg : Str → Option Value} {base : Heap}
/-! ### the methods -/
theorem ok_own {f : Addr} {fd : FuncData} {k : Nat} (F : FnP K "own" "Stems.own" s_Stems_own f fd) : FnOk P w K mg base CX0 (k + 1) f fd ["self", "key"] spOwn := by
  refine F.ok sc_Stems_own (fun vs H Q E h => ?_) (fun cdv A outer s H vs Q E hr h => ?_)
  · obtain ⟨m, v, rfl, _⟩ := h
    rfl
  · obtain ⟨m, v, rfl, q⟩ := h
    exact ⟨_, PSs.nox (pss_one (ps_ret (pv 1))), _, rfl, q⟩
theorem ok_join {f : Addr} {fd : FuncData} {k : Nat} (F : FnP K "join" "Stems.join" s_Stems_join f fd) (C_common_stem : Cal P w K mg base CX0 "common_stem" k ["one", "other"] spShared) : FnOk P w K mg base CX0 (k + 1) f fd ["self", "one", "other"] spJoin := by
  obtain ⟨f_common_stem, fd_common_stem, G_common_stem, b_common_stem, m_common_stem, k_common_stem⟩ := C_common_stem
  refine F.ok sc_Stems_join (fun vs H Q E h => ?_) (fun cdv A outer s H vs Q E hr h => ?_)
  · obtain ⟨m, a, b, rfl, _⟩ := h
    rfl
  · obtain ⟨m, a, b, rfl, la, lb, q⟩ := h
    refine ⟨_, PSs.nox (pss_one (ps_ret (pe_call G_common_stem (hr.mono (by omega)) (by rfl) m_common_stem k_common_stem b_common_stem .nil pass0 (pa_cons (pv 1) (pa_cons (pv 2) pa_nil))))), ?_⟩
    exact ⟨_, rfl, _, rfl, a, b, rfl, la, lb, q⟩
theorem ok_consistent {f : Addr} {fd : FuncData} {k : Nat} (F : FnP K "consistent" "Stems.consistent" s_Stems_consistent f fd) : FnOk P w K mg base CX0 (k + 1) f fd ["self", "label", "question"] spCons := by
  refine F.ok sc_Stems_consistent (fun vs H Q E h => ?_) (fun cdv A outer s H vs Q E hr h => ?_)
  · obtain ⟨m, a, b, rfl, _⟩ := h
    rfl
  · obtain ⟨m, a, b, rfl, q⟩ := h
    refine ⟨_, PSs.nox (pss_one (ps_ret (pe_or (pe_m1 PySem.F.slot_str_startswith PySem.F.type_str_startswith mt_startswith (pv 1) (pv 2)) (pe_one (pe_m1 PySem.F.slot_str_startswith PySem.F.type_str_startswith mt_startswith (pv 2) (pv 1)))))), ?_⟩
    refine ⟨_, rfl, ⟨_, rfl⟩, _, rfl, a, b, rfl, rfl, _, rfl, ?_⟩
    rw [starts]
    refine ite2 (fun e => ?_) (fun e => ?_)
    · rw [e, Bool.true_or] at q
      exact q
    · refine ⟨_, rfl, ⟨_, rfl⟩, _, rfl, b, a, rfl, rfl, ?_⟩
      have e : isPre b a = false := by simpa using e
      rw [starts]
      rw [e, Bool.false_or] at q
      exact q
theorem ok_matches {f : Addr} {fd : FuncData} {k : Nat} (F : FnP K "matches" "Stems.matches" s_Stems_matches f fd) : FnOk P w K mg base CX0 (k + 1) f fd ["self", "key", "question"] spMat := by
  refine F.ok sc_Stems_matches (fun vs H Q E h => ?_) (fun cdv A outer s H vs Q E hr h => ?_)
  · obtain ⟨m, a, b, rfl, _⟩ := h
    rfl
  · obtain ⟨m, a, b, rfl, q⟩ := h
    refine ⟨_, PSs.nox (pss_one (ps_ret (pe_m1 PySem.F.slot_str_startswith PySem.F.type_str_startswith mt_startswith (pv 1) (pv 2)))), ?_⟩
    refine ⟨_, rfl, ⟨_, rfl⟩, _, rfl, a, b, rfl, rfl, ?_⟩
    rw [starts]
    exact q
theorem ok_penalty {f : Addr} {fd : FuncData} {k : Nat} (F : FnP K "penalty" "Stems.penalty" s_Stems_penalty f fd) (m_len : mg "len" = none) (C_common_stem : Cal P w K mg base CX0 "common_stem" k ["one", "other"] spShared) : FnOk P w K mg base CX0 (k + 1) f fd ["self", "label", "key"] spPen := by
  obtain ⟨f_common_stem, fd_common_stem, G_common_stem, b_common_stem, m_common_stem, k_common_stem⟩ := C_common_stem
  refine F.ok sc_Stems_penalty (fun vs H Q E h => ?_) (fun cdv A outer s H vs Q E hr h => ?_)
  · obtain ⟨m, a, b, rfl, _⟩ := h
    rfl
  · obtain ⟨m, a, b, rfl, la, lb, q⟩ := h
    refine ⟨_, PSs.nox (pss_one (ps_ret (pe_op op_sub (pe_callB call_len_str (by rfl) m_len PySem.boot_len (pa_cons (pv 1) pa_nil)) (pe_callB call_len_str (by rfl) m_len PySem.boot_len (pa_cons (pe_call G_common_stem (hr.mono (by omega)) (by rfl) m_common_stem k_common_stem b_common_stem .nil pass0 (pa_cons (pv 1) (pa_cons (pv 2) pa_nil))) pa_nil))))), ?_⟩
    have lc := com_len a b
    exact ⟨_, rfl, _, rfl, Nat.le_of_lt (small1000 (by omega)), _, rfl, _, rfl, a, b, rfl, la, lb, _, rfl, Nat.le_of_lt (small1000 (by omega)), _, _, rfl, rfl, q⟩
theorem ok_sides {f : Addr} {fd : FuncData} {k : Nat} (F : FnP K "sides" "Stems.sides" s_Stems_sides f fd) (C_halves_by : Cal P w K mg base CX0 "halves_by" k ["marks"] (spHB K)) : FnOk P w K mg base CX0 (k + 1) f fd ["self", "labels"] (spSides K) := by
  obtain ⟨f_halves_by, fd_halves_by, G_halves_by, b_halves_by, m_halves_by, k_halves_by⟩ := C_halves_by
  refine F.ok sc_Stems_sides (fun vs H Q E h => ?_) (fun cdv A outer s H vs Q E hr h => ?_)
  · obtain ⟨m, l, zs, rfl, _⟩ := h
    rfl
  · obtain ⟨m, l, zs, rfl, hl, hn, hT, q⟩ := h
    refine ⟨_, PSs.nox (pss_one (ps_ret (pe_call G_halves_by (hr.mono (by omega)) (by rfl) m_halves_by k_halves_by b_halves_by .nil pass0 (pa_cons (pv 1) pa_nil)))), ?_⟩
    exact ⟨_, rfl, l, zs, rfl, hl, hn, hT, fun R H5 e5 t5 hR => q R H5 e5 t5 hR⟩
end
end K14
set_option Elab.async false
set_option linter.all false
set_option maxRecDepth 100000
set_option maxHeartbeats 2000000
namespace K14
open PySem PySem.Spec PyProof.Rows L2 CM LamX WD
section
variable {P : Program} {w : World} {K : PySem.W.Frag} {mg : Str → Option Value} {base : Heap}
/-! ### the head -/
def d_halves_by : He.DefD := ⟨("halves_by", none), "halves_by", "halves_by", defArgs s_halves_by, defBody s_halves_by, defScope s_halves_by, [], []⟩
def d_Stems_own : He.DefD := ⟨("Stems", some "own"), "own", "Stems.own", defArgs s_Stems_own, defBody s_Stems_own, defScope s_Stems_own, [], []⟩
def d_Stems_join : He.DefD := ⟨("Stems", some "join"), "join", "Stems.join", defArgs s_Stems_join, defBody s_Stems_join, defScope s_Stems_join, [], []⟩
def d_Stems_consistent : He.DefD := ⟨("Stems", some "consistent"), "consistent", "Stems.consistent", defArgs s_Stems_consistent, defBody s_Stems_consistent, defScope s_Stems_consistent, [], []⟩
def d_Stems_matches : He.DefD := ⟨("Stems", some "matches"), "matches", "Stems.matches", defArgs s_Stems_matches, defBody s_Stems_matches, defScope s_Stems_matches, [], []⟩
def d_Stems_penalty : He.DefD := ⟨("Stems", some "penalty"), "penalty", "Stems.penalty", defArgs s_Stems_penalty, defBody s_Stems_penalty, defScope s_Stems_penalty, [], []⟩
def d_Stems_sides : He.DefD := ⟨("Stems", some "sides"), "sides", "Stems.sides", defArgs s_Stems_sides, defBody s_Stems_sides, defScope s_Stems_sides, [], []⟩
def d_common_stem : He.DefD := ⟨("common_stem", none), "common_stem", "common_stem", defArgs s_common_stem, defBody s_common_stem, defScope s_common_stem, [], []⟩
def d_law_well : He.DefD := ⟨("_law_well", none), "_law_well", "_law_well", defArgs s_law_well, defBody s_law_well, defScope s_law_well, [], []⟩
def d_law_draw : He.DefD := ⟨("_law_draw", none), "_law_draw", "_law_draw", defArgs s_law_draw, defBody s_law_draw, defScope s_law_draw, [], []⟩
def d_law_one : He.DefD := ⟨("_law_one", none), "_law_one", "_law_one", defArgs s_law_one, defBody s_law_one, defScope s_law_one, [], []⟩
def d_law_word : He.DefD := ⟨("_law_word", none), "_law_word", "_law_word", defArgs s_law_word, defBody s_law_word, defScope s_law_word, [], []⟩
def d_law_begins : He.DefD := ⟨("_law_begins", none), "_law_begins", "_law_begins", defArgs s_law_begins, defBody s_law_begins, defScope s_law_begins, [], []⟩
def d_law_shared : He.DefD := ⟨("_law_shared", none), "_law_shared", "_law_shared", defArgs s_law_shared, defBody s_law_shared, defScope s_law_shared, [], []⟩
def d_law_halves : He.DefD := ⟨("_law_halves", none), "_law_halves", "_law_halves", defArgs s_law_halves, defBody s_law_halves, defScope s_law_halves, [], []⟩
def d_law_right : He.DefD := ⟨("_law_right", none), "_law_right", "_law_right", defArgs s_law_right, defBody s_law_right, defScope s_law_right, [], []⟩
def d_law : He.DefD := ⟨("law", none), "law", "law", defArgs s_law, defBody s_law, defScope s_law, [], []⟩
def fn : List He.DefD := [d_halves_by, d_Stems_own, d_Stems_join, d_Stems_consistent, d_Stems_matches, d_Stems_penalty, d_Stems_sides, d_common_stem, d_law_well, d_law_draw, d_law_one, d_law_word, d_law_begins, d_law_shared, d_law_halves, d_law_right, d_law]
def fa : List He.Fa := [.glo "halves_by", .glo "common_stem", .glo "_law_well", .glo "_law_draw", .glo "_law_one", .glo "_law_word", .glo "_law_begins", .glo "_law_shared", .glo "_law_halves", .glo "_law_right", .glo "law", .glo "Stems", .cls "Stems", .meth "Stems" "own", .meth "Stems" "join", .meth "Stems" "consistent", .meth "Stems" "matches", .meth "Stems" "penalty", .meth "Stems" "sides", .free "int", .free "len", .free "range", .free "min", .free "list", .free "enumerate", .free "sorted"]
def loose : List PySem.Str := ["GroveError", "NotGiven", "halves_by", "Kind", "Stems", "common_stem", "_law_well", "_law_draw", "_law_one", "_law_word", "_law_begins", "_law_shared", "_law_halves", "_law_right"]
def ex (K : PySem.W.Frag) : Bool := mkoB K (He.ga K "Stems") && true
abbrev R : PySem.W.OpenRow := PySem.W.OpenLaw.row PySem.Challenge.rw_kindgrove_k14_beginnings
def tf : List He.Defn := [("halves_by", none)]
abbrev hk : PySem.W.Hook := He.hookX 6 fa fn [] tf ex
def ob (s : PySem.W.SharedT) : He.AlX := He.obsX 6 fa fn [] tf ex (HandSHeadRun.getT s)
theorem ob_eq (s : PySem.W.SharedT) : ob s = hk.obs s.abs := He.obsX_eq (HandSHeadRun.getT_eq s)
theorem run (w : World) : HandSHeadRun.RunEq R (PySem.W.view R.prog [19]) hk ob 6000 loose w := by
  intro os
  kernel_rfl
theorem glo {h : Heap} (X : K.In h) (G : h.Ns mainGlobals mg) (c : He.SaysD fa fn K) {x : Str} (hx : He.Fa.glo x ∈ fa) : mg x = some (.ref (He.ga K x)) := He.glo_ok X G (c.facts hx)
theorem fre {h : Heap} (X : K.In h) (G : h.Ns mainGlobals mg) (c : He.SaysD fa fn K) {x : Str} (hx : He.Fa.free x ∈ fa) : mg x = none := He.free_ok X G (c.facts hx)
theorem cal {h : Heap} (X : K.In h) (G : h.Ns mainGlobals mg) (c : He.SaysD fa fn K) {x qn : Str} {st : Stmt} {fd : FuncData} {k : Nat} {ps : List Str} {sp : Sp} (F : FnP K x qn st (He.ga K x) fd)
    (hx : He.Fa.glo x ∈ fa) (ok : FnOk P w K mg base CX0 k (He.ga K x) fd ps sp)
    (hb : ∀ (kV doc pm : Value) (an : Option Addr) (cdv ct : Value) (us : List Value), us.length = ps.length → bindArgs (PySem.W.fnOf x qn (defArgs st) (defBody st) (defScope st) .none kV doc pm an cdv ct) ⟨us, []⟩ = pure (ps.zip us)) : Cal P w K mg base CX0 x k ps sp :=
  ⟨He.ga K x, fd, ok, F.bindsN hb, glo X G c hx, F.kp⟩
theorem calm (c : He.SaysD fa fn K) {C m qn : Str} {st : Stmt} {fd : FuncData} {k : Nat} {ps : List Str} {sp : Sp} (F : FnP K m qn st (He.ma K (He.ga K C) m) fd)
    (hx : He.Fa.meth C m ∈ fa) (ok : FnOk P w K mg base CX0 k (He.ma K (He.ga K C) m) fd ps sp)
    (hb : ∀ (kV doc pm : Value) (an : Option Addr) (cdv ct : Value) (us : List Value), us.length = ps.length → bindArgs (PySem.W.fnOf m qn (defArgs st) (defBody st) (defScope st) .none kV doc pm an cdv ct) ⟨us, []⟩ = pure (ps.zip us)) : CalM P w K mg base CX0 (He.ga K C) m k ps sp :=
  ⟨He.ma K (He.ga K C) m, fd, ok, F.bindsN hb, He.meth_ok (c.facts hx)⟩
theorem tabs_of {H : Hp} (h : ∀ p ∈ tf.map (He.cT K), H p.2 = some (.tbl #[])) : Tabs (TT K) H := fun p hp => by
  rw [List.mem_singleton.mp hp]
  exact TabS.nil (h _ (List.mem_map.mpr ⟨("halves_by", none), List.mem_singleton.mpr rfl, rfl⟩))
theorem facts {h : Heap} {f : Addr} (X : K.In h) (G : h.Ns mainGlobals mg) (hfa : mg ("law" : Str) = some (.ref f)) (c : He.SaysD fa fn K) (m : ex K = true) :
    ∃ fd : FuncData, (∀ (s : Shared) (v : Value), BindsTo s fd ⟨[v], []⟩ [("_law_script", v)]) ∧ ∀ base : Heap, K.In base → base.Ns mainGlobals mg → (∀ p ∈ tf.map (He.cT K), TabB base mg p.1 p.2) → FnOk P w K mg base CX0 9 f fd ["_law_script"] (spLaw K) := by
  obtain ⟨fd_law, F_law⟩ : ∃ fd, FnP K "law" "law" s_law (He.ga K "law") fd := c.def_ 16 (d := d_law) rfl
  obtain ⟨fd_law_well, F_law_well⟩ : ∃ fd, FnP K "_law_well" "_law_well" s_law_well (He.ga K "_law_well") fd := c.def_ 8 (d := d_law_well) rfl
  obtain ⟨fd_law_draw, F_law_draw⟩ : ∃ fd, FnP K "_law_draw" "_law_draw" s_law_draw (He.ga K "_law_draw") fd := c.def_ 9 (d := d_law_draw) rfl
  obtain ⟨fd_law_one, F_law_one⟩ : ∃ fd, FnP K "_law_one" "_law_one" s_law_one (He.ga K "_law_one") fd := c.def_ 10 (d := d_law_one) rfl
  obtain ⟨fd_law_word, F_law_word⟩ : ∃ fd, FnP K "_law_word" "_law_word" s_law_word (He.ga K "_law_word") fd := c.def_ 11 (d := d_law_word) rfl
  obtain ⟨fd_law_begins, F_law_begins⟩ : ∃ fd, FnP K "_law_begins" "_law_begins" s_law_begins (He.ga K "_law_begins") fd := c.def_ 12 (d := d_law_begins) rfl
  obtain ⟨fd_law_shared, F_law_shared⟩ : ∃ fd, FnP K "_law_shared" "_law_shared" s_law_shared (He.ga K "_law_shared") fd := c.def_ 13 (d := d_law_shared) rfl
  obtain ⟨fd_law_halves, F_law_halves⟩ : ∃ fd, FnP K "_law_halves" "_law_halves" s_law_halves (He.ga K "_law_halves") fd := c.def_ 14 (d := d_law_halves) rfl
  obtain ⟨fd_law_right, F_law_right⟩ : ∃ fd, FnP K "_law_right" "_law_right" s_law_right (He.ga K "_law_right") fd := c.def_ 15 (d := d_law_right) rfl
  obtain ⟨fd_Stems_own, F_Stems_own⟩ : ∃ fd, FnP K "own" "Stems.own" s_Stems_own (He.ma K (He.ga K "Stems") "own") fd := c.def_ 1 (d := d_Stems_own) rfl
  obtain ⟨fd_Stems_join, F_Stems_join⟩ : ∃ fd, FnP K "join" "Stems.join" s_Stems_join (He.ma K (He.ga K "Stems") "join") fd := c.def_ 2 (d := d_Stems_join) rfl
  obtain ⟨fd_Stems_consistent, F_Stems_consistent⟩ : ∃ fd, FnP K "consistent" "Stems.consistent" s_Stems_consistent (He.ma K (He.ga K "Stems") "consistent") fd := c.def_ 3 (d := d_Stems_consistent) rfl
  obtain ⟨fd_Stems_matches, F_Stems_matches⟩ : ∃ fd, FnP K "matches" "Stems.matches" s_Stems_matches (He.ma K (He.ga K "Stems") "matches") fd := c.def_ 4 (d := d_Stems_matches) rfl
  obtain ⟨fd_Stems_penalty, F_Stems_penalty⟩ : ∃ fd, FnP K "penalty" "Stems.penalty" s_Stems_penalty (He.ma K (He.ga K "Stems") "penalty") fd := c.def_ 5 (d := d_Stems_penalty) rfl
  obtain ⟨fd_Stems_sides, F_Stems_sides⟩ : ∃ fd, FnP K "sides" "Stems.sides" s_Stems_sides (He.ma K (He.ga K "Stems") "sides") fd := c.def_ 6 (d := d_Stems_sides) rfl
  obtain ⟨fd_common_stem, F_common_stem⟩ : ∃ fd, FnP K "common_stem" "common_stem" s_common_stem (He.ga K "common_stem") fd := c.def_ 7 (d := d_common_stem) rfl
  obtain ⟨fd_halves_by, F_halves_by⟩ : ∃ fd, FnP K "halves_by" "halves_by" s_halves_by (He.ga K "halves_by") fd := c.def_ 0 (d := d_halves_by) rfl
  have e := hfa.symm.trans (glo X G c (x := "law") (List.mem_of_getElem? (i := 10) rfl))
  cases e
  have b := FunD.bindsA (ps := ["_law_script"]) F_law fun _ _ _ _ _ _ us hl => match us, hl with | [_], _ => rfl
  refine ⟨fd_law, fun s v => b s [v] rfl, fun base _ _ tb => ?_⟩
  have m_int := fre X G c (List.mem_of_getElem? (i := 19) rfl)
  have m_len := fre X G c (List.mem_of_getElem? (i := 20) rfl)
  have m_range := fre X G c (List.mem_of_getElem? (i := 21) rfl)
  have m_min := fre X G c (List.mem_of_getElem? (i := 22) rfl)
  have m_list := fre X G c (List.mem_of_getElem? (i := 23) rfl)
  have m_enumerate := fre X G c (List.mem_of_getElem? (i := 24) rfl)
  have m_sorted := fre X G c (List.mem_of_getElem? (i := 25) rfl)
  have C1 : ∀ k, Cal P w K mg base CX0 "_law_well" (k + 1) ["_law_cell"] spWell := fun k => (cal X G c F_law_well (List.mem_of_getElem? (i := 2) rfl) ((ok_well (k := 0) F_law_well m_int).mono (by omega)) fun _ _ _ _ _ _ us hl => match us, hl with | [_], _ => rfl)
  have C2 : ∀ k, Cal P w K mg base CX0 "_law_draw" (k + 1) ["_law_well_here", "_law_many"] spDraw := fun k => (cal X G c F_law_draw (List.mem_of_getElem? (i := 3) rfl) ((ok_draw (k := 0) F_law_draw m_int).mono (by omega)) fun _ _ _ _ _ _ us hl => match us, hl with | [_, _], _ => rfl)
  have C3 : ∀ k, Cal P w K mg base CX0 "_law_one" (k + 2) ["_law_well_here", "_law_some"] (spOne K) := fun k => (cal X G c F_law_one (List.mem_of_getElem? (i := 4) rfl) (ok_one F_law_one (C2 k) m_len) fun _ _ _ _ _ _ us hl => match us, hl with | [_, _], _ => rfl)
  have C4 : ∀ k, Cal P w K mg base CX0 "_law_word" (k + 3) ["_law_well_here", "_law_signs"] (spWord K) := fun k => (cal X G c F_law_word (List.mem_of_getElem? (i := 5) rfl) (ok_word F_law_word m_range (C2 (k + 1)) (C3 k)) fun _ _ _ _ _ _ us hl => match us, hl with | [_, _], _ => rfl)
  have CB : Cal P w K mg base CX0 "halves_by" 1 ["marks"] (spHB K) := (cal X G c F_halves_by (List.mem_of_getElem? (i := 0) rfl) (ok_halvesby F_halves_by (tb _ (List.mem_map.mpr ⟨("halves_by", none), List.mem_singleton.mpr rfl, rfl⟩)) m_sorted m_list m_range m_len) fun _ _ _ _ _ _ us hl => match us, hl with | [_], _ => rfl)
  have CS : Cal P w K mg base CX0 "common_stem" 1 ["one", "other"] spShared := (cal X G c F_common_stem (List.mem_of_getElem? (i := 1) rfl) (ok_common F_common_stem m_len m_min) fun _ _ _ _ _ _ us hl => match us, hl with | [_, _], _ => rfl)
  have D : Cal P w K mg base CX0 "_law_right" 8 ["_law_well_here"] (spRight K) := (cal X G c F_law_right (List.mem_of_getElem? (i := 9) rfl) (ok_right F_law_right m_range m_list m_len (mkoB_ok (He.ba m).1) (He.cls_ok (c.facts (List.mem_of_getElem? (i := 12) rfl))) (glo X G c (List.mem_of_getElem? (i := 11) rfl))
    (C2 6) (C3 5) (C4 4) (cal X G c F_law_begins (List.mem_of_getElem? (i := 6) rfl) (ok_begins F_law_begins m_len m_range) fun _ _ _ _ _ _ us hl => match us, hl with | [_, _], _ => rfl) (cal X G c F_law_shared (List.mem_of_getElem? (i := 7) rfl) (ok_shared F_law_shared m_len m_range m_min) fun _ _ _ _ _ _ us hl => match us, hl with | [_, _], _ => rfl) (cal X G c F_law_halves (List.mem_of_getElem? (i := 8) rfl) (ok_halves F_law_halves m_enumerate m_range m_len m_int) fun _ _ _ _ _ _ us hl => match us, hl with | [_], _ => rfl)
    (calm c F_Stems_own (List.mem_of_getElem? (i := 13) rfl) (ok_own F_Stems_own) fun _ _ _ _ _ _ us hl => match us, hl with | [_, _], _ => rfl) (calm c F_Stems_join (List.mem_of_getElem? (i := 14) rfl) ((ok_join F_Stems_join CS).mono (by omega)) fun _ _ _ _ _ _ us hl => match us, hl with | [_, _, _], _ => rfl) (calm c F_Stems_consistent (List.mem_of_getElem? (i := 15) rfl) (ok_consistent F_Stems_consistent) fun _ _ _ _ _ _ us hl => match us, hl with | [_, _, _], _ => rfl) (calm c F_Stems_matches (List.mem_of_getElem? (i := 16) rfl) (ok_matches F_Stems_matches) fun _ _ _ _ _ _ us hl => match us, hl with | [_, _, _], _ => rfl)
    (calm c F_Stems_penalty (List.mem_of_getElem? (i := 17) rfl) ((ok_penalty F_Stems_penalty m_len CS).mono (by omega)) fun _ _ _ _ _ _ us hl => match us, hl with | [_, _, _], _ => rfl) (calm c F_Stems_sides (List.mem_of_getElem? (i := 18) rfl) ((ok_sides F_Stems_sides CB).mono (by omega)) fun _ _ _ _ _ _ us hl => match us, hl with | [_, _], _ => rfl)) fun _ _ _ _ _ _ us hl => match us, hl with | [_], _ => rfl)
  exact ok_law F_law (C1 7) D
end
end K14
open PySem PySem.W PySem.Calls PyProof.Rows
set_option maxRecDepth 100000 in
set_option maxHeartbeats 0 in
theorem PySem.Challenge.cw_kindgrove_k14_beginnings_holds : PySem.Challenge.rw_kindgrove_k14_beginnings.Holds := by
  w_on; o_law
  refine HandSHeadRun.head_any (r := OpenLaw.row PySem.Challenge.rw_kindgrove_k14_beginnings) (q := view (OpenLaw.row PySem.Challenge.rw_kindgrove_k14_beginnings).prog [19]) (H := K14.hk) (ob := K14.ob) (M := 6000) (loose := K14.loose) (d := HandSHeadRun.topDef (OpenLaw.row PySem.Challenge.rw_kindgrove_k14_beginnings).prog 19) (kwd := []) K14.ob_eq
    (by kernel_rfl) (fun s => by kernel_rfl) K14.run (by kernel_rfl) (by kernel_rfl) (by kernel_rfl) (by rfl) (by first | assumption | decide +kernel) (by decide +kernel) ⟨rfl, rfl, rfl, rfl, rfl, by decide +kernel⟩ ?hw ?hc
  case hw => w_witness2
  case hc =>
    refine LamX.walk_ofTsE (l := PySem.Challenge.rw_kindgrove_k14_beginnings) (n := 63) (k := 9) (x := "_law_script") (CX := fun _ => L2.CX0) rfl (by decide) (by kernel_rfl) ⟨rfl, by decide, by decide⟩ ?F (fun _ _ _ _ _ z => z)
    intro w mg fa h Y G hmg0
    obtain ⟨K, KX, c⟩ := Y
    have hmg : mg ("law" : PySem.Str) = some (.ref fa) := by
      have e : (HandSHeadRun.topDef (OpenLaw.row PySem.Challenge.rw_kindgrove_k14_beginnings).prog 19).name = ("law" : PySem.Str) := by kernel_rfl
      rw [← e]
      exact hmg0
    obtain ⟨fd, hb, hF⟩ := K14.facts (P := (PySem.Challenge.rw_kindgrove_k14_beginnings).prog) (w := w) KX G hmg c.t.d c.more
    refine ⟨K, KX, fd, K14.tf.map (He.cT K), K14.spLaw K, fun p hp => ?_, fun p hp => ?_, fun p hp => ?_, hb, fun H a ns hl _ hTb hS => ⟨a, ns, rfl, hS, hl, K14.tabs_of hTb, fun _ => rfl⟩, hF⟩
    all_goals obtain ⟨p0, hp0, rfl⟩ := List.mem_map.mp hp
    · exact c.empty p0 hp0
    · exact c.out p0 hp0
    · exact PySem.W.codeHd_of_K KX (c.hd p0 hp0)
