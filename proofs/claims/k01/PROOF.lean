import PyProof.Rows.All
import Wide.All
import OpenK.AllK
import Wide.FinOn
import HandS.ForMost
import HandS.HeadHook4
import HandS.Zip
import HandS.Defaults
import HandS.Wide
import HandS.IsInst
import HandS.NoneIn
import HandS.Style
import HandS.DeepEq
import HandS.Evl
import PyProof.NeKinds
import HandS.TupMul
import PyProof.StrBlock2
import HandS.TupAny
import HandS.Head0
import HandS.Head1
import HandS.Head2
import HandS.HeadEnd
import PySem.Challenge.RW_kindgrove_k01_plain_values
set_option Elab.async false
set_option linter.all false
set_option maxRecDepth 100000
set_option maxHeartbeats 4000000
namespace CM
open PySem PySem.Spec PyProof.Rows L2
/-- a def of the text, by the module's name of it -/
structure Cal (P : Program) (w : World) (K : PySem.W.Frag) (mg : Str → Option Value) (base : Heap) (CX : CXT) (x : Str) (k : Nat) (ps : List Str) (sp : Sp) : Prop where
  ex : ∃ (f : Addr) (fd : FuncData), FnOk P w K mg base CX k f fd ps sp ∧ Binds K fd ps [] ∧ mg x = some (.ref f) ∧ PySem.W.keepIn K (.ref f) = true
/-- a method of the class at C -/
structure CalM (P : Program) (w : World) (K : PySem.W.Frag) (mg : Str → Option Value) (base : Heap) (CX : CXT) (C : Addr) (x : Str) (k : Nat) (ps : List Str) (sp : Sp) : Prop where
  ex : ∃ (f : Addr) (fd : FuncData), FnOk P w K mg base CX k f fd ps sp ∧ Binds K fd ps [] ∧ Meth K C x f
/-- a value that is equal to itself at once -/
def okV (v : V) : Prop := flatB v = true ∨ ∃ a, v = .ref a
theorem okV_ref (a : Addr) : okV (.ref a) := .inr ⟨a, rfl⟩
theorem okV_int (i : Int) : okV (.int i) := .inl rfl
theorem eqAt_ok {A : Around} {s : Shared} {v : V} {u u' : Value} (h : okV v) (r : RelV v u) (r' : RelV v u') : SeqAt.EqAt A s u u' true := by
  rcases h with f | ⟨a, rfl⟩
  · exact eqAt_same r r' f
  · cases (show u = Value.ref a from r)
    cases (show u' = Value.ref a from r')
    exact SeqAt.EqAt.same _
theorem vals_eqAt {A : Around} {s : Shared} : ∀ {xs : List V} {us ws : List Value}, (∀ v ∈ xs, okV v) → Vals xs us → Vals xs ws → ∀ j (h1 : j < us.length) (h2 : j < ws.length), SeqAt.EqAt A s us[j] ws[j] true
  | [], _, _, _, r1, _, j, h1, _ => by
    cases r1
    exact absurd h1 (Nat.not_lt_zero j)
  | v :: xs, _, _, ok, .cons a1 b1, .cons a2 b2, 0, _, _ => eqAt_ok (ok v (List.mem_cons_self ..)) a1 a2
  | v :: xs, _, _, ok, .cons a1 b1, .cons a2 b2, j + 1, h1, h2 => vals_eqAt (fun z hz => ok z (List.mem_cons_of_mem _ hz)) b1 b2 j (Nat.lt_of_succ_lt_succ h1) (Nat.lt_of_succ_lt_succ h2)
/-! ### what stays -/
theorem same_upd {H : Hp} {p : Addr} {o : HO} (h : H p = none) : Same H (upd H p o) := fun b x e => by
  rw [upd_ne (ne_of_none e h)]
  exact e
theorem same_put {A H : Hp} {p : Addr} {o : HO} (s : Same A H) (h : A p = none) : Same A (upd H p o) := fun b u e => by
  rw [upd_ne (ne_of_none e h)]
  exact s b u e
/-- all but the thing at a stays -/
def Kp (a : Addr) (H H' : Hp) : Prop := ∀ b o, b ≠ a → H b = some o → H' b = some o
theorem Kp.trans {a : Addr} {H H1 H2 : Hp} (x : Kp a H H1) (y : Kp a H1 H2) : Kp a H H2 := fun b o n e => y b o n (x b o n e)
theorem Kp.same {a : Addr} {H H1 : Hp} (s : Same H H1) : Kp a H H1 := fun b o _ e => s b o e
theorem Kp.set {a : Addr} {H : Hp} {o : HO} : Kp a H (upd H a o) := fun b u n e => by
  rw [upd_ne n]
  exact e
theorem Kp.ne {a p : Addr} {H : Hp} {o : HO} (h : H a = some o) (hp : H p = none) : p ≠ a := fun z => by
  rw [z, h] at hp
  cases hp
theorem max_if (i j : Int) : (if j > i then j else i) = max i j := by
  rw [Int.max_def]
  split <;> split <;> omega
theorem min_if (i j : Int) : (if j < i then j else i) = min i j := by
  rw [Int.min_def]
  split <;> split <;> omega
def Tup2 (H : Hp) (p : Addr) (lo hi : Int) : Prop := H p = some (.tup [.int lo, .int hi])
section
variable {X : Cx}
theorem pe_gref {x : Str} {C : Addr} {pos : Pos} (hg : Gl X x) (hm : X.mg x = some (.ref C)) (hdb : (x == ("__debug__" : Str)) = false := by decide) : PE X (.Name x pos) (tC (.ref C)) := pe_glob (v := .ref C) hg hm rfl hdb
/-- a != b of two lists of the very same items -/
def rNeS (K : PySem.W.Frag) : R2 := fun x y H Q => ∃ (a b : Addr) (xs : List V), x = .ref a ∧ y = .ref b ∧ SqL K H a xs ∧ SqL K H b xs ∧ (∀ v ∈ xs, okV v) ∧ Q (.bl false) H
theorem op_neS (hu : X.A.units + 64 < cLine) : OpR X (compareOp .NotEq) (rNeS X.K) := by
  intro pns s σ H x y v u Q I rx ry h
  obtain ⟨a, b, xs, rfl, rfl, ha, hb, ok, q⟩ := h
  cases (show v = Value.ref a from rx)
  cases (show u = Value.ref b from ry)
  obtain ⟨us, r1, p1, _⟩ := I.list ha
  obtain ⟨ws, r2, p2, _⟩ := I.list hb
  have hz : us.toArray.size = ws.toArray.size := by
    rw [List.size_toArray, List.size_toArray, ← r1.length, ← r2.length]
  refine SeqAt.RcNeAt.lists (e := fun _ => true) p1.isList p2.isList hz (by omega) (fun j h1 h2 => ?_) X.prog X.w X.xe _ ?_
  · have z := vals_eqAt (A := X.A.in1) (s := s) ok r1 r2 j (by simpa using h1) (by simpa using h2)
    simpa using z
  · rw [show ((List.range us.toArray.size).all fun _ => true) = true from List.all_eq_true.mpr fun _ _ => rfl]
    exact ⟨.bl false, H, I, rfl, q⟩
/-- a == (), a a tuple -/
def rEqNil (K : PySem.W.Frag) : R2 := fun x y H Q => ∃ (a b : Addr) (xs : List V), x = .ref a ∧ y = .ref b ∧ SqT K H a xs ∧ SqT K H b [] ∧ Q (.bl xs.isEmpty) H
theorem op_eqNil (hu : X.A.units + 64 < cLine) : OpR X (compareOp .Eq) (rEqNil X.K) := by
  intro pns s σ H x y v u Q I rx ry h
  obtain ⟨a, b, xs, rfl, rfl, ha, hb, q⟩ := h
  cases (show v = Value.ref a from rx)
  cases (show u = Value.ref b from ry)
  obtain ⟨us, r1, p1, _⟩ := I.tuple ha
  obtain ⟨ws, r2, p2, _⟩ := I.tuple hb
  cases r2
  refine SeqAt.eq_tupleAt (e := fun _ => true) p1 p2 (by omega) (fun j h1 h2 => absurd h2 (by simp)) ?_
  have e : ((List.range (min us.toArray.size (#[] : Array Value).size)).all (fun _ => true) && us.toArray.size == (#[] : Array Value).size) = xs.isEmpty := by
    rw [List.size_toArray, ← r1.length]
    cases xs <;> simp
  exact ⟨.bl _, H, I, rfl, by rw [e]; exact q⟩
def rStrMul : R2 := fun x y H Q => ∃ (z : Str) (n : Int), x = .str z ∧ y = .int n ∧ MulOk z n ∧ Q (.str (Txt.mul z n)) H
theorem op_strmul : OpR X (binaryOp .Mult) rStrMul := by
  intro pns s σ H x y v u Q I rx ry h
  obtain ⟨z, n, rfl, rfl, ok, q⟩ := h
  obtain ⟨t1, rfl⟩ := rx
  obtain ⟨t2, rfl⟩ := ry
  exact SB.mul ok fun t' k => ⟨.str _, H, I.tok k, ⟨t', rfl⟩, q⟩
/-- a tuple taken many times -/
def rRepM (K : PySem.W.Frag) : R2 := fun x y H Q => ∃ l k xs, x = .ref l ∧ y = .int k ∧ SqT K H l xs ∧ xs ≠ [] ∧ 2 ≤ k ∧ (xs.length : Int) * k ≤ 1000000 ∧ ∀ p, H p = none → Q (.ref p) (upd H p (.tup (List.replicate k.toNat xs).flatten))
theorem op_repM : OpR X (binaryOp .Mult) (rRepM X.K) := by
  intro pns s σ H x y v u Q I rx ry h
  obtain ⟨l, k, xs, rfl, rfl, hT, hne, hlo, hz, q⟩ := h
  cases (show v = Value.ref l from rx)
  obtain ⟨t, rfl⟩ := ry
  obtain ⟨us, r, ⟨⟨cl, di, da, slo⟩, ho, hc, n, hd⟩, hs⟩ := I.tuple hT
  dsimp only at hc hd
  subst hc
  subst hd
  have hle : us.length = xs.length := r.length.symm
  have h0 : us.toArray.isEmpty = false := by
    cases us with
    | nil =>
      cases xs with
      | nil => exact absurd rfl hne
      | cons => cases hle
    | cons _ _ => rfl
  have hsz : us.toArray.size = xs.length := by rw [List.size_toArray, hle]
  have pos : 1 ≤ xs.length := by
    cases xs with
    | nil => exact absurd rfl hne
    | cons => rw [List.length_cons]; omega
  have hk : k ≤ 1000000 := by
    have a1 : (1 : Int) * k ≤ (xs.length : Int) * k := Int.mul_le_mul_of_nonneg_right (by omega) (by omega)
    omega
  have hm : ((us.toArray.size : Nat) : Int) * k ≤ 1000000 := by rw [hsz]; exact hz
  have hflat : (List.replicate k.toNat us).flatten.length ≤ sizeLine := by
    rw [lm_len_rep_flat, hle, sizeLine_eq]
    have a2 : ((k.toNat * xs.length : Nat) : Int) = (xs.length : Int) * k := by
      rw [Int.natCast_mul, Int.toNat_of_nonneg (by omega), Int.mul_comm]
    omega
  have c0 : (decide (k < -(2 ^ 63)) || decide (k ≥ 2 ^ 63)) = false := by
    simp only [Bool.or_eq_false_iff, decide_eq_false_iff_not]
    omega
  have c1 : (us.toArray.isEmpty || k == 1) = false := by
    rw [h0, Bool.false_or, beq_eq_false_iff_ne]
    omega
  have c2 : (decide (k ≤ 0) || us.toArray.isEmpty) = false := by
    rw [h0, Bool.or_false, decide_eq_false_iff_not]
    omega
  have c4 : Builtin.Tuple.tupleTooMany (((us.toArray.size : Nat) : Int) * k) = false := by
    unfold Builtin.Tuple.tupleTooMany
    rw [sizeLine_eq, decide_eq_false_iff_not]
    omega
  have big : (List.foldl (fun x1 x2 => x1 ++ x2) #[] (List.replicate k.toNat us.toArray)).size ≤ sizeLine := by
    rw [size_rep, List.size_toArray]
    exact hflat
  have inner := tuple_mulW l us.toArray n di slo k t c0 c1 c2 (by omega) c4 big
  have outer := int_rmul_tuple k t l us.toArray n di slo
  refine wpAny_binaryOp_repeat_ref (T := "tuple") (U := "int") (by decide) ⟨_, ho, rfl⟩ (fun s1 => typeIs_int s1 k t) noFill_tuple_mul F.fills_int_mul F.slot_int_rmul repeat_tuple F.slot_int_index.lookup ?_
  refine call_meets F.slot_int_rmul (typeIs_int s k t) F.entry_int_rmul (F.args_int_rmul_2 _ _) outer ⟨ho, rfl, ⟨_, ho, rfl⟩, ?_⟩
  refine call_meets F.slot_tuple_mul ⟨_, ho, rfl⟩ F.entry_tuple_mul (F.args_tuple_mul_2 _ _) inner ⟨ho, ?_⟩
  rw [size_rep]
  have hnew : H s.heap.objs.size = none := I.hok.fresh (Nat.le_refl _)
  have hfl2 : (List.replicate k.toNat xs).flatten.length ≤ sizeLine := by
    have z := (r.rep k.toNat).length
    rw [z]
    exact hflat
  exact ⟨.ref s.heap.objs.size, _, I.laid (t' := s.toks) (o := .tup (List.replicate k.toNat xs).flatten) (fun b ob z => Heap.get?_push_of_some _ z) (Nat.le_refl _) ⟨hfl2, _, r.rep k.toNat, IsTup.new _ _⟩, rfl, q _ hnew⟩
/-- a != b of two tuples of the very same items -/
def rNeST (K : PySem.W.Frag) : R2 := fun x y H Q => ∃ (a b : Addr) (xs : List V), x = .ref a ∧ y = .ref b ∧ SqT K H a xs ∧ SqT K H b xs ∧ (∀ v ∈ xs, okV v) ∧ Q (.bl false) H
theorem op_neST (hu : X.A.units + 64 < cLine) : OpR X (compareOp .NotEq) (rNeST X.K) := by
  intro pns s σ H x y v u Q I rx ry h
  obtain ⟨a, b, xs, rfl, rfl, ha, hb, ok, q⟩ := h
  cases (show v = Value.ref a from rx)
  cases (show u = Value.ref b from ry)
  obtain ⟨us, r1, p1, _⟩ := I.tuple ha
  obtain ⟨ws, r2, p2, _⟩ := I.tuple hb
  have hz : us.toArray.size = ws.toArray.size := by
    rw [List.size_toArray, List.size_toArray, ← r1.length, ← r2.length]
  refine SeqAt.RcNeAt.tuples (e := fun _ => true) p1 p2 (by omega) (fun j h1 h2 => ?_) X.prog X.w X.xe _ ?_
  · have z := vals_eqAt (A := X.A.in1) (s := s) ok r1 r2 j (by simpa using h1) (by simpa using h2)
    simpa using z
  · rw [show ((List.range (min us.toArray.size ws.toArray.size)).all fun _ => true) = true from List.all_eq_true.mpr fun _ _ => rfl, hz]
    exact ⟨.bl _, H, I, rfl, by simpa using q⟩
/-- a != b, both of them pairs of ints -/
def rNeI2 (K : PySem.W.Frag) : R2 := fun x y H Q => ∃ (a b : Addr) (i j k l : Int), x = .ref a ∧ y = .ref b ∧ SqT K H a [.int i, .int j] ∧ SqT K H b [.int k, .int l] ∧ Q (.bl (!decide (i = k ∧ j = l))) H
theorem op_neI2 (hu : X.A.units + 64 < cLine) : OpR X (compareOp .NotEq) (rNeI2 X.K) := by
  intro pns s σ H x y v u Q I rx ry h
  obtain ⟨a, b, i, j, k, l, rfl, rfl, ha, hb, q⟩ := h
  cases (show v = Value.ref a from rx)
  cases (show u = Value.ref b from ry)
  obtain ⟨us, r1, p1, _⟩ := I.tuple ha
  obtain ⟨ws, r2, p2, _⟩ := I.tuple hb
  obtain ⟨u1, u2, rfl, ⟨t1, rfl⟩, ⟨t2, rfl⟩⟩ := vals2 r1
  obtain ⟨w1, w2, rfl, ⟨t3, rfl⟩, ⟨t4, rfl⟩⟩ := vals2 r2
  refine SeqAt.RcNeAt.tuples (e := fun n => if n = 0 then i == k else j == l) p1 p2 (by omega) (fun n h1 h2 => ?_) X.prog X.w X.xe _ ?_
  · match n, h1, h2 with
    | 0, _, _ => exact SeqAt.EqAt.int_int i t1 k t3
    | 1, _, _ => exact SeqAt.EqAt.int_int j t2 l t4
    | n + 2, h1, _ => exact absurd h1 (by simp)
  · have e : (!((List.range (min [Value.int i t1, Value.int j t2].toArray.size [Value.int k t3, Value.int l t4].toArray.size)).all (fun n => if n = 0 then i == k else j == l) && [Value.int i t1, Value.int j t2].toArray.size == [Value.int k t3, Value.int l t4].toArray.size)) = !decide (i = k ∧ j = l) := by
      show (!((List.range 2).all (fun n => if n = 0 then i == k else j == l) && true)) = _
      rw [show List.range 2 = [0, 1] from rfl]
      by_cases e1 : i = k <;> by_cases e2 : j = l <;> simp [e1, e2]
    rw [e]
    exact ⟨.bl _, H, I, rfl, q⟩
/-- a == b of two lists of the very same items -/
def rEqS (K : PySem.W.Frag) : R2 := fun x y H Q => ∃ (a b : Addr) (xs : List V), x = .ref a ∧ y = .ref b ∧ SqL K H a xs ∧ SqL K H b xs ∧ (∀ v ∈ xs, okV v) ∧ Q (.bl true) H
theorem op_eqS (hu : X.A.units + 64 < cLine) : OpR X (compareOp .Eq) (rEqS X.K) := by
  intro pns s σ H x y v u Q I rx ry h
  obtain ⟨a, b, xs, rfl, rfl, ha, hb, ok, q⟩ := h
  cases (show v = Value.ref a from rx)
  cases (show u = Value.ref b from ry)
  obtain ⟨us, r1, p1, _⟩ := I.list ha
  obtain ⟨ws, r2, p2, _⟩ := I.list hb
  have hz : us.toArray.size = ws.toArray.size := by
    rw [List.size_toArray, List.size_toArray, ← r1.length, ← r2.length]
  refine SeqAt.eq_listAt (e := fun _ => true) p1.isList p2.isList hz (by omega) (fun j h1 h2 => ?_) ?_
  · have z := vals_eqAt (A := X.A.in1) (s := s) ok r1 r2 j (by simpa using h1) (by simpa using h2)
    simpa using z
  · rw [show ((List.range us.toArray.size).all fun _ => true) = true from List.all_eq_true.mpr fun _ _ => rfl]
    exact ⟨.bl true, H, I, rfl, q⟩
/-- a != [], a a list -/
def rNeNil (K : PySem.W.Frag) : R2 := fun x y H Q => ∃ (a b : Addr) (xs : List V), x = .ref a ∧ y = .ref b ∧ SqL K H a xs ∧ SqL K H b [] ∧ Q (.bl (!xs.isEmpty)) H
theorem op_neNil (hu : X.A.units + 64 < cLine) : OpR X (compareOp .NotEq) (rNeNil X.K) := by
  intro pns s σ H x y v u Q I rx ry h
  obtain ⟨a, b, xs, rfl, rfl, ha, hb, q⟩ := h
  cases (show v = Value.ref a from rx)
  cases (show u = Value.ref b from ry)
  obtain ⟨us, r1, p1, _⟩ := I.list ha
  obtain ⟨ws, r2, p2, _⟩ := I.list hb
  cases r2
  cases r1 with
  | nil => exact SeqAt.RcNeAt.lists (e := fun _ => true) p1.isList p2.isList rfl (by omega) (fun j h1 h2 => absurd h2 (by simp)) X.prog X.w X.xe _ ⟨.bl false, H, I, rfl, q⟩
  | cons a1 b1 => exact SeqAt.RcNeAt.lists_lengths p1.isList p2.isList (by simp) (by omega) X.prog X.w X.xe _ ⟨.bl true, H, I, rfl, q⟩
/-- how many unlike ints a list has -/
def unlike (ns : List Int) : Nat := (firstMet (fun i => ns.getD i 0) ns.length).length
def tUnlike (K : PySem.W.Frag) (ta : TE) : TE := fun σ H Q => ta σ H fun x G => ∃ (l : Addr) (ns : List Int), x = .ref l ∧ SqL K G l (ns.map V.int) ∧ ns.length ≤ 4000 ∧ Q (.int (unlike ns : Nat)) G
theorem pe_unlike {e : Expr} {ta : TE} {p1 p2 p3 p4 : Pos} (hg : Gl X "len") (hm : X.mg "len" = none) (hg2 : Gl X "set") (hm2 : X.mg "set" = none) (ha : PE X e ta) (hc : X.calm = true := by rfl)
    (na : starEach [e] X.env = (false, eval e X.env) :: starEach [] X.env := by rfl) : PE X (.Call (.Name "len" p1) [.Call (.Name "set" p2) [e] [] p3] [] p4) (tUnlike X.K ta) := by
  refine ⟨fun pns s σ H Q I h => Call_ (ld_blt I hg hm PySem.boot_len (callWith_builtin1 (args_cons (Call_ (ld_blt I hg2 hm2 boot_set (callWith_type1 (args_cons (thn (ha.run pns s σ H _ I h) ?_) na) na rfl))) rfl) rfl rfl))⟩
  rintro v t ⟨x, G, J, r, l, ns, rfl, hq, hl, q⟩
  cases r
  obtain ⟨us, rv, pl, _⟩ := J.list hq
  have hz : us.toArray.size = ns.length := by rw [List.size_toArray, ← rv.length, List.length_map]
  refine args_nil (call_set_list (J.ok.hd hc) pl.isList (ns := ns) (by simpa using RZ.intsAre_vals rv) (by rw [hz]; unfold scanBound; omega) fun h' tk hS hk => args_nil ?_)
  rw [hz] at hS
  obtain ⟨o, es, ep, tb, ho, hex, hd, _, _, _, hf, hn⟩ := hS
  have hle := firstMet_length_le (fun i => ns.getD i 0) ns.length
  have J2 : Inv X pns σ G { t with heap := h', toks := tk } := J.kept fun b o e => hk b o (Heap.lt_size e) e
  exact call_len_set ho hex hd hf (by rw [hn]; omega) ⟨.int (unlike ns : Nat), G, J2.tok _, ⟨_, by rw [hn]; rfl⟩, q⟩
/-- a class without an __init__ -/
structure MkO (K : PySem.W.Frag) (C : Addr) : Prop where
  makes : PySem.W.makesIn K C = true
  init : PySem.W.findIn K (.ref C) "__init__" = some (some (.builtin "object.__init__"))
  kp : PySem.W.keepIn K (.ref C) = true
  ob : PySem.W.mroIn K C (.type "object") = some true
def mkoB (K : PySem.W.Frag) (C : Addr) : Bool := PySem.W.makesIn K C && (He.eqO (PySem.W.findIn K (.ref C) "__init__") (some (some (.builtin "object.__init__"))) && (PySem.W.keepIn K (.ref C) && decide (PySem.W.mroIn K C (.type "object") = some true)))
theorem mkoB_ok {K : PySem.W.Frag} {C : Addr} (h : mkoB K C = true) : MkO K C := by
  obtain ⟨h1, h⟩ := He.ba h
  obtain ⟨h2, h⟩ := He.ba h
  obtain ⟨h3, h4⟩ := He.ba h
  exact ⟨h1, He.eqO_ok h2, h3, of_decide_eq_true h4⟩
theorem pe_make00 {C : Addr} {x : Str} {p pos : Pos} (M : MkO X.K C) (hg : Gl X x) (hm : X.mg x = some (.ref C)) (hdb : (x == ("__debug__" : Str)) = false := by decide) :
    PE X (.Call (.Name x p) [] [] pos) (fun σ H Q => ∀ x dx, H x = none → H dx = none → dx ≠ x → Q (.ref x) (upd (upd H dx (.own x)) x (.ins C dx []))) := by
  refine ⟨fun pns s σ H Q I h => wpAny_Call_Name_kw (ld_glob I hg hm ?_ hdb)⟩
  refine PySem.W.callWith_K0 I.kIn M.kp ?_
  show wpAny _ _ (call (.ref C) []) _ _ _
  have hq := h (s.heap.objs.size + 1) s.heap.objs.size (I.hok.fresh (Nat.le_succ _)) (I.hok.fresh (Nat.le_refl _)) (Nat.ne_of_lt (Nat.lt_succ_self _))
  have J := Inv.made (C := C) I
  refine wpAny_call (make_map0 I.kIn M.makes M.init (fun me => PySem.W.Looks.of_pure (PySem.W.oi_bind me)) ?_)
  have ho : ((s.heap.push PySem.W.emptyDict).push (PySem.W.instObj C s.heap.objs.size)).get? (s.heap.objs.size + 1) = some (PySem.W.instObj C s.heap.objs.size) := by
    have z := Heap.get?_push_size (s.heap.push PySem.W.emptyDict) (o := PySem.W.instObj C s.heap.objs.size) rfl
    rw [Heap.size_push] at z
    exact z
  have t1 : PySem.W.Looks (model X.prog X.w) ((s.heap.push PySem.W.emptyDict).push (PySem.W.instObj C s.heap.objs.size)) (typeOf (.ref (s.heap.objs.size + 1))) (.ref C) := (PySem.W.Looks.ld ho).andThen .now
  have t2 : PySem.W.Looks (model X.prog X.w) ((s.heap.push PySem.W.emptyDict).push (PySem.W.instObj C s.heap.objs.size)) (isInstance (.ref (s.heap.objs.size + 1)) (.type "object")) true := t1.andThen (PySem.W.looks_mroIn J.kIn M.ob)
  refine codeAny_call_builtin PySem.W.oi_plain PySem.W.entry_oi (PySem.W.check_slot PySem.W.oi_kind PySem.W.oi_split t2 (PySem.W.oi_args (.ref (s.heap.objs.size + 1))) ?_)
  rw [PySem.W.oi_run]
  exact wpAny_pure ⟨rfl, ⟨V.ref (s.heap.objs.size + 1), _, J, rfl, hq⟩⟩
/-! ### within a comprehension: the written part by its name -/
theorem ix_listK {K : PySem.W.Frag} (h : X.K = K := by rfl) : IxR X (rIxL K) := by
  subst h
  exact ix_list
theorem ix_tupK {K : PySem.W.Frag} (h : X.K = K := by rfl) : IxR X (rIxT K) := by
  subst h
  exact ix_tup
theorem pg_tupK {K : PySem.W.Frag} {n : Nat} {es : List Expr} {k : Nat} {t : TGs} (hc : X.calm = true) (h : PGs X es t) (hK : X.K = K := by rfl)
    (hn : (assignEach es X.env).length = n := by rfl) (hst : (assignEach es X.env).findIdx? (·.1) = none := by rfl) : PG X (.Tuple es k pos) (gTup K n t) := by
  subst hK
  exact pg_tup hc h hn hst
theorem op_ltTK {K : PySem.W.Frag} (hu : X.A.units < cLine) (h : X.K = K := by rfl) : OpR X (compareOp .Lt) (rLtT K) := by
  subst h
  exact op_ltT hu
end
end CM
set_option Elab.async false
set_option linter.all false
set_option maxRecDepth 100000
set_option maxHeartbeats 2000000
namespace K01
open PySem PySem.Spec PyProof.Rows L2 CM
def topS (i : Nat) : Stmt := PySem.Challenge.pw_kindgrove_k01_plain_values.main.body.getD i (.Pass ⟨0, 0, 0, 0⟩)
abbrev s_wall : Stmt := topS 0
abbrev n_wall : List Str := ["k"]
theorem sc_wall : FnScope n_wall ["k"] (defScope s_wall) := ⟨rfl, rfl, rfl, by decide +kernel, rfl, by decide +kernel, by decide +kernel⟩
abbrev s_is_int : Stmt := topS 3
abbrev n_is_int : List Str := ["thing"]
theorem sc_is_int : FnScope n_is_int ["thing"] (defScope s_is_int) := ⟨rfl, rfl, rfl, by decide +kernel, rfl, by decide +kernel, by decide +kernel⟩
abbrev s_is_flag : Stmt := topS 4
abbrev n_is_flag : List Str := ["thing"]
theorem sc_is_flag : FnScope n_is_flag ["thing"] (defScope s_is_flag) := ⟨rfl, rfl, rfl, by decide +kernel, rfl, by decide +kernel, by decide +kernel⟩
abbrev s_by_repr : Stmt := topS 5
abbrev n_by_repr : List Str := ["things"]
theorem sc_by_repr : FnScope n_by_repr ["things"] (defScope s_by_repr) := ⟨rfl, rfl, rfl, by decide +kernel, rfl, by decide +kernel, by decide +kernel⟩
abbrev s_is_plain : Stmt := topS 6
abbrev n_is_plain : List Str := ["thing"]
theorem sc_is_plain : FnScope n_is_plain ["thing"] (defScope s_is_plain) := ⟨rfl, rfl, rfl, by decide +kernel, rfl, by decide +kernel, by decide +kernel⟩
abbrev s_is_plain_within : Stmt := topS 7
abbrev n_is_plain_within : List Str := ["thing", "deepest", "part"]
theorem sc_is_plain_within : FnScope n_is_plain_within ["thing", "deepest"] (defScope s_is_plain_within) := ⟨rfl, rfl, rfl, by decide +kernel, rfl, by decide +kernel, by decide +kernel⟩
abbrev s_BadValue___init : Stmt := inClass (topS 10) 0
abbrev n_BadValue___init : List Str := ["self", "value"]
theorem sc_BadValue___init : FnScope n_BadValue___init ["self", "value"] (defScope s_BadValue___init) := ⟨rfl, rfl, rfl, by decide +kernel, rfl, by decide +kernel, by decide +kernel⟩
abbrev s_Filling___init : Stmt := inClass (topS 12) 0
abbrev n_Filling___init : List Str := ["self", "default", "places", "place"]
theorem sc_Filling___init : FnScope n_Filling___init ["self", "default", "places"] (defScope s_Filling___init) := ⟨rfl, rfl, rfl, by decide +kernel, rfl, by decide +kernel, by decide +kernel⟩
abbrev s_Grid___init : Stmt := inClass (topS 13) 0
abbrev n_Grid___init : List Str := ["self", "default"]
theorem sc_Grid___init : FnScope n_Grid___init ["self", "default"] (defScope s_Grid___init) := ⟨rfl, rfl, rfl, by decide +kernel, rfl, by decide +kernel, by decide +kernel⟩
abbrev s_Grid___getitem : Stmt := inClass (topS 13) 1
abbrev n_Grid___getitem : List Str := ["self", "at"]
theorem sc_Grid___getitem : FnScope n_Grid___getitem ["self", "at"] (defScope s_Grid___getitem) := ⟨rfl, rfl, rfl, by decide +kernel, rfl, by decide +kernel, by decide +kernel⟩
abbrev s_Grid___setitem : Stmt := inClass (topS 13) 2
abbrev n_Grid___setitem : List Str := ["self", "at", "worth", "place"]
theorem sc_Grid___setitem : FnScope n_Grid___setitem ["self", "at", "worth"] (defScope s_Grid___setitem) := ⟨rfl, rfl, rfl, by decide +kernel, rfl, by decide +kernel, by decide +kernel⟩
abbrev s_Grid___call : Stmt := inClass (topS 13) 3
abbrev n_Grid___call : List Str := ["self", "one", "other"]
theorem sc_Grid___call : FnScope n_Grid___call ["self", "one", "other"] (defScope s_Grid___call) := ⟨rfl, rfl, rfl, by decide +kernel, rfl, by decide +kernel, by decide +kernel⟩
abbrev s_Grid___iter : Stmt := inClass (topS 13) 4
abbrev n_Grid___iter : List Str := ["self"]
theorem sc_Grid___iter : FnScope n_Grid___iter ["self"] (defScope s_Grid___iter) := ⟨rfl, rfl, rfl, by decide +kernel, rfl, by decide +kernel, by decide +kernel⟩
abbrev s_Grid___contains : Stmt := inClass (topS 13) 5
abbrev n_Grid___contains : List Str := ["self", "x"]
theorem sc_Grid___contains : FnScope n_Grid___contains ["self", "x"] (defScope s_Grid___contains) := ⟨rfl, rfl, rfl, by decide +kernel, rfl, by decide +kernel, by decide +kernel⟩
abbrev s_Grid___len : Stmt := inClass (topS 13) 6
abbrev n_Grid___len : List Str := ["self"]
theorem sc_Grid___len : FnScope n_Grid___len ["self"] (defScope s_Grid___len) := ⟨rfl, rfl, rfl, by decide +kernel, rfl, by decide +kernel, by decide +kernel⟩
abbrev s_Grid___bool : Stmt := inClass (topS 13) 7
abbrev n_Grid___bool : List Str := ["self"]
theorem sc_Grid___bool : FnScope n_Grid___bool ["self"] (defScope s_Grid___bool) := ⟨rfl, rfl, rfl, by decide +kernel, rfl, by decide +kernel, by decide +kernel⟩
abbrev s_Grid___eq : Stmt := inClass (topS 13) 8
abbrev n_Grid___eq : List Str := ["self", "other"]
theorem sc_Grid___eq : FnScope n_Grid___eq ["self", "other"] (defScope s_Grid___eq) := ⟨rfl, rfl, rfl, by decide +kernel, rfl, by decide +kernel, by decide +kernel⟩
abbrev s_Grid___and : Stmt := inClass (topS 13) 9
abbrev n_Grid___and : List Str := ["self", "other", "default", "unlike", "place"]
theorem sc_Grid___and : FnScope n_Grid___and ["self", "other"] (defScope s_Grid___and) := ⟨rfl, rfl, rfl, by decide +kernel, rfl, by decide +kernel, by decide +kernel⟩
abbrev s_Grid___or : Stmt := inClass (topS 13) 10
abbrev n_Grid___or : List Str := ["self", "other", "default", "unlike", "place"]
theorem sc_Grid___or : FnScope n_Grid___or ["self", "other"] (defScope s_Grid___or) := ⟨rfl, rfl, rfl, by decide +kernel, rfl, by decide +kernel, by decide +kernel⟩
abbrev s_Grid___invert : Stmt := inClass (topS 13) 11
abbrev n_Grid___invert : List Str := ["self"]
theorem sc_Grid___invert : FnScope n_Grid___invert ["self"] (defScope s_Grid___invert) := ⟨rfl, rfl, rfl, by decide +kernel, rfl, by decide +kernel, by decide +kernel⟩
abbrev s_Grid___ior : Stmt := inClass (topS 13) 12
abbrev n_Grid___ior : List Str := ["self", "other", "union"]
theorem sc_Grid___ior : FnScope n_Grid___ior ["self", "other"] (defScope s_Grid___ior) := ⟨rfl, rfl, rfl, by decide +kernel, rfl, by decide +kernel, by decide +kernel⟩
abbrev s_Grid_places : Stmt := inClass (topS 13) 13
abbrev n_Grid_places : List Str := ["self"]
theorem sc_Grid_places : FnScope n_Grid_places ["self"] (defScope s_Grid_places) := ⟨rfl, rfl, rfl, by decide +kernel, rfl, by decide +kernel, by decide +kernel⟩
abbrev s_Grid_under : Stmt := inClass (topS 13) 14
abbrev n_Grid_under : List Str := ["self", "other"]
theorem sc_Grid_under : FnScope n_Grid_under ["self", "other"] (defScope s_Grid_under) := ⟨rfl, rfl, rfl, by decide +kernel, rfl, by decide +kernel, by decide +kernel⟩
abbrev s_Grid_has_value : Stmt := inClass (topS 13) 15
abbrev n_Grid_has_value : List Str := ["self", "thing"]
theorem sc_Grid_has_value : FnScope n_Grid_has_value ["self", "thing"] (defScope s_Grid_has_value) := ⟨rfl, rfl, rfl, by decide +kernel, rfl, by decide +kernel, by decide +kernel⟩
abbrev s_is_place : Stmt := topS 14
abbrev n_is_place : List Str := ["thing"]
theorem sc_is_place : FnScope n_is_place ["thing"] (defScope s_is_place) := ⟨rfl, rfl, rfl, by decide +kernel, rfl, by decide +kernel, by decide +kernel⟩
abbrev s_checked_place : Stmt := topS 15
abbrev n_checked_place : List Str := ["thing", "part"]
theorem sc_checked_place : FnScope n_checked_place ["thing"] (defScope s_checked_place) := ⟨rfl, rfl, rfl, by decide +kernel, rfl, by decide +kernel, by decide +kernel⟩
abbrev s_standing_in : Stmt := topS 16
abbrev n_standing_in : List Str := ["one", "other", "further", "place"]
theorem sc_standing_in : FnScope n_standing_in ["one", "other"] (defScope s_standing_in) := ⟨rfl, rfl, rfl, by decide +kernel, rfl, by decide +kernel, by decide +kernel⟩
abbrev s_law_well : Stmt := topS 18
abbrev n_law_well : List Str := ["_law_cell"]
theorem sc_law_well : FnScope n_law_well ["_law_cell"] (defScope s_law_well) := ⟨rfl, rfl, rfl, by decide +kernel, rfl, by decide +kernel, by decide +kernel⟩
abbrev s_law_draw : Stmt := topS 19
abbrev n_law_draw : List Str := ["_law_well_here", "_law_many", "_law_digit", "_law_number", "_law_more"]
theorem sc_law_draw : FnScope n_law_draw ["_law_well_here", "_law_many"] (defScope s_law_draw) := ⟨rfl, rfl, rfl, by decide +kernel, rfl, by decide +kernel, by decide +kernel⟩
abbrev s_law_one : Stmt := topS 20
abbrev n_law_one : List Str := ["_law_well_here", "_law_some"]
theorem sc_law_one : FnScope n_law_one ["_law_well_here", "_law_some"] (defScope s_law_one) := ⟨rfl, rfl, rfl, by decide +kernel, rfl, by decide +kernel, by decide +kernel⟩
abbrev s_law_thing : Stmt := topS 21
abbrev n_law_thing : List Str := ["_law_well_here", "_law_room", "_law_way", "_law_some", "_law_parts", "_law_deep", "_law_k", "_law_part", "_law_more"]
theorem sc_law_thing : FnScope n_law_thing ["_law_well_here", "_law_room"] (defScope s_law_thing) := ⟨rfl, rfl, rfl, by decide +kernel, rfl, by decide +kernel, by decide +kernel⟩
abbrev s_law_spoilt : Stmt := topS 22
abbrev n_law_spoilt : List Str := ["_law_well_here", "_law_thing_here", "_law_odd", "_law_at"]
theorem sc_law_spoilt : FnScope n_law_spoilt ["_law_well_here", "_law_thing_here"] (defScope s_law_spoilt) := ⟨rfl, rfl, rfl, by decide +kernel, rfl, by decide +kernel, by decide +kernel⟩
abbrev s_law : Stmt := topS 23
abbrev n_law : List Str := ["_law_script", "_law_cell", "_law_well_here", "_law_k", "_law_thing_here", "_law_deep", "_law_tall", "_law_wide", "_law_spoilt_here"]
theorem sc_law : FnScope n_law ["_law_script"] (defScope s_law) := ⟨rfl, rfl, rfl, by decide +kernel, rfl, by decide +kernel, by decide +kernel⟩
abbrev FnP (K : PySem.W.Frag) (x q : Str) (st : Stmt) (f : Addr) (fd : FuncData) : Prop := FunD K x q (defArgs st) (defBody st) (defScope st) [] [] f fd
/-! ### things and how deep they are -/
def leafB : V → Bool
  | .int _ => true
  | .str _ => true
  | .non => true
  | _ => false
/-- instances of this class are no data -/
structure InsK (K : PySem.W.Frag) (C : Addr) : Prop where
  cl : Cls K C
  ca : PySem.W.findIn K (.ref C) "__class__" = some (some (.builtin "object.__class__"))
  gs : PySem.W.specialIn K (.builtin "object.__class__") "__get__" = some (some (.builtin "getset_descriptor.__get__"))
  tk : PySem.W.takesIn K (.builtin "object.__class__") = some true
  mr : PySem.W.mroIn K C (.type "object") = some true
  ki : PySem.W.kitOne K (.ref C) (.type "int") = some false
  ks : PySem.W.kitOne K (.ref C) (.type "str") = some false
  kt : PySem.W.kitOne K (.ref C) (.type "tuple") = some false
/-- a flag, a list, a dict, an instance -/
def Odd (K : PySem.W.Frag) (H : Hp) (v : V) : Prop := (∃ b, v = .bl b) ∨ (∃ a xs, v = .ref a ∧ H a = some (.lst xs)) ∨ (∃ a kvs, v = .ref a ∧ H a = some (.dK kvs)) ∨ ∃ a C dx fs, v = .ref a ∧ H a = some (.ins C dx fs) ∧ InsK K C
/-- what is_plain_within says of a thing within n levels -/
def PN (K : PySem.W.Frag) (H : Hp) : Nat → V → Bool → Prop
  | 0, v, b => (leafB v = true ∧ b = true) ∨ (Odd K H v ∧ b = false) ∨ ∃ a xs, v = .ref a ∧ H a = some (.tup xs) ∧ b = xs.isEmpty
  | n + 1, v, b => (leafB v = true ∧ b = true) ∨ (Odd K H v ∧ b = false) ∨ ∃ a xs, v = .ref a ∧ H a = some (.tup xs) ∧
    ((b = true ∧ ∀ x ∈ xs, PN K H n x true) ∨ (b = false ∧ ∃ (i : Nat) (x : V), xs[i]? = some x ∧ PN K H n x false ∧ ∀ (j : Nat) (y : V), j < i → xs[j]? = some y → PN K H n y true))
/-- all objects stay; lists may hold other items -/
def Ev (H H' : Hp) : Prop := ∀ b o, H b = some o → H' b = some o ∨ ∃ xs ys, o = .lst xs ∧ H' b = some (.lst ys)
theorem Ev.refl (H : Hp) : Ev H H := fun b o e => .inl e
theorem Ev.trans {H H1 H2 : Hp} (a : Ev H H1) (b : Ev H1 H2) : Ev H H2 := fun c o e => by
  rcases a c o e with e1 | ⟨xs, ys, rfl, e1⟩
  · exact b c o e1
  · rcases b c _ e1 with e2 | ⟨xs', ys', _, e2⟩
    · exact .inr ⟨xs, ys, rfl, e2⟩
    · exact .inr ⟨xs, ys', rfl, e2⟩
theorem Ev.same {H H1 : Hp} (s : Same H H1) : Ev H H1 := fun b o e => .inl (s b o e)
theorem Ev.new {H : Hp} {p : Addr} {o : HO} (n : H p = none) : Ev H (upd H p o) := fun b u e => .inl (by
  rw [upd_ne (ne_of_none e n)]
  exact e)
theorem Ev.set {H : Hp} {p : Addr} {xs ys : List V} (h : H p = some (.lst xs)) : Ev H (upd H p (.lst ys)) := fun b u e => by
  by_cases z : b = p
  · subst z
    rw [h] at e
    cases e
    exact .inr ⟨xs, ys, rfl, upd_same⟩
  · exact .inl (by rw [upd_ne z]; exact e)
theorem Ev.tup {H H' : Hp} (s : Ev H H') {a : Addr} {xs : List V} (h : H a = some (.tup xs)) : H' a = some (.tup xs) := by
  rcases s a _ h with e | ⟨_, _, z, _⟩
  · exact e
  · cases z
theorem Odd.ev {K : PySem.W.Frag} {H H' : Hp} {v : V} (h : Odd K H v) (s : Ev H H') : Odd K H' v := by
  rcases h with h | ⟨a, xs, rfl, h⟩ | ⟨a, kvs, rfl, h⟩ | ⟨a, C, dx, fs, rfl, h, k⟩
  · exact .inl h
  · rcases s a _ h with e | ⟨_, ys, _, e⟩
    · exact .inr (.inl ⟨a, xs, rfl, e⟩)
    · exact .inr (.inl ⟨a, ys, rfl, e⟩)
  · rcases s a _ h with e | ⟨_, _, z, _⟩
    · exact .inr (.inr (.inl ⟨a, kvs, rfl, e⟩))
    · cases z
  · rcases s a _ h with e | ⟨_, _, z, _⟩
    · exact .inr (.inr (.inr ⟨a, C, dx, fs, rfl, e, k⟩))
    · cases z
theorem PN.ev {K : PySem.W.Frag} {H H' : Hp} (s : Ev H H') : ∀ {n : Nat} {v : V} {b : Bool}, PN K H n v b → PN K H' n v b
  | 0, v, b, h => by
    rcases h with h | ⟨h, e⟩ | ⟨a, xs, e, h, k⟩
    · exact .inl h
    · exact .inr (.inl ⟨h.ev s, e⟩)
    · exact .inr (.inr ⟨a, xs, e, s.tup h, k⟩)
  | n + 1, v, b, h => by
    rcases h with h | ⟨h, e⟩ | ⟨a, xs, e, h, k⟩
    · exact .inl h
    · exact .inr (.inl ⟨h.ev s, e⟩)
    · refine .inr (.inr ⟨a, xs, e, s.tup h, ?_⟩)
      rcases k with ⟨e, k⟩ | ⟨e, i, x, hx, k1, k2⟩
      · exact .inl ⟨e, fun x hx => (k x hx).ev s⟩
      · exact .inr ⟨e, i, x, hx, k1.ev s, fun j y hj hy => (k2 j y hj hy).ev s⟩
theorem PN.leaf {K : PySem.W.Frag} {H : Hp} {v : V} (h : leafB v = true) : ∀ n : Nat, PN K H n v true
  | 0 => .inl ⟨h, rfl⟩
  | _ + 1 => .inl ⟨h, rfl⟩
theorem PN.odd {K : PySem.W.Frag} {H : Hp} {v : V} (h : Odd K H v) : ∀ n : Nat, PN K H n v false
  | 0 => .inr (.inl ⟨h, rfl⟩)
  | _ + 1 => .inr (.inl ⟨h, rfl⟩)
/-! ### values -/
section
variable {P : Program} {w : World} {K : PySem.W.Frag} {mg : Str → Option Value} {base : Heap}
def spInt (K : PySem.W.Frag) : Sp := fun vs H Q _ => ∃ (v : V) (t : Value) (bi bb : Bool), vs = [v] ∧ TyX K H v t ∧ PySem.W.kitOne K t (.type "int") = some bi ∧ (bi = true → PySem.W.kitOne K t (.type "bool") = some bb) ∧ Q (.bl (bi && !bb)) H
theorem ok_int {f : Addr} {fd : FuncData} {k : Nat} (F : FnP K "is_int" "is_int" s_is_int f fd) (m_isinstance : mg "isinstance" = none) (m_int : mg "int" = none) (m_bool : mg "bool" = none) : FnOk P w K mg base CX0 (k + 1) f fd ["thing"] (spInt K) := by
  refine F.ok sc_is_int (fun vs H Q E h => ?_) (fun cdv A outer s H vs Q E hr h => ?_)
  · obtain ⟨v, t, bi, bb, rfl, _⟩ := h
    rfl
  · obtain ⟨v, t, bi, bb, rfl, ty, ki, kb, q⟩ := h
    refine ⟨_, pss_one (ps_ret (pe_and (pe_callB call_isi (by rfl) m_isinstance (by decide +kernel) (pa_cons (pv 0) (pa_cons (pe_bltn (v := .ty "int") (by rfl) m_int (by decide +kernel) rfl) pa_nil))) (pe_one (pe_not (pe_callB call_isi (by rfl) m_isinstance (by decide +kernel) (pa_cons (pv 0) (pa_cons (pe_bltn (v := .ty "bool") (by rfl) m_bool (by decide +kernel) rfl) pa_nil))))))), ?_⟩
    refine ⟨_, rfl, v, _, t, _, bi, rfl, .ty _, ty, ki, bi, rfl, ite2 (fun e => ?_) (fun e => ?_)⟩
    · subst e
      exact ⟨_, rfl, v, _, t, _, bb, rfl, .ty _, ty, kb rfl, bb, rfl, q⟩
    · have e2 : bi = false := by simpa using e
      subst e2
      exact q
theorem kit_bb {a b : String} {r : Bool} (h : L2.kitB a b = some r) : PySem.W.kitOne K (.type a) (.type b) = some r := kit_ty h
/-- what isinstance says of a leaf, of an odd thing, of a tuple -/
theorem odd_kinds {H : Hp} {v : V} (h : Odd K H v) : v ≠ .non ∧ ∃ (t : Value) (bi bb : Bool), TyX K H v t ∧ PySem.W.kitOne K t (.type "str") = some false ∧ PySem.W.kitOne K t (.type "int") = some bi ∧ (bi = true → PySem.W.kitOne K t (.type "bool") = some bb) ∧ (bi && !bb) = false ∧
    PySem.W.kitOne K t (.type "tuple") = some false := by
  rcases h with ⟨b, rfl⟩ | ⟨a, xs, rfl, h⟩ | ⟨a, kvs, rfl, h⟩ | ⟨a, C, dx, fs, rfl, h, k⟩
  · exact ⟨(fun z => by cases z), _, true, true, .base (.bl b), kit_bb (by decide +kernel), kit_bb (by decide +kernel), fun _ => kit_bb (by decide +kernel), rfl, kit_bb (by decide +kernel)⟩
  · exact ⟨(fun z => by cases z), _, false, false, .base (.lst h), kit_bb (by decide +kernel), kit_bb (by decide +kernel), (fun z => by cases z), rfl, kit_bb (by decide +kernel)⟩
  · exact ⟨(fun z => by cases z), _, false, false, .base (.dK h), kit_bb (by decide +kernel), kit_bb (by decide +kernel), (fun z => by cases z), rfl, kit_bb (by decide +kernel)⟩
  · exact ⟨(fun z => by cases z), _, false, false, .base (.ins h k.cl k.ca k.gs k.tk k.mr), k.ks, k.ki, (fun z => by cases z), rfl, k.kt⟩
/-- is_plain_within(thing, d), d below n -/
def spW (K : PySem.W.Frag) (n : Nat) : Sp := fun vs H Q _ => ∃ (v : V) (d : Nat) (b : Bool), vs = [v, .int d] ∧ d < n ∧ PN K H d v b ∧ Q (.bl b) H
theorem ok_within {f : Addr} {fd : FuncData} (F : FnP K "is_plain_within" "is_plain_within" s_is_plain_within f fd) (m_isinstance : mg "isinstance" = none) (m_str : mg "str" = none) (m_tuple : mg "tuple" = none) (m_len : mg "len" = none)
    (C_is_int : Cal P w K mg base CX0 "is_int" 1 ["thing"] (spInt K)) (b_is_plain_within : Binds K fd ["thing", "deepest"] []) (m_is_plain_within : mg "is_plain_within" = some (.ref f)) (k_is_plain_within : PySem.W.keepIn K (.ref f) = true) :
    ∀ n : Nat, FnOk P w K mg base CX0 (n + 1) f fd ["thing", "deepest"] (spW K n)
  | 0 => ⟨fun vs H Q E ⟨_, _, _, _, h, _⟩ => absurd h (Nat.not_lt_zero _), fun A outer s H args us vs Q E _ _ _ _ ⟨_, _, _, _, h, _⟩ => absurd h (Nat.not_lt_zero _)⟩
  | n + 1 => by
    have G_is_plain_within := ok_within F m_isinstance m_str m_tuple m_len C_is_int b_is_plain_within m_is_plain_within k_is_plain_within n
    obtain ⟨f_is_int, fd_is_int, G_is_int, b_is_int, m_is_int, k_is_int⟩ := C_is_int
    refine F.ok sc_is_plain_within (fun vs H Q E h => ?_) (fun cdv A outer s H vs Q E hr h => ?_)
    · obtain ⟨v, d, b, rfl, _⟩ := h
      rfl
    · obtain ⟨v, d, b, rfl, hd, pn, q⟩ := h
      refine ⟨_, PSs.nox (pss_cons (ps_if (PW.pt (pw_or (pt_cmp (pc_isN (pv 0))) (pw_or (pt_val (pe_callB call_isi (by rfl) m_isinstance (by decide +kernel) (pa_cons (pv 0) (pa_cons (pe_bltn (v := .ty "str") (by rfl) m_str (by decide +kernel) rfl) pa_nil)))) (pw_or1 (pt_val (pe_call G_is_int (hr.mono (by omega)) (by rfl) m_is_int k_is_int b_is_int .nil pass0 (pa_cons (pv 0) pa_nil))))))) (pss_one (ps_ret pe_bl)) (pss_nil))
    (pss_cons (ps_if (pt_not (pt_val (pe_callB call_isi (by rfl) m_isinstance (by decide +kernel) (pa_cons (pv 0) (pa_cons (pe_bltn (v := .ty "tuple") (by rfl) m_tuple (by decide +kernel) rfl) pa_nil))))) (pss_one (ps_ret pe_bl)) (pss_nil))
    (pss_cons (ps_if (pt_cmpR op_eq (pv 1) pe_int (nomark _)) (pss_one (ps_ret (pe_cmpR op_eq (pe_callB call_len_seq (by rfl) m_len PySem.boot_len (pa_cons (pv 0) pa_nil)) pe_int (nomark _)))) (pss_nil))
    (pss_cons (ps_for PassesOwn.never rfl (pi_tup (pv 0)) (pg_name (i := 2) sc_is_plain_within.nd rfl (.inl rfl))
      (pss_one (ps_if (pt_not (pt_val (pe_call G_is_plain_within (hr.mono (by omega)) (by rfl) m_is_plain_within k_is_plain_within b_is_plain_within .nil pass0 (pa_cons (pv 2) (pa_cons (pe_op op_sub (pv 1) pe_int) pa_nil))))) (pss_one (ps_ret pe_bl)) (pss_nil))))
    (pss_one (ps_ret pe_bl)))))), ?_⟩
      have hk : (leafB v = true ∧ b = true) ∨ (Odd K H v ∧ b = false) ∨ ∃ a xs, v = .ref a ∧ H a = some (.tup xs) ∧ (d = 0 → b = xs.isEmpty) ∧ (∀ e, d = e + 1 → (b = true ∧ ∀ x ∈ xs, PN K H e x true) ∨ (b = false ∧ ∃ (i : Nat) (x : V), xs[i]? = some x ∧ PN K H e x false ∧ ∀ (j : Nat) (y : V), j < i → xs[j]? = some y → PN K H e y true)) := by
        cases d with
        | zero =>
          rcases pn with h | h | ⟨a, xs, e1, e2, e3⟩
          · exact .inl h
          · exact .inr (.inl h)
          · exact .inr (.inr ⟨a, xs, e1, e2, fun _ => e3, fun e z => by cases z⟩)
        | succ d =>
          rcases pn with h | h | ⟨a, xs, e1, e2, e3⟩
          · exact .inl h
          · exact .inr (.inl h)
          · exact .inr (.inr ⟨a, xs, e1, e2, (fun z => by cases z), fun e z => by cases z; exact e3⟩)
      rcases hk with ⟨hv, rfl⟩ | ⟨ho, rfl⟩ | ⟨a, xs, rfl, ha, h0, h1⟩
      · cases v with
        | non =>
          refine ⟨_, rfl, _, rfl, iteT (iteT ?_)⟩
          exact q
        | str z =>
          refine ⟨_, rfl, _, rfl, iteF ⟨_, rfl, .str z, _, _, _, true, rfl, .ty _, .base (.str z), kit_bb (by decide +kernel), true, rfl, iteT (iteT ?_)⟩⟩
          exact q
        | int z =>
          refine ⟨_, rfl, _, rfl, iteF ⟨_, rfl, .int z, _, _, _, false, rfl, .ty _, .base (.int z), kit_bb (by decide +kernel), false, rfl, iteF ?_⟩⟩
          refine ⟨_, rfl, .int z, _, true, false, rfl, .base (.int z), kit_bb (by decide +kernel), fun _ => kit_bb (by decide +kernel), _, rfl, iteT ?_⟩
          exact q
        | _ => cases hv
      · obtain ⟨hn, t, bi, bb, ty, ks, ki, kb, e0, kt⟩ := odd_kinds ho
        have en : decide (v = V.non) = false := decide_eq_false hn
        refine ⟨v, rfl, decide (v = V.non), rfl, ?_⟩
        rw [en]
        refine iteF ⟨_, rfl, v, _, t, _, false, rfl, .ty _, ty, ks, false, rfl, iteF ?_⟩
        refine ⟨_, rfl, v, t, bi, bb, rfl, ty, ki, kb, _, rfl, ?_⟩
        rw [e0]
        refine iteF ⟨_, rfl, v, _, t, _, false, rfl, .ty _, ty, kt, false, rfl, iteT ?_⟩
        exact q
      · have ty : TyX K H (.ref a) (.type "tuple") := .base (.tup ha)
        refine ⟨_, rfl, _, rfl, iteF ⟨_, rfl, .ref a, _, _, _, false, rfl, .ty _, ty, kit_bb (by decide +kernel), false, rfl, iteF ?_⟩⟩
        refine ⟨_, rfl, .ref a, _, false, false, rfl, ty, kit_bb (by decide +kernel), (fun z => by cases z), _, rfl, iteF ?_⟩
        refine ⟨_, rfl, .ref a, _, _, _, true, rfl, .ty _, ty, kit_bb (by decide +kernel), true, rfl, iteF ?_⟩
        -- deepest == 0
        refine ⟨_, rfl, rfl, _, rfl, ite2 (fun e => ?_) (fun e => ?_)⟩
        · have d0 : d = 0 := by
            have z := V.int.inj (of_decide_eq_true e)
            omega
          refine ⟨_, rfl, a, xs, rfl, .inr (.inl (.inl ha)), rfl, ?_⟩
          have eb := h0 d0
          have e2 : decide (V.int (xs.length : Int) = V.int 0) = b := by
            rw [eb]
            cases xs with
            | nil => rfl
            | cons x r =>
              refine decide_eq_false fun z => ?_
              have z2 := V.int.inj z
              rw [List.length_cons] at z2
              omega
          rw [e2]
          exact q
        · obtain ⟨e', rfl⟩ : ∃ e', d = e' + 1 := by
            cases d with
            | zero => exact absurd (decide_eq_true rfl) e
            | succ m => exact ⟨m, rfl⟩
          have hm := h1 e' rfl
          have earg : ∀ x : V, [x, V.int (((e' + 1 : Nat) : Int) - 1)] = [x, V.int (e' : Int)] := fun x => by
            rw [show ((e' + 1 : Nat) : Int) - 1 = (e' : Int) by omega]
          rcases hm with ⟨rfl, hall⟩ | ⟨rfl, i0, x0, hx0, k0, kt⟩
          · refine ⟨_, rfl, a, rfl, ⟨xs, .inl (.inl ha)⟩, for_tup (K := K) (a := a) (xs := xs) (fun i σ H' => H' = H ∧ ∃ v2, σ = [some (.ref a), some (.int ((e' + 1 : Nat) : Int)), v2])
              ⟨rfl, none, rfl⟩ (fun i σ H' _ ⟨z, _⟩ => by rw [z]; exact .inl (.inl ha)) ?_ ?_⟩
            · rintro i x σ H' hx ⟨rfl, v2, rfl⟩
              refine ⟨_, rfl, _, rfl, _, 1, rfl, rfl, x, e', true, earg _, by omega, hall x (List.mem_of_getElem? hx), true, rfl, iteF ?_⟩
              exact ⟨rfl, _, rfl⟩
            · rintro σ H' ⟨rfl, v2, rfl⟩
              exact q
          · have hi0 := (List.getElem?_eq_some_iff.mp hx0).1
            refine ⟨_, rfl, a, rfl, ⟨xs, .inl (.inl ha)⟩, for_tup (K := K) (a := a) (xs := xs) (fun i σ H' => i ≤ i0 ∧ H' = H ∧ ∃ v2, σ = [some (.ref a), some (.int ((e' + 1 : Nat) : Int)), v2])
              ⟨Nat.zero_le _, rfl, none, rfl⟩ (fun i σ H' _ ⟨_, z, _⟩ => by rw [z]; exact .inl (.inl ha)) ?_ ?_⟩
            · rintro i x σ H' hx ⟨hi, rfl, v2, rfl⟩
              by_cases hlt : i < i0
              · refine ⟨_, rfl, _, rfl, _, 1, rfl, rfl, x, e', true, earg _, by omega, kt i x hlt hx, true, rfl, iteF ?_⟩
                exact ⟨hlt, rfl, _, rfl⟩
              · obtain rfl : i = i0 := by omega
                rw [hx0] at hx
                cases hx
                refine ⟨_, rfl, _, rfl, _, 1, rfl, rfl, _, e', false, earg _, by omega, k0, false, rfl, iteT ?_⟩
                exact q
            · rintro σ H' ⟨hi, _⟩
              exact absurd hi0 (by omega)
def spPlain (K : PySem.W.Frag) : Sp := fun vs H Q _ => ∃ (v : V) (b : Bool), vs = [v] ∧ PN K H 4 v b ∧ Q (.bl b) H
theorem ok_plain {f : Addr} {fd : FuncData} {k : Nat} {t : Tok} (F : FnP K "is_plain" "is_plain" s_is_plain f fd) (m_DEEPEST : mg "DEEPEST" = some (.int 4 t)) (C_w : Cal P w K mg base CX0 "is_plain_within" k ["thing", "deepest"] (spW K 5)) :
    FnOk P w K mg base CX0 (k + 1) f fd ["thing"] (spPlain K) := by
  obtain ⟨f_is_plain_within, fd_is_plain_within, G_is_plain_within, b_is_plain_within, m_is_plain_within, k_is_plain_within⟩ := C_w
  refine F.ok sc_is_plain (fun vs H Q E h => ?_) (fun cdv A outer s H vs Q E hr h => ?_)
  · obtain ⟨v, b, rfl, _⟩ := h
    rfl
  · obtain ⟨v, b, rfl, pn, q⟩ := h
    refine ⟨_, pss_one (ps_ret (pe_call G_is_plain_within (hr.mono (by omega)) (by rfl) m_is_plain_within k_is_plain_within b_is_plain_within .nil pass0 (pa_cons (pv 0) (pa_cons (pe_glob (v := .int 4) (by rfl) m_DEEPEST ⟨_, rfl⟩) pa_nil)))), ?_⟩
    exact ⟨_, rfl, v, 4, b, rfl, by decide, pn, q⟩
end
end K01
set_option Elab.async false
set_option linter.all false
set_option maxRecDepth 100000
set_option maxHeartbeats 2000000
namespace K01
open PySem PySem.Spec PyProof.Rows L2 CM
section
variable {P : Program} {w : World} {K : PySem.W.Frag} {mg : Str → Option Value} {base : Heap}
/-! ### draws -/
def spWell : Sp := fun vs H Q _ => ∃ i : Int, vs = [.int i] ∧ ∀ p, H p = none → Q (.ref p) (upd H p (.lst [.int i, .int 0]))
def spDraw : Sp := fun vs H Q _ => ∃ (a : Addr) (x c m : Int), vs = [.ref a, .int m] ∧ H a = some (.lst [.int x, .int c]) ∧ 0 < m ∧ m < 1073741824 ∧
  ∀ r x' c' : Int, 0 ≤ r → r < m → Q (.int r) (upd H a (.lst [.int x', .int c']))
theorem ok_well {f : Addr} {fd : FuncData} {k : Nat} (F : FnP K "_law_well" "_law_well" s_law_well f fd) (m_int : mg "int" = none) : FnOk P w K mg base CX0 (k + 1) f fd ["_law_cell"] spWell := by
  refine F.ok sc_law_well (fun vs H Q E h => ?_) (fun cdv A outer s H vs Q E hr h => ?_)
  · obtain ⟨i, rfl, _⟩ := h
    rfl
  · obtain ⟨i, rfl, q⟩ := h
    refine ⟨_, pss_one (ps_ret (pe_lst (pa_cons (pe_callTy call_int1 (by rfl) m_int boot_int (pa_cons (pv 0) pa_nil)) (pa_cons pe_int pa_nil)))), ?_⟩
    exact ⟨_, rfl, .inl ⟨i, rfl, ⟨by show 2 ≤ sizeLine; decide, fun p hp => q p hp⟩⟩⟩
theorem ok_draw {f : Addr} {fd : FuncData} {k : Nat} (F : FnP K "_law_draw" "_law_draw" s_law_draw f fd) (m_int : mg "int" = none) : FnOk P w K mg base CX0 (k + 1) f fd ["_law_well_here", "_law_many"] spDraw := by
  refine F.ok sc_law_draw (fun vs H Q E h => ?_) (fun cdv A outer s H vs Q E hr h => ?_)
  · obtain ⟨a, x, c, m, rfl, _⟩ := h
    rfl
  · obtain ⟨a, x, c, m, rfl, ha, m0, m1, q⟩ := h
    refine ⟨_, pss_cons (ps_if (pt_cmpR op_ge (pe_ix ix_list (pv 0) pe_int (fun _ _ => rfl)) (pe_op op_pow pe_int pe_int) (nomark _)) (pss_cons (ps_set (i := 2) sc_law_draw.nd rfl (.inl rfl) (pe_op op_mod (pe_callTy call_int1 (by rfl) m_int boot_int (pa_cons (pe_ix ix_list (pv 0) pe_int (fun _ _ => rfl)) pa_nil)) (pv 1)))
      (pss_cons (ps_asg (pe_op op_fdiv (pe_ix ix_list (pv 0) pe_int (fun _ _ => rfl)) (pv 1)) (pg_sub (pv 0) pe_int set_list))
      (pss_one (ps_ret (pv 2))))) (pss_nil))
    (pss_cons (ps_asg (pe_op op_add (pe_ix ix_list (pv 0) pe_int (fun _ _ => rfl)) pe_int) (pg_sub (pv 0) pe_int set_list))
    (pss_cons (ps_set (i := 3) sc_law_draw.nd rfl (.inl rfl) (pe_op op_mod (pe_callTy call_int1 (by rfl) m_int boot_int (pa_cons (pe_op op_mul (pe_callTy call_int1 (by rfl) m_int boot_int (pa_cons (pe_op op_add (pe_op op_add (pe_op op_mod (pe_callTy call_int1 (by rfl) m_int boot_int (pa_cons (pe_ix ix_list (pv 0) pe_int (fun _ _ => rfl)) pa_nil)) pe_int) (pe_op op_mul pe_int (pe_ix ix_list (pv 0) pe_int (fun _ _ => rfl)))) pe_int) pa_nil)) pe_int) pa_nil)) pe_int))
    (pss_cons (ps_set (i := 4) sc_law_draw.nd rfl (.inl rfl) (pe_op op_mod (pe_callTy call_int1 (by rfl) m_int boot_int (pa_cons (pe_op op_fdivW (pe_ix ix_list (pv 0) pe_int (fun _ _ => rfl)) pe_int) pa_nil)) pe_int))
    (pss_cons (ps_set (i := 3) sc_law_draw.nd rfl (.inl rfl) (pe_op op_mod (pe_callTy call_int1 (by rfl) m_int boot_int (pa_cons (pe_op op_mul (pv 3) (pe_op op_add (pe_op op_add (pe_op op_fdiv (pv 3) pe_int) pe_int) (pv 4))) pa_nil)) pe_int))
    (pss_one (ps_ret (pe_op op_mod (pe_callTy call_int1 (by rfl) m_int boot_int (pa_cons (pe_op op_fdiv (pe_op op_mod (pe_callTy call_int1 (by rfl) m_int boot_int (pa_cons (pe_op op_mul (pv 3) (pe_op op_add (pe_op op_fdiv (pv 3) pe_int) pe_int)) pa_nil)) pe_int) pe_int) pa_nil)) (pv 1)))))))), ?_⟩
    have hA : SqL K H a [.int x, .int c] := .inl (.inl ha)
    -- if well[0] >= 10 ** 18
    refine ⟨_, rfl, a, _, 0, _, rfl, rfl, hA, rfl, ?_⟩
    refine ⟨10, 18, rfl, rfl, ⟨by decide, by decide, by decide⟩, ?_⟩
    refine ⟨x, _, rfl, rfl, _, rfl, ite2 (fun big => ?_) (fun small => ?_)⟩
    · refine ⟨_, rfl, a, _, 0, _, rfl, rfl, hA, rfl, .inl ⟨x, rfl, _, rfl, x, m, rfl, rfl, m0, ?_⟩⟩
      refine ⟨_, rfl, a, _, 0, _, rfl, rfl, hA, rfl, _, rfl, x, m, rfl, rfl, ⟨m0, m1⟩, ?_⟩
      refine ⟨_, rfl, a, _, 0, 0, rfl, rfl, ha, rfl, ?_⟩
      exact ⟨_, rfl, q (x % m) (x / m) c (Int.emod_nonneg _ (by omega)) (Int.emod_lt_of_pos _ m0)⟩
    · -- well[1] = well[1] + 1
      refine ⟨_, rfl, a, _, 1, _, rfl, rfl, hA, rfl, c, 1, rfl, rfl, _, rfl, a, _, 1, 1, rfl, rfl, ha, rfl, ?_⟩
      have hB : SqL K (upd H a (.lst [.int x, .int (c + 1)])) a [.int x, .int (c + 1)] := .inl (.inl upd_same)
      have e2 : upd H a (.lst ([V.int x, V.int c].set 1 (.int (c + 1)))) = upd H a (.lst [.int x, .int (c + 1)]) := rfl
      rw [e2]
      have k1 : (0 : Int) < 2147483629 := by decide
      refine ⟨_, rfl, a, _, 0, _, rfl, rfl, hB, rfl, .inl ⟨x, rfl, x, 2147483629, rfl, rfl, (by show (0 : Int) < 2147483629; decide), ?_⟩⟩
      refine ⟨_, rfl, a, _, 1, _, rfl, rfl, hB, rfl, 60013, c + 1, rfl, rfl, .inl (by decide), _, _, rfl, rfl, _, _, rfl, rfl, .inl ⟨_, rfl, ?_⟩⟩
      refine ⟨_, _, rfl, rfl, .inr (by decide), .inl ⟨_, rfl, _, _, rfl, rfl, (by show (0 : Int) < 2147483647; decide), ?_⟩⟩
      dsimp only
      generalize hn : ((x % 2147483629 + 60013 * (c + 1) + 11) * 48271) % 2147483647 = n
      have n0 : 0 ≤ n := by rw [← hn]; exact Int.emod_nonneg _ (by decide)
      have n1 : n < 2147483647 := by rw [← hn]; exact Int.emod_lt_of_pos _ (by decide)
      refine ⟨_, rfl, a, _, 0, _, rfl, rfl, hB, rfl, x, _, rfl, rfl, wide_div (b := 40) (by decide) (by decide) (by decide) (by decide), .inl ⟨_, rfl, _, _, rfl, rfl, (by show (0 : Int) < 9973; decide), ?_⟩⟩
      dsimp only
      generalize hz : (x / 2147483629) % 9973 = z
      refine ⟨_, rfl, _, rfl, _, _, rfl, rfl, ⟨by decide, by decide⟩, _, _, rfl, rfl, _, rfl, _, _, rfl, rfl, n, _, rfl, rfl, .inl ⟨by omega, by omega⟩, .inl ⟨_, rfl, _, _, rfl, rfl, (by show (0 : Int) < 2147483587; decide), ?_⟩⟩
      dsimp only
      generalize hg : (n * (n / 1013 + 40692 + z)) % 2147483587 = g
      have g0 : 0 ≤ g := by rw [← hg]; exact Int.emod_nonneg _ (by decide)
      have g1 : g < 2147483587 := by rw [← hg]; exact Int.emod_lt_of_pos _ (by decide)
      refine ⟨_, rfl, _, rfl, _, _, rfl, rfl, ⟨by decide, by decide⟩, _, _, rfl, rfl, g, _, rfl, rfl, .inl ⟨by omega, by omega⟩, .inl ⟨_, rfl, _, _, rfl, rfl, (by show (0 : Int) < 2147483563; decide), ?_⟩⟩
      refine ⟨_, _, rfl, rfl, ⟨by decide, by decide⟩, .inl ⟨_, rfl, _, rfl, _, m, rfl, rfl, m0, ?_⟩⟩
      exact q _ x (c + 1) (Int.emod_nonneg _ (by omega)) (Int.emod_lt_of_pos _ m0)
/-- one of a list's items -/
def spOne (K : PySem.W.Frag) : Sp := fun vs H Q _ => ∃ (a b : Addr) (x c : Int) (xs : List V), vs = [.ref a, .ref b] ∧ H a = some (.lst [.int x, .int c]) ∧ SqL K H b xs ∧ (∀ x' c' : Int, SqL K (upd H a (.lst [.int x', .int c'])) b xs) ∧ 0 < xs.length ∧ xs.length ≤ 1000 ∧
  ∀ (v : V) (x' c' : Int), v ∈ xs → Q v (upd H a (.lst [.int x', .int c']))
theorem ok_one {f : Addr} {fd : FuncData} {k : Nat} (F : FnP K "_law_one" "_law_one" s_law_one f fd) (C_draw : Cal P w K mg base CX0 "_law_draw" (k + 1) ["_law_well_here", "_law_many"] spDraw) (m_len : mg "len" = none) :
    FnOk P w K mg base CX0 (k + 1 + 1) f fd ["_law_well_here", "_law_some"] (spOne K) := by
  obtain ⟨f_law_draw, fd_law_draw, G_law_draw, b_law_draw, m_law_draw, k_law_draw⟩ := C_draw
  refine F.ok sc_law_one (fun vs H Q E h => ?_) (fun cdv A outer s H vs Q E hr h => ?_)
  · obtain ⟨a, b, x, c, xs, rfl, _⟩ := h
    rfl
  · obtain ⟨a, b, x, c, xs, rfl, ha, hb, hb', l0, l1, q⟩ := h
    refine ⟨_, pss_one (ps_ret (pe_ix ix_list (pv 1) (pe_call G_law_draw (hr.mono (by omega)) (by rfl) m_law_draw k_law_draw b_law_draw .nil pass0 (pa_cons (pv 0) (pa_cons (pe_callB call_len_seq (by rfl) m_len PySem.boot_len (pa_cons (pv 1) pa_nil)) pa_nil))) (fun _ _ => rfl))), ?_⟩
    refine ⟨_, rfl, _, rfl, _, rfl, b, xs, rfl, .inl hb, a, x, c, xs.length, rfl, ha, by omega, by omega, fun r x' c' r0 r1 => ?_⟩
    obtain ⟨i, rfl⟩ := Int.eq_ofNat_of_zero_le r0
    have hi : i < xs.length := by omega
    exact ⟨b, xs, _, xs[i], rfl, rfl, hb' x' c', atI_nat (List.getElem?_eq_getElem hi), q _ x' c' (List.getElem_mem hi)⟩

/-! ### things drawn -/
theorem same_upd {H : Hp} {p : Addr} {o : HO} (h : H p = none) : Same H (upd H p o) := fun b x e => by
  rw [upd_ne (ne_of_none e h)]
  exact e
theorem same_put {A H : Hp} {p : Addr} {o : HO} (s : Same A H) (h : A p = none) : Same A (upd H p o) := fun b u e => by
  rw [upd_ne (ne_of_none e h)]
  exact s b u e
/-- a drawn thing of so many levels -/
def Th (H : Hp) : Nat → V → Prop
  | 0, v => leafB v = true ∨ ∃ a, v = .ref a ∧ H a = some (.tup [])
  | h + 1, v => leafB v = true ∨ ∃ a xs, v = .ref a ∧ H a = some (.tup xs) ∧ xs.length ≤ 3 ∧ ∀ x ∈ xs, Th H h x
theorem Th.ev {H H' : Hp} (s : Ev H H') : ∀ {n : Nat} {v : V}, Th H n v → Th H' n v
  | 0, v, h => by
    rcases h with h | ⟨a, e, h⟩
    · exact .inl h
    · exact .inr ⟨a, e, s.tup h⟩
  | n + 1, v, h => by
    rcases h with h | ⟨a, xs, e, h, l, k⟩
    · exact .inl h
    · exact .inr ⟨a, xs, e, s.tup h, l, fun x hx => (k x hx).ev s⟩
theorem Th.zero {H : Hp} {v : V} (h : Th H 0 v) : ∀ n : Nat, Th H n v
  | 0 => h
  | n + 1 => by
    rcases h with h | ⟨a, e, h⟩
    · exact .inl h
    · exact .inr ⟨a, [], e, h, Nat.zero_le _, fun x hx => absurd hx (List.not_mem_nil)⟩
/-- d deep -/
def DP (K : PySem.W.Frag) (H : Hp) (v : V) (d : Nat) : Prop := ∀ n : Nat, PN K H n v (decide (d ≤ n))
theorem DP.ev {H H' : Hp} {v : V} {d : Nat} (h : DP K H v d) (s : Ev H H') : DP K H' v d := fun n => (h n).ev s
theorem DP.zero {H : Hp} {v : V} (h : Th H 0 v) : DP K H v 0 := fun n => by
  rw [show decide (0 ≤ n) = true from decide_eq_true (Nat.zero_le _)]
  rcases h with h | ⟨a, rfl, h⟩
  · exact .leaf h n
  · cases n with
    | zero => exact .inr (.inr ⟨a, [], rfl, h, rfl⟩)
    | succ n => exact .inr (.inr ⟨a, [], rfl, h, .inl ⟨rfl, fun x hx => absurd hx (List.not_mem_nil)⟩⟩)
/-- how deep a tuple of things is -/
def deepOf (ds : List Nat) : Nat := ds.foldl (fun m d => max m (d + 1)) 0
theorem deep_snoc (ds : List Nat) (d : Nat) : deepOf (ds ++ [d]) = max (deepOf ds) (d + 1) := by
  unfold deepOf
  rw [List.foldl_append]
  rfl
theorem deep_le : ∀ (ds : List Nat) (m n : Nat), ds.foldl (fun m d => max m (d + 1)) m ≤ n ↔ m ≤ n ∧ ∀ d ∈ ds, d + 1 ≤ n
  | [], m, n => ⟨fun h => ⟨h, fun d hd => absurd hd (List.not_mem_nil)⟩, fun h => h.1⟩
  | d :: ds, m, n => by
    show ds.foldl _ (max m (d + 1)) ≤ n ↔ _
    rw [deep_le ds (max m (d + 1)) n]
    constructor
    · rintro ⟨h1, h2⟩
      exact ⟨by omega, fun e he => by
        rcases List.mem_cons.mp he with rfl | he
        · omega
        · exact h2 e he⟩
    · rintro ⟨h1, h2⟩
      have := h2 d (List.mem_cons_self ..)
      exact ⟨by omega, fun e he => h2 e (List.mem_cons_of_mem _ he)⟩
/-- some item that is not plain makes the tuple so -/
theorem tup_bad {H : Hp} {n : Nat} : ∀ (xs : List V) (bs : List Bool), Paired (fun x b => PN K H n x b) xs bs → false ∈ bs →
    ∃ (i : Nat) (x : V), xs[i]? = some x ∧ PN K H n x false ∧ ∀ (j : Nat) (y : V), j < i → xs[j]? = some y → PN K H n y true
  | [], _, .nil, h => absurd h (List.not_mem_nil)
  | x :: xs, false :: bs, .cons a r, h => ⟨0, x, rfl, a, fun j y hj => absurd hj (Nat.not_lt_zero _)⟩
  | x :: xs, true :: bs, .cons a r, h => by
    have h2 : false ∈ bs := by
      rcases List.mem_cons.mp h with h | h
      · cases h
      · exact h
    obtain ⟨i, z, e, k, t⟩ := tup_bad xs bs r h2
    refine ⟨i + 1, z, e, k, fun j y hj hy => ?_⟩
    cases j with
    | zero =>
      cases hy
      exact a
    | succ j => exact t j y (Nat.lt_of_succ_lt_succ hj) hy
theorem tup_good {H : Hp} {n : Nat} : ∀ (xs : List V) (bs : List Bool), Paired (fun x b => PN K H n x b) xs bs → false ∉ bs → ∀ x ∈ xs, PN K H n x true
  | [], _, .nil, h, x, hx => absurd hx (List.not_mem_nil)
  | y :: xs, true :: bs, .cons a r, h, x, hx => by
    rcases List.mem_cons.mp hx with rfl | hx
    · exact a
    · exact tup_good xs bs r (fun z => h (List.mem_cons_of_mem _ z)) x hx
  | y :: xs, false :: bs, .cons a r, h, x, hx => absurd (List.mem_cons_self ..) h
theorem DP.tup {H : Hp} {a : Addr} {xs : List V} {ds : List Nat} (h : H a = some (.tup xs)) (ne : xs ≠ []) (k : Paired (DP K H) xs ds) : DP K H (.ref a) (deepOf ds) := fun n => by
  have hne : ds ≠ [] := fun z => by
    subst z
    cases k
    exact ne rfl
  have hm : ∀ m : Nat, deepOf ds ≤ m ↔ 0 ≤ m ∧ ∀ d ∈ ds, d + 1 ≤ m := fun m => deep_le ds 0 m
  cases n with
  | zero =>
    refine .inr (.inr ⟨a, xs, rfl, h, ?_⟩)
    have e1 : xs.isEmpty = false := by
      cases xs with
      | nil => exact absurd rfl ne
      | cons => rfl
    rw [e1]
    refine decide_eq_false fun z => ?_
    obtain ⟨d, hd⟩ := List.exists_mem_of_ne_nil ds hne
    have := ((hm 0).mp z).2 d hd
    omega
  | succ n =>
    refine .inr (.inr ⟨a, xs, rfl, h, ?_⟩)
    have kb : Paired (fun x b => PN K H n x b) xs (ds.map fun d => decide (d ≤ n)) := by
      clear hne hm h ne
      induction k with
      | nil => exact .nil
      | cons a _ ih => exact .cons (a n) ih
    by_cases hd : deepOf ds ≤ n + 1
    · refine .inl ⟨decide_eq_true hd, tup_good _ _ kb fun z => ?_⟩
      obtain ⟨d, hm1, e⟩ := List.mem_map.mp z
      have := ((hm (n + 1)).mp hd).2 d hm1
      have e2 := of_decide_eq_false e
      omega
    · refine .inr ⟨decide_eq_false hd, tup_bad _ _ kb ?_⟩
      have hx : ∃ d ∈ ds, ¬ d + 1 ≤ n + 1 := Classical.byContradiction fun z => hd ((hm (n + 1)).mpr ⟨Nat.zero_le _, fun d hdm => Classical.byContradiction fun y => z ⟨d, hdm, y⟩⟩)
      obtain ⟨d, hdm, hdn⟩ := hx
      exact List.mem_map.mpr ⟨d, hdm, decide_eq_false fun y => hdn (by omega)⟩
theorem mulOk_x {n : Int} (h0 : 0 ≤ n) (h1 : n < 1000) : MulOk "x" n := by
  have l1 : ("x" : Str).length = 1 := rfl
  refine ⟨?_, fun h2 _ => ?_, fun h2 _ => ?_⟩
  · simp only [Bool.or_eq_false_iff, decide_eq_false_iff_not]
    omega
  · rw [l1]
    have h3 : 1 ≤ (2 ^ 63 - 1) / n := (Int.le_ediv_iff_mul_le (by omega)).mpr (by omega)
    omega
  · rw [l1, Nat.one_mul]
    unfold Builtin.Str.tooLong
    rw [sizeLine_eq]
    exact decide_eq_false (by omega)
end
end K01
set_option Elab.async false
set_option linter.all false
set_option maxRecDepth 100000
set_option maxHeartbeats 2000000
namespace K01
open PySem PySem.Spec PyProof.Rows L2 CM
section
variable {P : Program} {w : World} {K : PySem.W.Frag} {mg : Str → Option Value} {base : Heap}
theorem pair_ev {α β : Type} {R S : α → β → Prop} {xs : List α} {ys : List β} (h : Paired R xs ys) (f : ∀ {x y}, R x y → S x y) : Paired S xs ys := by
  induction h with
  | nil => exact .nil
  | cons a _ ih => exact .cons (f a) ih
theorem pair_snoc {α β : Type} {R : α → β → Prop} {xs : List α} {ys : List β} {x : α} {y : β} (h : Paired R xs ys) (k : R x y) : Paired R (xs ++ [x]) (ys ++ [y]) := by
  induction h with
  | nil => exact .cons k .nil
  | cons a _ ih => exact .cons a ih
/-- all but a stays -/
def Kp (a : Addr) (H H' : Hp) : Prop := ∀ b o, b ≠ a → H b = some o → H' b = some o
theorem Kp.trans {a : Addr} {H H1 H2 : Hp} (x : Kp a H H1) (y : Kp a H1 H2) : Kp a H H2 := fun b o n e => y b o n (x b o n e)
theorem Kp.same {a : Addr} {H H1 : Hp} (s : Same H H1) : Kp a H H1 := fun b o _ e => s b o e
theorem Kp.set {a : Addr} {H : Hp} {o : HO} : Kp a H (upd H a o) := fun b u n e => by
  rw [upd_ne n]
  exact e
theorem Kp.ev {a : Addr} {H H1 : Hp} {xs ys : List V} (k : Kp a H H1) (h : H a = some (.lst xs)) (h1 : H1 a = some (.lst ys)) : Ev H H1 := fun b o e => by
  by_cases z : b = a
  · subst z
    rw [h] at e
    cases e
    exact .inr ⟨xs, ys, rfl, h1⟩
  · exact .inl (k b o z e)
/-- _law_thing(well, room), room below n -/
def spThing (K : PySem.W.Frag) (n : Nat) : Sp := fun vs H Q _ => ∃ (a : Addr) (room : Nat) (x c : Int), vs = [.ref a, .int room] ∧ room < n ∧ H a = some (.lst [.int x, .int c]) ∧
  ∀ (H' : Hp) (p : Addr) (v : V) (d : Nat) (x' c' : Int), Kp a H H' → H' a = some (.lst [.int x', .int c']) → H' p = some (.tup [v, .int d]) → Th H' room v → DP K H' v d → Q (.ref p) H'
theorem ok_thing {f : Addr} {fd : FuncData} (F : FnP K "_law_thing" "_law_thing" s_law_thing f fd) (m_range : mg "range" = none) (m_max : mg "max" = none) (m_tuple : mg "tuple" = none)
    (C_draw : Cal P w K mg base CX0 "_law_draw" 2 ["_law_well_here", "_law_many"] spDraw) (C_one : Cal P w K mg base CX0 "_law_one" 2 ["_law_well_here", "_law_some"] (spOne K))
    (b_law_thing : Binds K fd ["_law_well_here", "_law_room"] []) (m_law_thing : mg "_law_thing" = some (.ref f)) (k_law_thing : PySem.W.keepIn K (.ref f) = true) :
    ∀ n : Nat, FnOk P w K mg base CX0 (n + 2) f fd ["_law_well_here", "_law_room"] (spThing K n)
  | 0 => ⟨fun vs H Q E ⟨_, _, _, _, _, h, _⟩ => absurd h (Nat.not_lt_zero _), fun A outer s H args us vs Q E _ _ _ _ ⟨_, _, _, _, _, h, _⟩ => absurd h (Nat.not_lt_zero _)⟩
  | n + 1 => by
    have G_law_thing := ok_thing F m_range m_max m_tuple C_draw C_one b_law_thing m_law_thing k_law_thing n
    obtain ⟨f_law_draw, fd_law_draw, G_law_draw, b_law_draw, m_law_draw, k_law_draw⟩ := C_draw
    obtain ⟨f_law_one, fd_law_one, G_law_one, b_law_one, m_law_one, k_law_one⟩ := C_one
    refine F.ok sc_law_thing (fun vs H Q E h => ?_) (fun cdv A outer s H vs Q E hr h => ?_)
    · obtain ⟨a, room, x, c, rfl, _⟩ := h
      rfl
    · obtain ⟨a, room, x, c, rfl, hn, ha, q⟩ := h
      refine ⟨_, PSs.nox (pss_cons (ps_set (i := 2) sc_law_thing.nd rfl (.inl rfl) (pe_call G_law_draw (hr.mono (by omega)) (by rfl) m_law_draw k_law_draw b_law_draw .nil pass0 (pa_cons (pv 0) (pa_cons (pe_ifExp (pt_cmpR op_gt (pv 1) pe_int (nomark _)) pe_int pe_int) pa_nil))))
    (pss_cons (ps_if (pt_cmpR op_lt (pv 2) pe_int (nomark _)) (pss_cons (ps_set (i := 3) sc_law_thing.nd rfl (.inl rfl) (pe_lst (pa_cons pe_int (pa_cons (pe_op op_sub pe_int (pe_call G_law_draw (hr.mono (by omega)) (by rfl) m_law_draw k_law_draw b_law_draw .nil pass0 (pa_cons (pv 0) (pa_cons (pe_op op_pow pe_int pe_int) pa_nil)))) (pa_cons (pe_op op_pow pe_int pe_int) (pa_cons pe_str (pa_cons pe_str (pa_cons (pe_op op_strmul pe_str (pe_call G_law_draw (hr.mono (by omega)) (by rfl) m_law_draw k_law_draw b_law_draw .nil pass0 (pa_cons (pv 0) (pa_cons pe_int pa_nil)))) (pa_cons pe_non (pa_cons (pe_tup (pa_nil)) (pa_cons (pe_tup (pa_nil)) pa_nil)))))))))))
      (pss_one (ps_ret (pe_tup (pa_cons (pe_call G_law_one (hr.mono (by omega)) (by rfl) m_law_one k_law_one b_law_one .nil pass0 (pa_cons (pv 0) (pa_cons (pv 3) pa_nil))) (pa_cons pe_int pa_nil)))))) (pss_nil))
    (pss_cons (ps_par (i := 4) (j := 5) rfl sc_law_thing.nd rfl rfl (by decide) rfl rfl (pa_cons (pe_lst (pa_nil)) (pa_cons pe_int pa_nil)) (by rfl))
    (pss_cons (ps_for PassesOwn.never rfl (pi_range1 (by rfl) m_range (pa_cons (pe_op op_add pe_int (pe_call G_law_draw (hr.mono (by omega)) (by rfl) m_law_draw k_law_draw b_law_draw .nil pass0 (pa_cons (pv 0) (pa_cons pe_int pa_nil)))) pa_nil)) (pg_name (i := 6) sc_law_thing.nd rfl (.inl rfl))
      (pss_cons (ps_asg (pe_call G_law_thing (hr.mono (by omega)) (by rfl) m_law_thing k_law_thing b_law_thing .nil pass0 (pa_cons (pv 0) (pa_cons (pe_op op_sub (pv 1) pe_int) pa_nil))) (pg_tup rfl (pgs_cons (pg_name (i := 7) sc_law_thing.nd rfl (.inl rfl)) (pgs_cons (pg_name (i := 8) sc_law_thing.nd rfl (.inl rfl)) (pgs_nil)))))
      (pss_cons (ps_expr (pe_bm PySem.F.plainAttrs_list PySem.F.slot_list_append PySem.F.type_list_append mt_append (pv 4) (pa_cons (pv 7) pa_nil)))
      (pss_one (ps_set (i := 5) sc_law_thing.nd rfl (.inl rfl) (pe_callB (call_max2 rfl) (by rfl) m_max (by decide +kernel) (pa_cons (pv 5) (pa_cons (pe_op op_add (pv 8) pe_int) pa_nil))))))))
    (pss_one (ps_ret (pe_tup (pa_cons (pe_callTy call_tuple_of (by rfl) m_tuple (by decide +kernel) (pa_cons (pv 4) pa_nil)) (pa_cons (pv 5) pa_nil))))))))), ?_⟩
      -- the way
      refine ⟨_, rfl, _, rfl, _, 0, rfl, rfl, decide ((0 : Int) < (room : Int)), rfl, ite2 (fun e0 => ?_) (fun e0 => ?_)⟩
      all_goals
        refine ⟨a, x, c, _, rfl, ha, by decide, by decide, fun r x1 c1 r0 r1 => ?_⟩
        refine ⟨_, rfl, r, 5, rfl, rfl, decide (r < 5), rfl, ite2 (fun e5 => ?_) (fun e5 => ?_)⟩
      -- a leaf, twice
      case refine_1.refine_1 | refine_2.refine_1 =>
        refine ⟨_, rfl, 10, 9, rfl, rfl, ⟨by decide, by decide, by decide⟩, a, x1, c1, _, rfl, upd_same, by decide, by decide, fun r2 x2 c2 p0 p1 => ⟨1, r2, rfl, rfl, ?_⟩⟩
        refine ⟨10, 40, rfl, rfl, ⟨by decide, by decide, by decide⟩, _, rfl, a, x2, c2, 40, rfl, upd_same, by decide, by decide, fun r3 x3 c3 q0 q1 => ⟨"x", r3, rfl, rfl, mulOk_x q0 (by omega), ?_⟩⟩
        rw [upd_upd, upd_upd]
        refine ⟨by show 0 ≤ sizeLine; decide, fun t1 n1 => ⟨by show 0 ≤ sizeLine; decide, fun t2 n2 => ⟨by show 9 ≤ sizeLine; decide, fun l nl => ?_⟩⟩⟩
        have f3 : Kp a H (upd H a (.lst [.int x3, .int c3])) := .set
        have sl := (same_upd (o := .tup []) n1).trans ((same_upd (o := .tup []) n2).trans (same_upd (o := .lst [.int 0, .int (1 - r2), .int (10 ^ (40 : Int).toNat), .str "", .str "a b", .str (Txt.mul "x" r3), .non, .ref t1, .ref t2]) nl))
        have g1 := (same_upd (o := .tup []) n2).trans (same_upd (o := .lst [.int 0, .int (1 - r2), .int (10 ^ (40 : Int).toNat), .str "", .str "a b", .str (Txt.mul "x" r3), .non, .ref t1, .ref t2]) nl) _ _ upd_same
        have g2 := (same_upd (o := .lst [.int 0, .int (1 - r2), .int (10 ^ (40 : Int).toNat), .str "", .str "a b", .str (Txt.mul "x" r3), .non, .ref t1, .ref t2]) nl) _ _ upd_same
        have gl := (upd_same : upd (upd (upd (upd H a (.lst [.int x3, .int c3])) t1 (.tup [])) t2 (.tup [])) l (.lst [.int 0, .int (1 - r2), .int (10 ^ (40 : Int).toNat), .str "", .str "a b", .str (Txt.mul "x" r3), .non, .ref t1, .ref t2]) l = _)
        revert sl g1 g2 gl
        generalize upd (upd (upd (upd H a (.lst [.int x3, .int c3])) t1 (.tup [])) t2 (.tup [])) l (.lst [.int 0, .int (1 - r2), .int (10 ^ (40 : Int).toNat), .str "", .str "a b", .str (Txt.mul "x" r3), .non, .ref t1, .ref t2]) = G
        intro sl g1 g2 gl
        have ga := sl _ _ upd_same
        have hG : Kp a H G := f3.trans (.same sl)
        have nla : l ≠ a := fun z => by
          rw [z, ga] at gl
          have z1 := congrArg List.length (HO.lst.inj (Option.some.inj gl))
          exact absurd (show 2 = 9 from z1) (by decide)
        have hall : ∀ (G' : Hp), Ev G G' → ∀ v ∈ ([.int 0, .int (1 - r2), .int (10 ^ (40 : Int).toNat), .str "", .str "a b", .str (Txt.mul "x" r3), .non, .ref t1, .ref t2] : List V), Th G' 0 v := fun G' e v hv => by
          simp only [List.mem_cons, List.not_mem_nil, or_false] at hv
          rcases hv with rfl | rfl | rfl | rfl | rfl | rfl | rfl | rfl | rfl
          all_goals first | exact .inl rfl | exact .inr ⟨_, rfl, e.tup g1⟩ | exact .inr ⟨_, rfl, e.tup g2⟩
        refine ⟨_, rfl, _, rfl, a, l, x3, c3, _, rfl, ga, .inl (.inl gl), fun x' c' => .inl (.inl (by rw [upd_ne nla]; exact gl)), by show 0 < 9; decide, by show 9 ≤ 1000; decide, fun v x4 c4 hv => ?_⟩
        have e4 : Ev G (upd G a (.lst [.int x4, .int c4])) := .set ga
        refine ⟨by show 2 ≤ sizeLine; decide, fun p np => ?_⟩
        have e5 : Ev (upd G a (.lst [.int x4, .int c4])) (upd (upd G a (.lst [.int x4, .int c4])) p (.tup [v, .int 0])) := .new np
        have t0 := hall _ (e4.trans e5) v hv
        exact q _ p v 0 x4 c4 (hG.trans (Kp.set.trans (.same (same_upd np)))) (same_upd np _ _ upd_same) upd_same (t0.zero room) (.zero t0)
      case refine_2.refine_2 => exact absurd (decide_eq_true r1) e5
      -- parts
      obtain ⟨r', rfl⟩ : ∃ r', room = r' + 1 := by
        have := of_decide_eq_true e0
        exact ⟨room - 1, by omega⟩
      refine ⟨by show 0 ≤ sizeLine; decide, fun L nL => ⟨_, _, rfl, ?_⟩⟩
      have h1a := same_upd (o := .lst []) nL _ _ (upd_same : upd H a (.lst [.int x1, .int c1]) a = _)
      have nLa : L ≠ a := fun z => by
        rw [z, upd_same] at nL
        cases nL
      refine ⟨_, rfl, a, x1, c1, 3, rfl, h1a, by decide, by decide, fun r2 x2 c2 p0 p1 => ⟨1, r2, rfl, rfl, _, rfl, by show -(2 ^ 62) ≤ 1 + r2; omega, by show 1 + r2 < 2 ^ 62; omega, ?_⟩⟩
      refine for_range (lo := 0) (n := (1 + r2).toNat) (fun i σ H' => ∃ (v6 v7 v8 : Option V) (ps : List V) (ds : List Nat) (x c : Int), σ = [some (.ref a), some (.int ((r' + 1 : Nat) : Int)), some (.int r), none, some (.ref L), some (.int (deepOf ds : Nat)), v6, v7, v8] ∧
        Kp a H H' ∧ H' a = some (.lst [.int x, .int c]) ∧ H' L = some (.lst ps) ∧ ps.length = i ∧ (∀ v ∈ ps, Th H' r' v) ∧ Paired (DP K H') ps ds) ⟨none, none, none, [], [], x2, c2, rfl, ?_, upd_same, ?_, rfl, fun v hv => absurd hv (List.not_mem_nil), .nil⟩ ?_ ?_
      · exact Kp.set.trans ((Kp.same (same_upd nL)).trans Kp.set)
      · rw [upd_ne nLa, upd_same]
      · rintro i σ H' hi ⟨v6, v7, v8, ps, ds, x3, c3, rfl, kH, hA, hL, hlen, hT, hD⟩
        have earg : [V.ref a, V.int (((r' + 1 : Nat) : Int) - 1)] = [V.ref a, V.int (r' : Int)] := by
          rw [show ((r' + 1 : Nat) : Int) - 1 = (r' : Int) by omega]
        refine ⟨_, rfl, _, rfl, _, 1, rfl, rfl, a, r', x3, c3, earg, by omega, hA, fun H2 p v d x4 c4 k2 hA2 hp th dp => ?_⟩
        refine ⟨p, [v, .int (d : Nat)], rfl, .inl (.inl hp), rfl, _, _, rfl, _, _, rfl, rfl, ?_⟩
        have hL2 := k2 _ _ nLa hL
        have e2 := k2.ev hA hA2
        refine ⟨_, rfl, .inl ⟨rfl, _, .inl (.inl hL2)⟩, _, rfl, L, _, _, rfl, rfl, hL2, small1000 (by omega), ?_⟩
        have e3 : Ev H2 (upd H2 L (.lst (ps ++ [v]))) := .set hL2
        refine ⟨_, rfl, _, rfl, _, 1, rfl, rfl, (deepOf ds : Nat), (d : Int) + 1, rfl, ?_⟩
        have hmax : (if ((d : Int) + 1 > ((deepOf ds : Nat) : Int)) then (d : Int) + 1 else ((deepOf ds : Nat) : Int)) = ((deepOf (ds ++ [d]) : Nat) : Int) := by
          rw [deep_snoc]
          split <;> omega
        refine ⟨some (.int (0 + (i : Int))), some v, some (.int (d : Nat)), ps ++ [v], ds ++ [d], x4, c4, ?_, ?_, ?_, upd_same, ?_, ?_, ?_⟩
        · rw [← hmax]
          rfl
        · intro b o hb e
          have hz : b ≠ L := fun z => by
            rw [upd_ne nLa] at nL
            rw [z, nL] at e
            cases e
          rw [upd_ne hz]
          exact (kH.trans k2) b o hb e
        · rw [upd_ne nLa.symm]
          exact hA2
        · rw [List.length_append, hlen]
          rfl
        · intro u hu
          rcases List.mem_append.mp hu with hu | hu
          · exact ((hT u hu).ev e2).ev e3
          · rw [List.mem_singleton.mp hu]
            exact th.ev e3
        · exact pair_snoc (pair_ev hD fun h => (h.ev e2).ev e3) (dp.ev e3)
      · rintro σ H' ⟨v6, v7, v8, ps, ds, x3, c3, rfl, kH, hA, hL, hlen, hT, hD⟩
        refine ⟨_, rfl, L, ps, rfl, .inl ⟨.inl (.inl hL), fun t nt => ?_⟩⟩
        refine ⟨_, rfl, by show 2 ≤ sizeLine; decide, fun p np => ?_⟩
        have e1 : Ev H' (upd H' t (.tup ps)) := .new nt
        have e2 : Ev (upd H' t (.tup ps)) (upd (upd H' t (.tup ps)) p (.tup [.ref t, .int (deepOf ds : Nat)])) := .new np
        have ht := same_upd (o := .tup [V.ref t, .int (deepOf ds : Nat)]) np _ _ (upd_same : upd H' t (.tup ps) t = _)
        have pne : ps ≠ [] := fun z => by
          rw [z] at hlen
          have : (1 + r2).toNat = 0 := hlen.symm
          omega
        refine q _ p (.ref t) (deepOf ds) x3 c3 (kH.trans ((Kp.same (same_upd nt)).trans (.same (same_upd np)))) (same_upd np _ _ (same_upd nt _ _ hA)) upd_same (.inr ⟨t, ps, rfl, ht, by omega, fun v hv => (hT v hv).ev (e1.trans e2)⟩) (.tup ht pne ?_)
        exact pair_ev hD fun h => h.ev (e1.trans e2)
end
end K01
set_option Elab.async false
set_option linter.all false
set_option maxRecDepth 100000
set_option maxHeartbeats 2000000
namespace K01
open PySem PySem.Spec PyProof.Rows L2 CM
section
variable {P : Program} {w : World} {K : PySem.W.Frag} {mg : Str → Option Value} {base : Heap}
/-! ### things spoilt -/
/-- never plain -/
def Bad (K : PySem.W.Frag) (H : Hp) (v : V) : Prop := ∀ n : Nat, PN K H n v false
theorem Bad.ev {H H' : Hp} {v : V} (h : Bad K H v) (s : Ev H H') : Bad K H' v := fun n => (h n).ev s
theorem th_some {H : Hp} : ∀ {h : Nat} {v : V}, Th H h v → ∀ n : Nat, ∃ b, PN K H n v b
  | 0, v, t, n => ⟨_, DP.zero t n⟩
  | h + 1, v, t, n => by
    rcases t with t | ⟨a, xs, rfl, ha, hl, k⟩
    · exact ⟨true, .leaf t n⟩
    · cases n with
      | zero => exact ⟨_, .inr (.inr ⟨a, xs, rfl, ha, rfl⟩)⟩
      | succ n =>
        have hb : ∃ bs, Paired (fun x b => PN K H n x b) xs bs := by
          clear ha hl
          induction xs with
          | nil => exact ⟨[], .nil⟩
          | cons x xs ih =>
            obtain ⟨bs, p⟩ := ih fun y hy => k y (List.mem_cons_of_mem _ hy)
            obtain ⟨b, q⟩ := th_some (k x (List.mem_cons_self ..)) n
            exact ⟨b :: bs, .cons q p⟩
        obtain ⟨bs, p⟩ := hb
        by_cases hf : false ∈ bs
        · exact ⟨false, .inr (.inr ⟨a, xs, rfl, ha, .inr ⟨rfl, tup_bad xs bs p hf⟩⟩)⟩
        · exact ⟨true, .inr (.inr ⟨a, xs, rfl, ha, .inl ⟨rfl, tup_good xs bs p hf⟩⟩)⟩
/-- a tuple with a bad item -/
theorem Bad.tup {H : Hp} {a : Addr} {xs : List V} {v : V} (h : H a = some (.tup xs)) (tot : ∀ x ∈ xs, ∀ n : Nat, ∃ b, PN K H n x b) (hv : v ∈ xs) (bad : Bad K H v) : Bad K H (.ref a) := fun n => by
  cases n with
  | zero =>
    refine .inr (.inr ⟨a, xs, rfl, h, ?_⟩)
    cases xs with
    | nil => exact absurd hv (List.not_mem_nil)
    | cons => rfl
  | succ n =>
    have hb : ∃ bs, Paired (fun x b => PN K H n x b) xs bs ∧ false ∈ bs := by
      clear h
      induction xs with
      | nil => exact absurd hv (List.not_mem_nil)
      | cons x xs ih =>
        rcases List.mem_cons.mp hv with rfl | hv
        · have all : ∃ bs, Paired (fun x b => PN K H n x b) xs bs := by
            clear ih hv
            induction xs with
            | nil => exact ⟨[], .nil⟩
            | cons y ys ih =>
              obtain ⟨bs, p⟩ := ih fun z hz => tot z (by
                rcases List.mem_cons.mp hz with rfl | hz
                · exact List.mem_cons_self ..
                · exact List.mem_cons_of_mem _ (List.mem_cons_of_mem _ hz))
              obtain ⟨b, q⟩ := tot y (List.mem_cons_of_mem _ (List.mem_cons_self ..)) n
              exact ⟨b :: bs, .cons q p⟩
          obtain ⟨bs, p⟩ := all
          exact ⟨false :: bs, .cons (bad n) p, List.mem_cons_self ..⟩
        · obtain ⟨bs, p, q⟩ := ih (fun y hy => tot y (List.mem_cons_of_mem _ hy)) hv
          obtain ⟨b, r⟩ := tot x (List.mem_cons_self ..) n
          exact ⟨b :: bs, .cons r p, List.mem_cons_of_mem _ q⟩
    obtain ⟨bs, p, q⟩ := hb
    exact .inr (.inr ⟨a, xs, rfl, h, .inr ⟨rfl, tup_bad xs bs p q⟩⟩)
theorem Bad.some {H : Hp} {v : V} (h : Bad K H v) (n : Nat) : ∃ b, PN K H n v b := ⟨false, h n⟩
theorem leaf_some {H : Hp} {v : V} (h : leafB v = true) (n : Nat) : ∃ b, PN K H n v b := ⟨true, .leaf h n⟩
/-- return one of the four -/
theorem four {a : Addr} {v odd : V} {v3 : Option V} {H : Hp} {x c : Int} {D : Ends} {E : XK} (ha : H a = some (.lst [.int x, .int c])) (ho : Bad K H odd)
    (q : ∀ (H' : Hp) (u : V) (x' c' : Int), Kp a H H' → H' a = some (.lst [.int x', .int c']) → Bad K H' u → D.rt u H') :
    tRet (tCall (spOne K) [] E (tCons (tVar 0) (tCons (tLst (tCons (tVar 2) (tCons (tTup (tCons (tVar 2) tNil)) (tCons (tTup (tCons (tC (.str "a")) (tCons (tVar 2) tNil))) (tCons (tTup (tCons (tVar 2) (tCons (tC .non) (tCons (tC (.int 3)) tNil)))) tNil))))) tNil)))
      D [some (.ref a), some v, some odd, v3] H := by
  refine ⟨_, rfl, _, rfl, _, rfl, by show 1 ≤ sizeLine; decide, fun t1 n1 => ⟨_, rfl, by show 2 ≤ sizeLine; decide, fun t2 n2 => ⟨_, rfl, by show 3 ≤ sizeLine; decide, fun t3 n3 => ⟨by show 4 ≤ sizeLine; decide, fun l nl => ?_⟩⟩⟩⟩
  have s1 := same_upd (o := .tup [odd]) n1
  have s2 := same_upd (o := .tup [.str "a", odd]) n2
  have s3 := same_upd (o := .tup [odd, .non, .int 3]) n3
  have s4 := same_upd (o := .lst [odd, .ref t1, .ref t2, .ref t3]) nl
  have g1 := (s2.trans (s3.trans s4)) _ _ upd_same
  have g2 := (s3.trans s4) _ _ upd_same
  have g3 := s4 _ _ upd_same
  have sl := s1.trans (s2.trans (s3.trans s4))
  generalize hG : upd _ l (.lst [odd, .ref t1, .ref t2, .ref t3]) = G
  have gl : G l = some (.lst [odd, .ref t1, .ref t2, .ref t3]) := by
    rw [← hG]
    exact upd_same
  rw [hG] at g1 g2 g3 sl
  have ga := sl _ _ ha
  have nla : l ≠ a := fun z => by
    rw [z, ga] at gl
    have z1 := congrArg List.length (HO.lst.inj (Option.some.inj gl))
    exact absurd (show 2 = 4 from z1) (by decide)
  refine ⟨a, l, x, c, _, rfl, ga, .inl (.inl gl), fun x' c' => .inl (.inl (by rw [upd_ne nla]; exact gl)), by show 0 < 4; decide, by show 4 ≤ 1000; decide, fun u x4 c4 hu => ?_⟩
  have e4 : Ev G (upd G a (.lst [.int x4, .int c4])) := .set ga
  have b4 := (ho.ev (.same sl)).ev e4
  refine q _ u x4 c4 ((Kp.same sl).trans Kp.set) upd_same ?_
  simp only [List.mem_cons, List.not_mem_nil, or_false] at hu
  rcases hu with rfl | rfl | rfl | rfl
  · exact b4
  · exact .tup (e4.tup g1) (fun z hz => by rw [List.mem_singleton.mp hz]; exact b4.some) (List.mem_singleton.mpr rfl) b4
  · refine .tup (e4.tup g2) (fun z hz => ?_) (List.mem_cons_of_mem _ (List.mem_singleton.mpr rfl)) b4
    rcases List.mem_cons.mp hz with rfl | hz
    · exact leaf_some rfl
    · rw [List.mem_singleton.mp hz]
      exact b4.some
  · refine .tup (e4.tup g3) (fun z hz => ?_) (List.mem_cons_self ..) b4
    simp only [List.mem_cons, List.not_mem_nil, or_false] at hz
    rcases hz with rfl | rfl | rfl
    · exact b4.some
    · exact leaf_some rfl
    · exact leaf_some rfl
theorem cut_to (xs : List V) (k : Nat) : cutV xs none (some (k : Int)) = xs.take k := by
  unfold cutV
  rw [HT.sIx_none, show HT.sIx xs.length xs.length (some (k : Int)) = min k xs.length from HT.sIx_nat xs.length xs.length k, List.drop_zero, Nat.sub_zero]
  by_cases h : k ≤ xs.length
  · rw [Nat.min_eq_left h]
  · rw [Nat.min_eq_right (by omega), List.take_of_length_le (Nat.le_refl _), List.take_of_length_le (by omega)]
theorem cut_from (xs : List V) (k : Nat) : cutV xs (some ((k : Int) + 1)) none = xs.drop (k + 1) := by
  unfold cutV
  rw [HT.sIx_none, show HT.sIx xs.length 0 (some ((k : Int) + 1)) = min (k + 1) xs.length from HT.sIx_nat xs.length 0 (k + 1)]
  by_cases h : k + 1 ≤ xs.length
  · rw [Nat.min_eq_left h]
    exact List.take_of_length_le (by rw [List.length_drop]; exact Nat.le_refl _)
  · rw [Nat.min_eq_right (by omega), List.drop_of_length_le (show xs.length ≤ k + 1 by omega)]
    simp
theorem slA_any {H : Hp} {a : Addr} {xs : List V} {lo hi : Option Int} {Q : VK} (h : H a = some (.tup xs)) (q : ∀ (p : Addr) (H' : Hp), Same H H' → H' p = some (.tup (cutV xs lo hi)) → Q (.ref p) H') : rSlA K (.ref a) lo hi H Q := by
  refine ⟨a, xs, rfl, .inl (.inl h), fun z => q a H (Same.refl H) ?_, fun _ p np => q p _ (same_upd np) upd_same⟩
  unfold cutV
  rw [z.1, z.2, List.drop_zero, Nat.sub_zero, List.take_of_length_le (Nat.le_refl _)]
  exact h
theorem catA_any {H : Hp} {a b : Addr} {xs ys : List V} {Q : VK} (ha : H a = some (.tup xs)) (hb : H b = some (.tup ys)) (hl : xs.length + ys.length ≤ sizeLine) (q : ∀ (p : Addr) (H' : Hp), Same H H' → H' p = some (.tup (xs ++ ys)) → Q (.ref p) H') : rCatA K (.ref a) (.ref b) H Q := by
  refine ⟨a, b, xs, ys, rfl, rfl, .inl (.inl ha), .inl (.inl hb), hl, fun z => q b H (Same.refl H) (by rw [z]; exact hb), fun _ z => q a H (Same.refl H) (by rw [z, List.append_nil]; exact ha), fun _ _ p np => q p _ (same_upd np) upd_same⟩
/-- Grid(): some attributes -/
def spGrid (C : Addr) : Sp := fun vs H Q _ => ∃ (p dx : Addr), vs = [.ref p, .bl false] ∧ H p = some (.ins C dx []) ∧ ∀ (H' : Hp) (fs : List (Str × V)), (∀ b o, b ≠ p → H b = some o → H' b = some o) → H' p = some (.ins C dx fs) → Q .non H'
/-- _law_spoilt(well, thing), the thing below n levels -/
def spSpoilt (K : PySem.W.Frag) (n : Nat) : Sp := fun vs H Q _ => ∃ (a : Addr) (v : V) (h : Nat) (x c : Int), vs = [.ref a, v] ∧ h < n ∧ H a = some (.lst [.int x, .int c]) ∧ Th H h v ∧
  ∀ (H' : Hp) (u : V) (x' c' : Int), Kp a H H' → H' a = some (.lst [.int x', .int c']) → Bad K H' u → Q u H'
theorem ok_spoilt {f C f_Grid : Addr} {fd fd_Grid : FuncData} {ds : List Value} (F : FnP K "_law_spoilt" "_law_spoilt" s_law_spoilt f fd) (m_isinstance : mg "isinstance" = none) (m_tuple : mg "tuple" = none) (m_len : mg "len" = none)
    (C_draw : Cal P w K mg base CX0 "_law_draw" 2 ["_law_well_here", "_law_many"] spDraw) (C_one : Cal P w K mg base CX0 "_law_one" 2 ["_law_well_here", "_law_some"] (spOne K)) (IK : InsK K C)
    (M_Grid : Mk K C f_Grid) (G_Grid : FnOk P w K mg base CX0 8 f_Grid fd_Grid ["self", "default"] (spGrid C)) (m_Grid : mg "Grid" = some (.ref C)) (b_Grid : Binds K fd_Grid ["self", "default"] ds) (r_Grid : Vals [.bl false] ds)
    (b_law_spoilt : Binds K fd ["_law_well_here", "_law_thing_here"] []) (m_law_spoilt : mg "_law_spoilt" = some (.ref f)) (k_law_spoilt : PySem.W.keepIn K (.ref f) = true) :
    ∀ n : Nat, FnOk P w K mg base CX0 (n + 11) f fd ["_law_well_here", "_law_thing_here"] (spSpoilt K n)
  | 0 => ⟨fun vs H Q E ⟨_, _, _, _, _, _, h, _⟩ => absurd h (Nat.not_lt_zero _), fun A outer s H args us vs Q E _ _ _ _ ⟨_, _, _, _, _, _, h, _⟩ => absurd h (Nat.not_lt_zero _)⟩
  | n + 1 => by
    have G_law_spoilt := ok_spoilt F m_isinstance m_tuple m_len C_draw C_one IK M_Grid G_Grid m_Grid b_Grid r_Grid b_law_spoilt m_law_spoilt k_law_spoilt n
    obtain ⟨f_law_draw, fd_law_draw, G_law_draw, b_law_draw, m_law_draw, k_law_draw⟩ := C_draw
    obtain ⟨f_law_one, fd_law_one, G_law_one, b_law_one, m_law_one, k_law_one⟩ := C_one
    refine F.ok sc_law_spoilt (fun vs H Q E h => ?_) (fun cdv A outer s H vs Q E hr h => ?_)
    · obtain ⟨a, v, h, x, c, rfl, _⟩ := h
      rfl
    · obtain ⟨a, v, h, x, c, rfl, hn, ha, ht, q⟩ := h
      refine ⟨_, pss_cons (ps_set (i := 2) sc_law_spoilt.nd rfl (.inl rfl) (pe_call G_law_one (hr.mono (by omega)) (by rfl) m_law_one k_law_one b_law_one .nil pass0 (pa_cons (pv 0) (pa_cons (pe_lst (pa_cons pe_bl (pa_cons pe_bl (pa_cons (pe_lst (pa_nil)) (pa_cons (pe_lst (pa_cons pe_int pa_nil)) (pa_cons pe_dnewK (pa_cons (pe_disp (pps_cons pe_str pe_int (pps_nil)) rfl rfl (by decide) (by decide)) (pa_cons (pe_make0 M_Grid G_Grid (hr.mono (by omega)) (by rfl) m_Grid b_Grid r_Grid pass0) (pa_cons (pe_tup (pa_cons pe_bl pa_nil)) (pa_cons (pe_tup (pa_cons (pe_lst (pa_nil)) pa_nil)) (pa_cons (pe_tup (pa_cons pe_int (pa_cons pe_dnewK pa_nil))) pa_nil))))))))))) pa_nil))))
    (pss_cons (ps_if (PW.pt (pw_or (pt_not (pt_val (pe_callB call_isi (by rfl) m_isinstance (by decide +kernel) (pa_cons (pv 1) (pa_cons (pe_bltn (v := .ty "tuple") (by rfl) m_tuple (by decide +kernel) rfl) pa_nil))))) (pw_or (pt_cmpR (op_eqNil hr.units) (pv 1) (pe_tup (pa_nil)) (nomark _)) (pw_or1 (pt_cmpR op_eq (pe_call G_law_draw (hr.mono (by omega)) (by rfl) m_law_draw k_law_draw b_law_draw .nil pass0 (pa_cons (pv 0) (pa_cons pe_int pa_nil))) pe_int (nomark _)))))) (pss_one (ps_ret (pe_call G_law_one (hr.mono (by omega)) (by rfl) m_law_one k_law_one b_law_one .nil pass0 (pa_cons (pv 0) (pa_cons (pe_lst (pa_cons (pv 2) (pa_cons (pe_tup (pa_cons (pv 2) pa_nil)) (pa_cons (pe_tup (pa_cons pe_str (pa_cons (pv 2) pa_nil))) (pa_cons (pe_tup (pa_cons (pv 2) (pa_cons pe_non (pa_cons pe_int pa_nil)))) pa_nil))))) pa_nil))))) (pss_nil))
    (pss_cons (ps_set (i := 3) sc_law_spoilt.nd rfl (.inl rfl) (pe_call G_law_draw (hr.mono (by omega)) (by rfl) m_law_draw k_law_draw b_law_draw .nil pass0 (pa_cons (pv 0) (pa_cons (pe_callB call_len_seq (by rfl) m_len PySem.boot_len (pa_cons (pv 1) pa_nil)) pa_nil))))
    (pss_one (ps_ret (pe_op op_catA (pe_op op_catA (pe_slice sl_tupA (pv 1) po_none (po_some (pv 3))) (pe_tup (pa_cons (pe_call G_law_spoilt (hr.mono (by omega)) (by rfl) m_law_spoilt k_law_spoilt b_law_spoilt .nil pass0 (pa_cons (pv 0) (pa_cons (pe_ix ix_tup (pv 1) (pv 3) (fun _ _ => rfl)) pa_nil))) pa_nil))) (pe_slice sl_tupA (pv 1) (po_some (pe_op op_add (pv 3) pe_int)) po_none)))))), ?_⟩
      refine ⟨_, rfl, by show 0 ≤ sizeLine; decide, fun l1 nl1 => ⟨by show 1 ≤ sizeLine; decide, fun l2 nl2 => fun d1 nd1 => fun d2 nd2 => ⟨upd_same, [(Sum.inr "a", .int 1)], rfl, by decide, fun g dx ng ndx neg => ?_⟩⟩⟩
      refine ⟨g, dx, rfl, upd_same, fun H1 fs k1 hg => ⟨rfl, by show 1 ≤ sizeLine; decide, fun t1 n1 => ⟨by show 0 ≤ sizeLine; decide, fun l3 nl3 => ⟨by show 1 ≤ sizeLine; decide, fun t2 n2 => fun d3 nd3 => ⟨by show 2 ≤ sizeLine; decide, fun t3 n3 => ⟨by show 10 ≤ sizeLine; decide, fun l nl => ?_⟩⟩⟩⟩⟩⟩
      have s1 := same_upd (o := .lst []) nl1
      have s2 := same_upd (o := .lst [V.int 1]) nl2
      have s3 := same_upd (o := .dK []) nd1
      have s4 := same_put (o := .dK (mergeK [] [(Sum.inr "a", V.int 1)])) (same_upd (o := .dK []) nd2) nd2
      have s5 : Same (upd (upd (upd (upd (upd H l1 (.lst [])) l2 (.lst [.int 1])) d1 (.dK [])) d2 (.dK [])) d2 (.dK (mergeK [] [(Sum.inr "a", V.int 1)]))) H1 := fun b o e => k1 b o (ne_of_none e ng) (by
        rw [upd_ne (ne_of_none e ng), upd_ne (ne_of_none e ndx)]
        exact e)
      have s6 := same_upd (o := .tup [V.bl true]) n1
      have s7 := same_upd (o := .lst []) nl3
      have s8 := same_upd (o := .tup [V.ref l3]) n2
      have s9 := same_upd (o := .dK []) nd3
      have s10 := same_upd (o := .tup [V.int 0, V.ref d3]) n3
      have s11 := same_upd (o := .lst [.bl true, .bl false, .ref l1, .ref l2, .ref d1, .ref d2, .ref g, .ref t1, .ref t2, .ref t3]) nl
      generalize hG : upd _ l (.lst [.bl true, .bl false, .ref l1, .ref l2, .ref d1, .ref d2, .ref g, .ref t1, .ref t2, .ref t3]) = G
      rw [hG] at s11
      have gl : G l = some (.lst [.bl true, .bl false, .ref l1, .ref l2, .ref d1, .ref d2, .ref g, .ref t1, .ref t2, .ref t3]) := by
        rw [← hG]
        exact upd_same
      have u9 := s10.trans s11
      have u8 := s9.trans u9
      have u7 := s8.trans u8
      have u6 := s7.trans u7
      have u5 := s6.trans u6
      have u4 := s5.trans u5
      have u3 := s4.trans u4
      have u2 := s3.trans u3
      have u1 := s2.trans u2
      have sl := s1.trans u1
      have h1 := u1 _ _ upd_same
      have h2 := u2 _ _ upd_same
      have h3 := u3 _ _ upd_same
      have h4 := u4 _ _ upd_same
      have h5 := u5 _ _ hg
      have h6 := u6 _ _ upd_same
      have h7 := u7 _ _ upd_same
      have h8 := u8 _ _ upd_same
      have h9 := u9 _ _ upd_same
      have h10 := s11 _ _ upd_same
      have ga := sl _ _ ha
      clear hG u9 u8 u7 u6 u5 u4 u3 u2 u1 s1 s2 s3 s4 s5 s6 s7 s8 s9 s10 s11 k1 hg nl n3 nd3 n2 nl3 n1 ng ndx neg nd2 nd1 nl2 nl1
      have nla : l ≠ a := fun z => by
        rw [z, ga] at gl
        have z1 := congrArg List.length (HO.lst.inj (Option.some.inj gl))
        exact absurd (show 2 = 10 from z1) (by decide)
      -- each of them is bad
      have hall : ∀ (G' : Hp), Ev G G' → ∀ v ∈ ([.bl true, .bl false, .ref l1, .ref l2, .ref d1, .ref d2, .ref g, .ref t1, .ref t2, .ref t3] : List V), Bad K G' v := fun G' e v hv => by
        have b3 : Bad K G' (.ref l3) := .odd (Odd.ev (.inr (.inl ⟨l3, _, rfl, h7⟩)) e)
        have b9 : Bad K G' (.ref d3) := .odd (Odd.ev (.inr (.inr (.inl ⟨d3, _, rfl, h9⟩))) e)
        have bt : Bad K G' (.bl true) := .odd (.inl ⟨true, rfl⟩)
        simp only [List.mem_cons, List.not_mem_nil, or_false] at hv
        rcases hv with rfl | rfl | rfl | rfl | rfl | rfl | rfl | rfl | rfl | rfl
        · exact bt
        · exact .odd (.inl ⟨false, rfl⟩)
        · exact .odd (Odd.ev (.inr (.inl ⟨l1, _, rfl, h1⟩)) e)
        · exact .odd (Odd.ev (.inr (.inl ⟨l2, _, rfl, h2⟩)) e)
        · exact .odd (Odd.ev (.inr (.inr (.inl ⟨d1, _, rfl, h3⟩))) e)
        · exact .odd (Odd.ev (.inr (.inr (.inl ⟨d2, _, rfl, h4⟩))) e)
        · exact .odd (Odd.ev (.inr (.inr (.inr ⟨g, C, dx, fs, rfl, h5, IK⟩))) e)
        · exact .tup (e.tup h6) (fun z hz => by rw [List.mem_singleton.mp hz]; exact bt.some) (List.mem_singleton.mpr rfl) bt
        · exact .tup (e.tup h8) (fun z hz => by rw [List.mem_singleton.mp hz]; exact b3.some) (List.mem_singleton.mpr rfl) b3
        · refine .tup (e.tup h10) (fun z hz => ?_) (List.mem_cons_of_mem _ (List.mem_singleton.mpr rfl)) b9
          rcases List.mem_cons.mp hz with rfl | hz
          · exact leaf_some rfl
          · rw [List.mem_singleton.mp hz]
            exact b9.some
      refine ⟨a, l, x, c, _, rfl, ga, .inl (.inl gl), fun x' c' => .inl (.inl (by rw [upd_ne nla]; exact gl)), by show 0 < 10; decide, by show 10 ≤ 1000; decide, fun odd x1 c1 hv => ?_⟩
      have e1 : Ev G (upd G a (.lst [.int x1, .int c1])) := .set ga
      have bo := hall _ e1 odd hv
      have kG : Kp a H (upd G a (.lst [.int x1, .int c1])) := (Kp.same sl).trans Kp.set
      have eG : Ev H (upd G a (.lst [.int x1, .int c1])) := kG.ev ha upd_same
      have hA : (upd G a (.lst [.int x1, .int c1])) a = some (.lst [.int x1, .int c1]) := upd_same
      clear hall h1 h2 h3 h4 h5 h6 h7 h8 h9 h10 e1
      generalize upd G a (.lst [.int x1, .int c1]) = G1 at bo kG eG hA
      have t1' := ht.ev eG
      have fin : ∀ (G' : Hp) (y d : Int), Kp a G1 G' → G' a = some (.lst [.int y, .int d]) → ∀ (H' : Hp) (u : V) (x' c' : Int), Kp a G' H' → H' a = some (.lst [.int x', .int c']) → Bad K H' u → Q u H' := fun G' y d k1 _ H' u x' c' k2 h2 b => q H' u x' c' (kG.trans (k1.trans k2)) h2 b
      have hcase : leafB v = true ∨ ∃ b xs, v = .ref b ∧ G1 b = some (.tup xs) ∧ xs.length ≤ 3 ∧ (xs ≠ [] → ∃ h', h = h' + 1 ∧ ∀ y ∈ xs, Th G1 h' y) := by
        cases h with
        | zero =>
          rcases t1' with t | ⟨b, rfl, t⟩
          · exact .inl t
          · exact .inr ⟨b, [], rfl, t, Nat.zero_le _, fun z => absurd rfl z⟩
        | succ h =>
          rcases t1' with t | ⟨b, xs, rfl, t, tl, tk⟩
          · exact .inl t
          · exact .inr ⟨b, xs, rfl, t, tl, fun _ => ⟨h, rfl, tk⟩⟩
      rcases hcase with hlf | ⟨b, xs, rfl, hb, hlen, hk⟩
      · have hty : ∃ t, TyX K G1 v t ∧ PySem.W.kitOne K t (.type "tuple") = some false := by
          cases v with
          | non => exact ⟨_, .base .non, kit_bb (by decide +kernel)⟩
          | int z => exact ⟨_, .base (.int z), kit_bb (by decide +kernel)⟩
          | str z => exact ⟨_, .base (.str z), kit_bb (by decide +kernel)⟩
          | _ => cases hlf
        obtain ⟨t, ty, kt⟩ := hty
        refine ⟨_, rfl, v, _, t, _, false, rfl, .ty _, ty, kt, false, rfl, iteT (iteT ?_)⟩
        exact four hA bo (fin G1 _ _ (Kp.same (Same.refl _)) hA)
      · refine ⟨_, rfl, .ref b, _, _, _, true, rfl, .ty _, .base (.tup hb), kit_bb (by decide +kernel), true, rfl, iteF ?_⟩
        refine ⟨_, rfl, by show 0 ≤ sizeLine; decide, fun e0 ne0 => ⟨b, e0, xs, rfl, rfl, .inl (.inl (same_upd ne0 _ _ hb)), .inl (.inl upd_same), xs.isEmpty, rfl, ?_⟩⟩
        have kE : Kp a G1 (upd G1 e0 (.tup [])) := .same (same_upd ne0)
        have hA2 := same_upd (o := .tup []) ne0 _ _ hA
        have hb2 := same_upd (o := .tup []) ne0 _ _ hb
        have eE : Ev G1 (upd G1 e0 (.tup [])) := .new ne0
        have bo2 := bo.ev eE
        generalize upd G1 e0 (.tup []) = G2 at kE hA2 hb2 eE bo2
        cases hx : xs with
        | nil =>
          refine iteT (iteT ?_)
          exact four hA2 bo2 (fin G2 _ _ kE hA2)
        | cons y ys =>
          refine iteF ?_
          subst hx
          refine ⟨_, rfl, a, x1, c1, 3, rfl, hA2, by decide, by decide, fun r x2 c2 r0 r1 => ⟨rfl, _, rfl, ite2 (fun _ => ?_) (fun _ => ?_)⟩⟩
          · exact four upd_same (bo2.ev (.set hA2)) (fin _ _ _ (kE.trans Kp.set) upd_same)
          · have k3 : Kp a G1 (upd G2 a (.lst [.int x2, .int c2])) := kE.trans Kp.set
            have e3 : Ev G1 (upd G2 a (.lst [.int x2, .int c2])) := k3.ev hA upd_same
            have hb3 := e3.tup hb
            have hA3 : (upd G2 a (.lst [.int x2, .int c2])) a = some (.lst [.int x2, .int c2]) := upd_same
            generalize upd G2 a (.lst [.int x2, .int c2]) = G3 at k3 e3 hb3 hA3
            refine ⟨_, rfl, _, rfl, b, _, rfl, .inr (.inl (.inl hb3)), a, x2, c2, ((y :: ys).length : Int), rfl, hA3, by rw [List.length_cons]; omega, by omega, fun at' x3 c3 a0 a1 => ?_⟩
            obtain ⟨k, rfl⟩ := Int.eq_ofNat_of_zero_le a0
            have hk2 : k < (y :: ys).length := by omega
            have k4 : Kp a G1 (upd G3 a (.lst [.int x3, .int c3])) := k3.trans Kp.set
            have e4 : Ev G1 (upd G3 a (.lst [.int x3, .int c3])) := k4.ev hA upd_same
            have hb4 := e4.tup hb
            have hA4 : (upd G3 a (.lst [.int x3, .int c3])) a = some (.lst [.int x3, .int c3]) := upd_same
            generalize upd G3 a (.lst [.int x3, .int c3]) = G4 at k4 e4 hb4 hA4
            obtain ⟨h', rfl, hth⟩ := hk (List.cons_ne_nil _ _)
            have hxk : (y :: ys)[k]? = some (y :: ys)[k] := List.getElem?_eq_getElem hk2
            -- thing[:at]
            refine ⟨_, rfl, _, rfl, k, rfl, slA_any hb4 fun p1 I1 q1 hp1 => ?_⟩
            have k5 := k4.trans (.same q1)
            have hA5 := q1 _ _ hA4
            have e5 : Ev G1 I1 := k5.ev hA hA5
            have hb5 := e5.tup hb
            refine ⟨_, rfl, _, rfl, _, rfl, b, _, k, _, rfl, rfl, .inl (.inl hb5), atI_nat hxk, a, _, h', x3, c3, rfl, by omega, hA5, (hth _ (List.getElem_mem hk2)).ev e5, fun I2 u x4 c4 k6 hA6 bad => ?_⟩
            refine ⟨by show 1 ≤ sizeLine; decide, fun t nt => ?_⟩
            have e6 : Ev I1 I2 := k6.ev hA5 hA6
            have hp2 := same_upd (o := .tup [u]) nt _ _ (e6.tup hp1)
            refine catA_any hp2 upd_same ?_ fun p3 I3 q3 hp3 => ?_
            · rw [cut_to]
              exact Nat.le_of_lt (small1000 (by rw [List.length_take, List.length_singleton]; omega))
            have k7 := (k5.trans k6).trans ((Kp.same (same_upd nt)).trans (.same q3))
            have e7 : Ev I2 I3 := .same ((same_upd nt).trans q3)
            have hA7 := q3 _ _ (same_upd (o := .tup [u]) nt _ _ hA6)
            have e17 : Ev G1 I3 := k7.ev hA hA7
            have hb7 := e17.tup hb
            refine ⟨_, rfl, _, rfl, k, 1, rfl, rfl, (k : Int) + 1, rfl, ?_⟩
            unfold tNoPart
            refine slA_any hb7 fun p4 I4 q4 hp4 => ?_
            refine catA_any (q4 _ _ hp3) hp4 ?_ fun p5 I5 q5 hp5 => ?_
            · rw [cut_to, cut_from, List.length_append]
              exact Nat.le_of_lt (small1000 (by rw [List.length_take, List.length_singleton, List.length_drop]; omega))
            have e8 : Ev I3 I5 := .same (q4.trans q5)
            have k8 := k7.trans (.same (q4.trans q5))
            refine q I5 (.ref p5) x4 c4 (kG.trans k8) (q5 _ _ (q4 _ _ hA7)) (.tup hp5 (fun z hz m => ?_) (v := u) ?_ ((bad.ev e7).ev e8))
            · have e18 : Ev G1 I5 := e17.trans e8
              rw [cut_to, cut_from] at hz
              rcases List.mem_append.mp hz with hz | hz
              · rcases List.mem_append.mp hz with hz | hz
                · exact th_some ((hth z (List.mem_of_mem_take hz)).ev e18) m
                · rw [List.mem_singleton.mp hz]
                  exact ((bad.ev e7).ev e8).some m
              · exact th_some ((hth z (List.mem_of_mem_drop hz)).ev e18) m
            · exact List.mem_append_left _ (List.mem_append_right _ (List.mem_singleton.mpr rfl))
end
end K01
set_option Elab.async false
set_option linter.all false
set_option maxRecDepth 100000
set_option maxHeartbeats 2000000
namespace K01
open PySem PySem.Spec PyProof.Rows L2 CM
section
variable {P : Program} {w : World} {K : PySem.W.Frag} {mg : Str → Option Value} {base : Heap}
/-! ### the law -/
theorem cut_mem {xs : List V} {lo hi : Option Int} {v : V} (h : v ∈ cutV xs lo hi) : v ∈ xs := List.mem_of_mem_drop (List.mem_of_mem_take h)
theorem cut_len {xs : List V} {lo hi : Option Int} : (cutV xs lo hi).length ≤ xs.length := by
  unfold cutV
  rw [List.length_take, List.length_drop]
  omega
theorem DP.one {H : Hp} {a : Addr} {v : V} {d : Nat} (h : H a = some (.tup [v])) (k : DP K H v d) : DP K H (.ref a) (d + 1) := by
  have z := DP.tup (K := K) h (List.cons_ne_nil _ _) (.cons k .nil)
  have e : deepOf [d] = d + 1 := by
    show max 0 (d + 1) = d + 1
    omega
  rw [e] at z
  exact z
theorem DP.nil {H : Hp} {a : Addr} (h : H a = some (.tup [])) : DP K H (.ref a) 0 := .zero (.inr ⟨a, rfl, h⟩)
theorem DP.leaf {H : Hp} {v : V} (h : leafB v = true) : DP K H v 0 := .zero (.inl h)
def spLaw (K : PySem.W.Frag) : Sp := fun vs H Q _ => ∃ (a : Addr) (ns : List Int), vs = [.ref a] ∧ SqL K H a (ns.map V.int) ∧ ns.length ≤ 63 ∧ ∀ H', Q (.bl true) H'
theorem ok_law {f : Addr} {fd : FuncData} (F1 : FnP K "law" "law" s_law f fd) (m_range : mg "range" = none)
    (C_well : Cal P w K mg base CX0 "_law_well" 18 ["_law_cell"] spWell) (C_thing : Cal P w K mg base CX0 "_law_thing" 18 ["_law_well_here", "_law_room"] (spThing K 7))
    (C_spoilt : Cal P w K mg base CX0 "_law_spoilt" 18 ["_law_well_here", "_law_thing_here"] (spSpoilt K 7)) (C_plain : Cal P w K mg base CX0 "is_plain" 18 ["thing"] (spPlain K)) :
    FnOk P w K mg base CX0 19 f fd ["_law_script"] (spLaw K) := by
  obtain ⟨f_law_well, fd_law_well, G_law_well, b_law_well, m_law_well, k_law_well⟩ := C_well
  obtain ⟨f_law_thing, fd_law_thing, G_law_thing, b_law_thing, m_law_thing, k_law_thing⟩ := C_thing
  obtain ⟨f_law_spoilt, fd_law_spoilt, G_law_spoilt, b_law_spoilt, m_law_spoilt, k_law_spoilt⟩ := C_spoilt
  obtain ⟨f_is_plain, fd_is_plain, G_is_plain, b_is_plain, m_is_plain, k_is_plain⟩ := C_plain
  refine F1.ok sc_law (fun vs H Q E h => ?_) (fun cdv A outer s H vs Q E hr h => ?_)
  · obtain ⟨a, ns, rfl, _⟩ := h
    rfl
  · obtain ⟨a, ns, rfl, hS, hlen, q⟩ := h
    refine ⟨_, PSs.nox (pss_cons (ps_for PassesOwn.never rfl (pi_list (pe_op op_cat (pe_slice sl_list (pv 0) po_none (po_some pe_int)) (pe_lst (pa_cons pe_int pa_nil)))) (pg_name (i := 1) sc_law.nd rfl (.inl rfl))
      (pss_cons (ps_set (i := 2) sc_law.nd rfl (.inl rfl) (pe_call G_law_well (hr.mono (by omega)) (by rfl) m_law_well k_law_well b_law_well .nil pass0 (pa_cons (pv 1) pa_nil)))
      (pss_one (ps_for PassesOwn.never rfl (pi_range1 (by rfl) m_range (pa_cons pe_int pa_nil)) (pg_name (i := 3) sc_law.nd rfl (.inl rfl))
        (pss_cons (ps_asg (pe_call G_law_thing (hr.mono (by omega)) (by rfl) m_law_thing k_law_thing b_law_thing .nil pass0 (pa_cons (pv 2) (pa_cons pe_int pa_nil))) (pg_tup rfl (pgs_cons (pg_name (i := 4) sc_law.nd rfl (.inl rfl)) (pgs_cons (pg_name (i := 5) sc_law.nd rfl (.inl rfl)) (pgs_nil)))))
        (pss_cons (ps_if (pt_cmpR op_ne (pe_call G_is_plain (hr.mono (by omega)) (by rfl) m_is_plain k_is_plain b_is_plain .nil pass0 (pa_cons (pv 4) pa_nil)) (pe_cmpR op_le (pv 5) pe_int (nomark _)) (nomark _)) (pss_one (ps_ret pe_bl)) (pss_nil))
        (pss_one (ps_if (PW.pt (pw_or (pt_cmpR op_notBl (pe_call G_is_plain (hr.mono (by omega)) (by rfl) m_is_plain k_is_plain b_is_plain .nil pass0 (pa_cons (pe_call G_law_spoilt (hr.mono (by omega)) (by rfl) m_law_spoilt k_law_spoilt b_law_spoilt .nil pass0 (pa_cons (pv 2) (pa_cons (pv 4) pa_nil))) pa_nil)) pe_bl (nomark _)) (pw_or1 (pt_cmpR op_notBl (pe_call G_is_plain (hr.mono (by omega)) (by rfl) m_is_plain k_is_plain b_is_plain .nil pass0 (pa_cons (pe_lst (pa_cons (pv 4) pa_nil)) pa_nil)) pe_bl (nomark _))))) (pss_one (ps_ret pe_bl)) (pss_nil)))))))))
    (pss_cons (ps_par3 (i := 6) (j := 7) (l := 8) rfl sc_law.nd rfl rfl rfl (by decide) (by decide) (by decide) rfl rfl rfl (pa_cons (pe_tup (pa_nil)) (pa_cons (pe_lst (pa_nil)) (pa_cons pe_non pa_nil))) (by rfl))
    (pss_cons (ps_for PassesOwn.never rfl (pi_range1 (by rfl) m_range (pa_cons pe_int pa_nil)) (pg_name (i := 3) sc_law.nd rfl (.inl rfl))
      (pss_one (ps_par3 (i := 6) (j := 7) (l := 8) rfl sc_law.nd rfl rfl rfl (by decide) (by decide) (by decide) rfl rfl rfl (pa_cons (pe_tup (pa_cons (pv 6) pa_nil)) (pa_cons (pe_lst (pa_cons (pv 7) pa_nil)) (pa_cons (pe_tup (pa_cons (pv 8) (pa_cons (pe_lst (pa_cons (pv 3) pa_nil)) pa_nil))) pa_nil))) (by rfl))))
    (pss_cons (ps_if (PW.pt (pw_or (pt_val (pe_call G_is_plain (hr.mono (by omega)) (by rfl) m_is_plain k_is_plain b_is_plain .nil pass0 (pa_cons (pv 6) pa_nil))) (pw_or (pt_val (pe_call G_is_plain (hr.mono (by omega)) (by rfl) m_is_plain k_is_plain b_is_plain .nil pass0 (pa_cons (pv 7) pa_nil))) (pw_or (pt_val (pe_call G_is_plain (hr.mono (by omega)) (by rfl) m_is_plain k_is_plain b_is_plain .nil pass0 (pa_cons (pe_tup (pa_cons pe_int (pa_cons (pv 6) pa_nil))) pa_nil))) (pw_or1 (pt_val (pe_call G_is_plain (hr.mono (by omega)) (by rfl) m_is_plain k_is_plain b_is_plain .nil pass0 (pa_cons (pv 8) pa_nil)))))))) (pss_one (ps_ret pe_bl)) (pss_nil))
    (pss_one (ps_ret (pe_and (pe_call G_is_plain (hr.mono (by omega)) (by rfl) m_is_plain k_is_plain b_is_plain .nil pass0 (pa_cons (pe_ix ix_tup (pe_tup (pa_cons (pe_tup (pa_cons (pe_tup (pa_cons (pe_tup (pa_cons (pe_tup (pa_cons (pe_tup (pa_nil)) pa_nil)) pa_nil)) pa_nil)) pa_nil)) (pa_cons pe_int pa_nil))) pe_int (fun _ _ => rfl)) pa_nil)) (pe_and (pe_call G_is_plain (hr.mono (by omega)) (by rfl) m_is_plain k_is_plain b_is_plain .nil pass0 (pa_cons (pe_op op_repM (pe_tup (pa_cons pe_int pa_nil)) pe_int) pa_nil)) (pe_one (pe_not (pe_call G_is_plain (hr.mono (by omega)) (by rfl) m_is_plain k_is_plain b_is_plain .nil pass0 (pa_cons (pe_tup (pa_cons (pe_tup (pa_cons (pe_tup (pa_cons (pe_tup (pa_cons (pe_tup (pa_cons pe_int pa_nil)) pa_nil)) pa_nil)) pa_nil)) pa_nil)) pa_nil)))))))))))), ?_⟩
    refine ⟨_, rfl, 6, rfl, a, _, rfl, hS, fun c nc => ⟨by show 1 ≤ sizeLine; decide, fun d nd => ?_⟩⟩
    have hc : (upd (upd H c (.lst (cutV (ns.map V.int) none (some 6)))) d (.lst [V.int 0])) c = some (.lst (cutV (ns.map V.int) none (some 6))) := by
      rw [upd_ne (ne_of_none upd_same nd), upd_same]
    have hl : (cutV (ns.map V.int) none (some 6)).length ≤ 63 := Nat.le_trans cut_len (by rw [List.length_map]; exact hlen)
    refine ⟨c, d, _, _, rfl, rfl, hc, upd_same, Nat.le_of_lt (small1000 (by rw [List.length_singleton]; omega)), fun e ne => ?_⟩
    generalize hX : cutV (ns.map V.int) none (some 6) ++ [V.int 0] = X
    have hXi : ∀ v ∈ X, ∃ z : Int, v = .int z := fun v hv => by
      rw [← hX] at hv
      rcases List.mem_append.mp hv with h1 | h1
      · obtain ⟨z, _, rfl⟩ := List.mem_map.mp (cut_mem h1)
        exact ⟨z, rfl⟩
      · exact ⟨0, List.mem_singleton.mp h1⟩
    generalize upd (upd H c (.lst (cutV (ns.map V.int) none (some 6)))) d (.lst [V.int 0]) = H1 at ne
    refine ⟨e, rfl, ⟨X, .inl (.inl upd_same)⟩, for_list (K := K) (a := e) (xs := X) (fun i σ H' => ∃ v1 v2 v3 v4 v5 v6 v7 v8 : Option V, σ = [some (.ref a), v1, v2, v3, v4, v5, v6, v7, v8] ∧ H' e = some (.lst X))
      ⟨none, none, none, none, none, none, none, none, rfl, upd_same⟩ (fun i σ H' _ ⟨_, _, _, _, _, _, _, _, _, he⟩ => .inl (.inl he)) ?_ ?_⟩
    · rintro i y σ H2 hi ⟨v1, v2, v3, v4, v5, v6, v7, v8, rfl, he⟩
      obtain ⟨z, rfl⟩ := hXi y (List.mem_of_getElem? hi)
      refine ⟨_, rfl, z, rfl, fun p np => ?_⟩
      have npe : e ≠ p := ne_of_none he np
      refine ⟨6, rfl, by decide, by decide, for_range (lo := 0) (n := 6) (fun j σ H' => ∃ (w3 w4 w5 : Option V) (x c : Int), σ = [some (.ref a), some (.int z), some (.ref p), w3, w4, w5, v6, v7, v8] ∧ H' p = some (.lst [.int x, .int c]) ∧ H' e = some (.lst X))
        ⟨_, _, _, z, 0, rfl, upd_same, same_upd np _ _ he⟩ ?_ ?_⟩
      · rintro j σ H3 hj ⟨w3, w4, w5, x, c1, rfl, hp, he3⟩
        refine ⟨_, rfl, p, 6, x, c1, rfl, by decide, hp, fun H4 t v d x2 c2 k4 hp4 ht th dp => ?_⟩
        refine ⟨t, [v, .int d], rfl, .inl (.inl ht), rfl, _, _, rfl, _, _, rfl, rfl, ?_⟩
        refine ⟨_, rfl, v, _, rfl, dp 4, _, rfl, _, 4, rfl, rfl, rfl, _, rfl, ?_⟩
        have e1 : (!decide (V.bl (decide (d ≤ 4)) = V.bl (decide ((d : Int) ≤ 4)))) = false := by
          have : decide (d ≤ 4) = decide ((d : Int) ≤ 4) := decide_eq_decide.mpr (by omega)
          rw [this]
          simp
        rw [e1]
        refine iteF ?_
        refine ⟨_, rfl, _, rfl, p, v, 6, x2, c2, rfl, by decide, hp4, th, fun H5 u x3 c3 k5 hp5 bad => ⟨u, false, rfl, bad 4, false, false, rfl, rfl, false, rfl, iteF ?_⟩⟩
        refine ⟨_, rfl, by show 1 ≤ sizeLine; decide, fun l nl => ⟨.ref l, false, rfl, PN.odd (.inr (.inl ⟨l, _, rfl, upd_same⟩)) 4, false, false, rfl, rfl, false, rfl, iteF ?_⟩⟩
        exact ⟨_, _, _, x3, c3, rfl, same_upd nl _ _ hp5, same_upd nl _ _ (k5 _ _ npe (k4 _ _ npe he3))⟩
      · rintro σ H3 ⟨w3, w4, w5, x, c1, rfl, hp, he3⟩
        exact ⟨_, _, _, _, _, _, _, _, rfl, he3⟩
    · rintro σ H2 ⟨v1, v2, v3, v4, v5, v6, v7, v8, rfl, he⟩
      -- tall, wide, spoilt
      refine ⟨by show 0 ≤ sizeLine; decide, fun a0 na0 => ⟨by show 0 ≤ sizeLine; decide, fun b0 nb0 => ⟨_, _, _, rfl, ?_⟩⟩⟩
      refine ⟨2000, rfl, by decide, by decide, for_range (lo := 0) (n := 2000) (fun i σ H' => ∃ (w3 : Option V) (u1 u2 u3 : V), σ = [some (.ref a), v1, v2, w3, v4, v5, some u1, some u2, some u3] ∧ DP K H' u1 i ∧ Odd K H' u2 ∧ (∀ n : Nat, ∃ b, PN K H' n u3 b) ∧ (1 ≤ i → Bad K H' u3))
        ⟨_, _, _, _, rfl, .nil (same_upd nb0 _ _ upd_same), .inr (.inl ⟨b0, _, rfl, upd_same⟩), leaf_some rfl, fun z => absurd z (by decide)⟩ ?_ ?_⟩
      · rintro i σ H3 hi ⟨w3, u1, u2, u3, rfl, d1, o2, t3, b3⟩
        refine ⟨_, rfl, by show 1 ≤ sizeLine; decide, fun p1 n1 => ⟨_, rfl, by show 1 ≤ sizeLine; decide, fun p2 n2 => ⟨_, rfl, _, rfl, by show 1 ≤ sizeLine; decide, fun p3 n3 => ⟨by show 2 ≤ sizeLine; decide, fun p4 n4 => ⟨_, _, _, rfl, ?_⟩⟩⟩⟩⟩
        have s1 := same_upd (o := .tup [u1]) n1
        have s2 := same_upd (o := .lst [u2]) n2
        have s3 := same_upd (o := .lst [V.int (0 + (i : Int))]) n3
        have s4 := same_upd (o := .tup [u3, .ref p3]) n4
        have e1 := Ev.same (s1.trans (s2.trans (s3.trans s4)))
        have b4 : Bad K _ (.ref p3) := .odd (.inr (.inl ⟨p3, _, rfl, s4 _ _ upd_same⟩))
        have bad : Bad K _ (.ref p4) := .tup (upd_same : upd _ p4 (.tup [u3, .ref p3]) p4 = _) (fun z hz n => by
          rcases List.mem_cons.mp hz with rfl | hz
          · obtain ⟨b, k⟩ := t3 n
            exact ⟨b, k.ev e1⟩
          · rw [List.mem_singleton.mp hz]
            exact b4.some n) (List.mem_cons_of_mem _ (List.mem_singleton.mpr rfl)) b4
        exact ⟨_, _, _, _, rfl, .one ((s2.trans (s3.trans s4)) _ _ upd_same) (d1.ev e1), .inr (.inl ⟨p2, _, rfl, (s3.trans s4) _ _ upd_same⟩), fun n => bad.some n, fun _ => bad⟩
      · rintro σ H3 ⟨w3, u1, u2, u3, rfl, d1, o2, t3, b3⟩
        have f1 : PN K H3 4 u1 false := d1 4
        refine ⟨_, rfl, u1, false, rfl, f1, false, rfl, iteF ⟨_, rfl, u2, false, rfl, PN.odd o2 4, false, rfl, iteF ?_⟩⟩
        refine ⟨_, rfl, by show 2 ≤ sizeLine; decide, fun p1 n1 => ?_⟩
        have e1 : Ev H3 (upd H3 p1 (.tup [.int 1, u1])) := .new n1
        have f2 : PN K (upd H3 p1 (.tup [.int 1, u1])) 4 (.ref p1) false := DP.tup upd_same (List.cons_ne_nil _ _) (.cons (DP.leaf rfl) (.cons (d1.ev e1) .nil)) 4
        refine ⟨.ref p1, false, rfl, f2, false, rfl, iteF ⟨_, rfl, u3, false, rfl, (b3 (by decide)).ev e1 4, false, rfl, iteF ?_⟩⟩
        -- four deep; three thousand wide; five deep
        refine ⟨by show 0 ≤ sizeLine; decide, fun q1 m1 => ⟨by show 1 ≤ sizeLine; decide, fun q2 m2 => ⟨by show 1 ≤ sizeLine; decide, fun q3 m3 => ⟨by show 1 ≤ sizeLine; decide, fun q4 m4 => ⟨by show 1 ≤ sizeLine; decide, fun q5 m5 => ⟨by show 2 ≤ sizeLine; decide, fun q6 m6 => ?_⟩⟩⟩⟩⟩⟩
        have w1 := same_upd (o := .tup []) m1
        have w2 := same_upd (o := .tup [V.ref q1]) m2
        have w3' := same_upd (o := .tup [V.ref q2]) m3
        have w4 := same_upd (o := .tup [V.ref q3]) m4
        have w5 := same_upd (o := .tup [V.ref q4]) m5
        have w6 := same_upd (o := .tup [V.ref q5, V.int 1]) m6
        generalize hG : upd _ q6 (.tup [V.ref q5, V.int 1]) = G
        have h6 : G q6 = some (.tup [V.ref q5, V.int 1]) := by
          rw [← hG]
          exact upd_same
        rw [hG] at w6
        have h5 := w6 _ _ upd_same
        have h4 := (w5.trans w6) _ _ upd_same
        have h3 := (w4.trans (w5.trans w6)) _ _ upd_same
        have h2 := (w3'.trans (w4.trans (w5.trans w6))) _ _ upd_same
        have h1 := (w2.trans (w3'.trans (w4.trans (w5.trans w6)))) _ _ upd_same
        have f5 : PN K G 4 (.ref q5) true := DP.one h5 (.one h4 (.one h3 (.one h2 (.nil h1)))) 4
        refine ⟨q6, [.ref q5, .int 1], 0, .ref q5, rfl, rfl, .inl (.inl h6), rfl, .ref q5, true, rfl, f5, true, rfl, iteT ?_⟩
        refine ⟨by show 1 ≤ sizeLine; decide, fun r1 k1 => ⟨r1, 3000, [.int 1], rfl, rfl, .inl (.inl upd_same), List.cons_ne_nil _ _, by decide, by show ((1 : Nat) : Int) * 3000 ≤ 1000000; decide, fun r2 k2 => ?_⟩⟩
        have f6 : PN K (upd (upd G r1 (.tup [.int 1])) r2 (.tup (List.replicate (3000 : Int).toNat [V.int 1]).flatten)) 4 (.ref r2) true := .inr (.inr ⟨r2, _, rfl, upd_same, .inl ⟨rfl, fun x hx => by
          obtain ⟨l, hl, hx⟩ := List.mem_flatten.mp hx
          rw [(List.mem_replicate.mp hl).2] at hx
          rw [List.mem_singleton.mp hx]
          exact PN.leaf rfl _⟩⟩)
        refine ⟨.ref r2, true, rfl, f6, true, rfl, iteT ?_⟩
        refine ⟨by show 1 ≤ sizeLine; decide, fun p1 n1 => ⟨by show 1 ≤ sizeLine; decide, fun p2 n2 => ⟨by show 1 ≤ sizeLine; decide, fun p3 n3 => ⟨by show 1 ≤ sizeLine; decide, fun p4 n4 => ⟨by show 1 ≤ sizeLine; decide, fun p5 n5 => ?_⟩⟩⟩⟩⟩
        have y2 := same_upd (o := .tup [V.ref p1]) n2
        have y3 := same_upd (o := .tup [V.ref p2]) n3
        have y4 := same_upd (o := .tup [V.ref p3]) n4
        have y5 := same_upd (o := .tup [V.ref p4]) n5
        have f7 : PN K _ 4 (.ref p5) false := DP.one (K := K) (upd_same : upd _ p5 (.tup [V.ref p4]) p5 = _) (.one (y5 _ _ upd_same) (.one ((y4.trans y5) _ _ upd_same) (.one ((y3.trans (y4.trans y5)) _ _ upd_same) (.one ((y2.trans (y3.trans (y4.trans y5))) _ _ upd_same) (.leaf rfl))))) 4
        exact ⟨.ref p5, false, rfl, f7, false, rfl, q _⟩
end
end K01
set_option Elab.async false
set_option linter.all false
set_option maxRecDepth 100000
set_option maxHeartbeats 2000000
namespace K01
open PySem PySem.Spec PyProof.Rows L2 CM
section
variable {P : Program} {w : World} {K : PySem.W.Frag} {mg : Str → Option Value} {base : Heap}
/-! ### Grid() -/
def spFlag (K : PySem.W.Frag) : Sp := fun vs H Q _ => ∃ (v : V) (t : Value) (bb : Bool), vs = [v] ∧ TyX K H v t ∧ PySem.W.kitOne K t (.type "bool") = some bb ∧ Q (.bl bb) H
theorem ok_flag {f : Addr} {fd : FuncData} {k : Nat} (F : FnP K "is_flag" "is_flag" s_is_flag f fd) (m_isinstance : mg "isinstance" = none) (m_bool : mg "bool" = none) : FnOk P w K mg base CX0 (k + 1) f fd ["thing"] (spFlag K) := by
  refine F.ok sc_is_flag (fun vs H Q E h => ?_) (fun cdv A outer s H vs Q E hr h => ?_)
  · obtain ⟨v, t, bb, rfl, _⟩ := h
    rfl
  · obtain ⟨v, t, bb, rfl, ty, kb, q⟩ := h
    refine ⟨_, pss_one (ps_ret (pe_callB call_isi (by rfl) m_isinstance (by decide +kernel) (pa_cons (pv 0) (pa_cons (pe_bltn (v := .ty "bool") (by rfl) m_bool (by decide +kernel) rfl) pa_nil)))), ?_⟩
    exact ⟨_, rfl, v, _, t, _, bb, rfl, .ty _, ty, kb, q⟩
abbrev FunG (K : PySem.W.Frag) (f : Addr) (fd : FuncData) : Prop := FunD K "__init__" "Grid.__init__" (defArgs s_Grid___init) (defBody s_Grid___init) (defScope s_Grid___init) [V.bl false] [] f fd
theorem ok_ginit {C CF f : Addr} {fd : FuncData} {k : Nat} (F : FunG K f fd) (m_isinstance : mg "isinstance" = none) (m_Filling : mg "Filling" = some (.ref CF)) (kF : PySem.W.kitOne K (.type "bool") (.ref CF) = some false)
    (cl : Cls K C) (n1 : NoAttr K C "default") (n2 : NoAttr K C "entries") (C_flag : Cal P w K mg base CX0 "is_flag" (k + 1) ["thing"] (spFlag K)) (C_plain : Cal P w K mg base CX0 "is_plain" (k + 1) ["thing"] (spPlain K)) :
    FnOk P w K mg base CX0 (k + 2) f fd ["self", "default"] (spGrid C) := by
  obtain ⟨f_is_flag, fd_is_flag, G_is_flag, b_is_flag, m_is_flag, k_is_flag⟩ := C_flag
  obtain ⟨f_is_plain, fd_is_plain, G_is_plain, b_is_plain, m_is_plain, k_is_plain⟩ := C_plain
  refine F.ok sc_Grid___init (fun vs H Q E h => ?_) (fun cdv A outer s H vs Q E hr h => ?_)
  · obtain ⟨p, dx, rfl, _⟩ := h
    rfl
  · obtain ⟨p, dx, rfl, hp, q⟩ := h
    refine ⟨_, PSs.nox (pss_one (ps_if (pt_val (pe_callB call_isi (by rfl) m_isinstance (by decide +kernel) (pa_cons (pv 1) (pa_cons (pe_gref (by rfl) m_Filling) pa_nil)))) (pss_cons (ps_fld (pv 0) (pe_fld (pv 1) rfl) rfl)
      (pss_one (ps_fld (pv 0) (pe_fld (pv 1) rfl) rfl))) (pss_one (ps_if (PW.pt (pw_or (pt_val (pe_call G_is_flag (hr.mono (by omega)) (by rfl) m_is_flag k_is_flag b_is_flag .nil pass0 (pa_cons (pv 1) pa_nil))) (pw_or1 (pt_val (pe_call G_is_plain (hr.mono (by omega)) (by rfl) m_is_plain k_is_plain b_is_plain .nil pass0 (pa_cons (pv 1) pa_nil)))))) (pss_cons (ps_fld (pv 0) (pv 1) rfl)
        (pss_one (ps_fld (pv 0) pe_dnewK rfl))) (pss_one (ps_never)))))), ?_⟩
    refine ⟨_, rfl, .bl false, _, _, _, false, rfl, .own CF, .base (.bl false), kF, false, rfl, iteF ?_⟩
    refine ⟨_, rfl, .bl false, _, true, rfl, .base (.bl false), kit_bb (by decide +kernel), true, rfl, iteT (iteT ?_)⟩
    refine ⟨_, rfl, _, rfl, p, C, dx, [], rfl, hp, cl, n1, by decide, fun d hd => ?_⟩
    have np : p ≠ d := ne_of_none (upd_same : upd H p (.ins C dx (putF "default" (.bl false) [])) p = _) hd
    refine ⟨_, rfl, p, C, dx, _, rfl, (by rw [upd_ne np]; exact upd_same), cl, n2, by decide, q _ _ (fun b o n e => ?_) upd_same⟩
    rw [upd_ne n]
    have e2 : upd H p (.ins C dx (putF "default" (.bl false) [])) b = some o := by rw [upd_ne n]; exact e
    rw [upd_ne (ne_of_none e2 hd)]
    exact e2
/-! ### the head -/
def insKB (K : PySem.W.Frag) (C : Addr) : Bool := He.eqO (PySem.W.findIn K (.ref C) "__class__") (some (some (.builtin "object.__class__"))) && (He.eqO (PySem.W.specialIn K (.builtin "object.__class__") "__get__") (some (some (.builtin "getset_descriptor.__get__"))) && (decide (PySem.W.takesIn K (.builtin "object.__class__") = some true) && (decide (PySem.W.mroIn K C (.type "object") = some true) && (decide (PySem.W.kitOne K (.ref C) (.type "int") = some false) && (decide (PySem.W.kitOne K (.ref C) (.type "str") = some false) && decide (PySem.W.kitOne K (.ref C) (.type "tuple") = some false))))))
theorem insKB_ok {K : PySem.W.Frag} {C : Addr} (cl : Cls K C) (h : insKB K C = true) : InsK K C := by
  obtain ⟨h1, h⟩ := He.ba h
  obtain ⟨h2, h⟩ := He.ba h
  obtain ⟨h3, h⟩ := He.ba h
  obtain ⟨h4, h⟩ := He.ba h
  obtain ⟨h5, h⟩ := He.ba h
  obtain ⟨h6, h7⟩ := He.ba h
  exact ⟨cl, He.eqO_ok h1, He.eqO_ok h2, of_decide_eq_true h3, of_decide_eq_true h4, of_decide_eq_true h5, of_decide_eq_true h6, of_decide_eq_true h7⟩
def d_is_int : He.DefD := ⟨("is_int", none), "is_int", "is_int", defArgs s_is_int, defBody s_is_int, defScope s_is_int, [], []⟩
def d_is_flag : He.DefD := ⟨("is_flag", none), "is_flag", "is_flag", defArgs s_is_flag, defBody s_is_flag, defScope s_is_flag, [], []⟩
def d_is_plain : He.DefD := ⟨("is_plain", none), "is_plain", "is_plain", defArgs s_is_plain, defBody s_is_plain, defScope s_is_plain, [], []⟩
def d_is_plain_within : He.DefD := ⟨("is_plain_within", none), "is_plain_within", "is_plain_within", defArgs s_is_plain_within, defBody s_is_plain_within, defScope s_is_plain_within, [], []⟩
def d_Grid___init : He.DefD := ⟨("Grid", some "__init__"), "__init__", "Grid.__init__", defArgs s_Grid___init, defBody s_Grid___init, defScope s_Grid___init, [.bl false], []⟩
def d_law_well : He.DefD := ⟨("_law_well", none), "_law_well", "_law_well", defArgs s_law_well, defBody s_law_well, defScope s_law_well, [], []⟩
def d_law_draw : He.DefD := ⟨("_law_draw", none), "_law_draw", "_law_draw", defArgs s_law_draw, defBody s_law_draw, defScope s_law_draw, [], []⟩
def d_law_one : He.DefD := ⟨("_law_one", none), "_law_one", "_law_one", defArgs s_law_one, defBody s_law_one, defScope s_law_one, [], []⟩
def d_law_thing : He.DefD := ⟨("_law_thing", none), "_law_thing", "_law_thing", defArgs s_law_thing, defBody s_law_thing, defScope s_law_thing, [], []⟩
def d_law_spoilt : He.DefD := ⟨("_law_spoilt", none), "_law_spoilt", "_law_spoilt", defArgs s_law_spoilt, defBody s_law_spoilt, defScope s_law_spoilt, [], []⟩
def d_law : He.DefD := ⟨("law", none), "law", "law", defArgs s_law, defBody s_law, defScope s_law, [], []⟩
def fn : List He.DefD := [d_is_int, d_is_flag, d_is_plain, d_is_plain_within, d_Grid___init, d_law_well, d_law_draw, d_law_one, d_law_thing, d_law_spoilt, d_law]
def fa : List He.Fa := [.glo "is_int", .glo "is_flag", .glo "is_plain", .glo "is_plain_within", .glo "_law_well", .glo "_law_draw", .glo "_law_one", .glo "_law_thing", .glo "_law_spoilt", .glo "law", .glo "Grid", .cls "Grid", .meth "Grid" "__init__", .glo "Filling", .cls "Filling", .free "int", .free "len", .free "range", .free "max", .free "tuple", .free "str", .free "bool", .free "isinstance", .int "DEEPEST" 4, .mkr "Grid", .noat "Grid" "default", .noat "Grid" "entries"]
def loose : List PySem.Str := ["_wall", "DEEPEST", "is_int", "is_flag", "by_repr", "is_plain", "is_plain_within", "GroveError", "BadValue", "Filling", "Grid", "is_place", "checked_place", "standing_in", "_law_well", "_law_draw", "_law_one", "_law_thing", "_law_spoilt"]
def ex (K : PySem.W.Frag) : Bool := insKB K (He.ga K "Grid") && decide (PySem.W.kitOne K (.type "bool") (.ref (He.ga K "Filling")) = some false)
abbrev R : PySem.W.OpenRow := PySem.W.OpenLaw.row PySem.Challenge.rw_kindgrove_k01_plain_values
abbrev hk : PySem.W.Hook := He.hookX 6 fa fn [] [] ex
def ob (s : PySem.W.SharedT) : He.AlX := He.obsX 6 fa fn [] [] ex (HandSHeadRun.getT s)
theorem ob_eq (s : PySem.W.SharedT) : ob s = hk.obs s.abs := He.obsX_eq (HandSHeadRun.getT_eq s)
theorem run (w : World) : HandSHeadRun.RunEq R (PySem.W.view R.prog [23]) hk ob 6000 loose w := by
  intro os
  kernel_rfl
theorem glo {h : Heap} (X : K.In h) (G : h.Ns mainGlobals mg) (c : He.SaysD fa fn K) {x : Str} (hx : He.Fa.glo x ∈ fa) : mg x = some (.ref (He.ga K x)) := He.glo_ok X G (c.facts hx)
theorem fre {h : Heap} (X : K.In h) (G : h.Ns mainGlobals mg) (c : He.SaysD fa fn K) {x : Str} (hx : He.Fa.free x ∈ fa) : mg x = none := He.free_ok X G (c.facts hx)
theorem cal {h : Heap} (X : K.In h) (G : h.Ns mainGlobals mg) (c : He.SaysD fa fn K) {x qn : Str} {st : Stmt} {fd : FuncData} {k : Nat} {ps : List Str} {sp : Sp} (F : FnP K x qn st (He.ga K x) fd)
    (hx : He.Fa.glo x ∈ fa) (ok : FnOk P w K mg base CX0 k (He.ga K x) fd ps sp)
    (hb : ∀ (kV doc pm : Value) (an : Option Addr) (cdv ct : Value) (us : List Value), us.length = ps.length → bindArgs (PySem.W.fnOf x qn (defArgs st) (defBody st) (defScope st) .none kV doc pm an cdv ct) ⟨us, []⟩ = pure (ps.zip us)) : Cal P w K mg base CX0 x k ps sp :=
  ⟨He.ga K x, fd, ok, F.bindsN hb, glo X G c hx, F.kp⟩
theorem calm (c : He.SaysD fa fn K) {C m qn : Str} {st : Stmt} {fd : FuncData} {k : Nat} {ps : List Str} {sp : Sp} (F : FnP K m qn st (He.ma K (He.ga K C) m) fd)
    (hx : He.Fa.meth C m ∈ fa) (ok : FnOk P w K mg base CX0 k (He.ma K (He.ga K C) m) fd ps sp)
    (hb : ∀ (kV doc pm : Value) (an : Option Addr) (cdv ct : Value) (us : List Value), us.length = ps.length → bindArgs (PySem.W.fnOf m qn (defArgs st) (defBody st) (defScope st) .none kV doc pm an cdv ct) ⟨us, []⟩ = pure (ps.zip us)) : CalM P w K mg base CX0 (He.ga K C) m k ps sp :=
  ⟨He.ma K (He.ga K C) m, fd, ok, F.bindsN hb, He.meth_ok (c.facts hx)⟩
theorem facts {h : Heap} {f : Addr} (X : K.In h) (G : h.Ns mainGlobals mg) (hfa : mg ("law" : Str) = some (.ref f)) (c : He.SaysD fa fn K) (m : ex K = true) :
    ∃ fd : FuncData, (∀ (s : Shared) (v : Value), BindsTo s fd ⟨[v], []⟩ [("_law_script", v)]) ∧ ∀ base : Heap, K.In base → base.Ns mainGlobals mg → FnOk P w K mg base CX0 19 f fd ["_law_script"] (spLaw K) := by
  obtain ⟨fd_law, F_law⟩ : ∃ fd, FnP K "law" "law" s_law (He.ga K "law") fd := c.def_ 10 (d := d_law) rfl
  obtain ⟨fd_law_well, F_law_well⟩ : ∃ fd, FnP K "_law_well" "_law_well" s_law_well (He.ga K "_law_well") fd := c.def_ 5 (d := d_law_well) rfl
  obtain ⟨fd_law_draw, F_law_draw⟩ : ∃ fd, FnP K "_law_draw" "_law_draw" s_law_draw (He.ga K "_law_draw") fd := c.def_ 6 (d := d_law_draw) rfl
  obtain ⟨fd_law_one, F_law_one⟩ : ∃ fd, FnP K "_law_one" "_law_one" s_law_one (He.ga K "_law_one") fd := c.def_ 7 (d := d_law_one) rfl
  obtain ⟨fd_law_thing, F_law_thing⟩ : ∃ fd, FnP K "_law_thing" "_law_thing" s_law_thing (He.ga K "_law_thing") fd := c.def_ 8 (d := d_law_thing) rfl
  obtain ⟨fd_law_spoilt, F_law_spoilt⟩ : ∃ fd, FnP K "_law_spoilt" "_law_spoilt" s_law_spoilt (He.ga K "_law_spoilt") fd := c.def_ 9 (d := d_law_spoilt) rfl
  obtain ⟨fd_is_int, F_is_int⟩ : ∃ fd, FnP K "is_int" "is_int" s_is_int (He.ga K "is_int") fd := c.def_ 0 (d := d_is_int) rfl
  obtain ⟨fd_is_flag, F_is_flag⟩ : ∃ fd, FnP K "is_flag" "is_flag" s_is_flag (He.ga K "is_flag") fd := c.def_ 1 (d := d_is_flag) rfl
  obtain ⟨fd_is_plain, F_is_plain⟩ : ∃ fd, FnP K "is_plain" "is_plain" s_is_plain (He.ga K "is_plain") fd := c.def_ 2 (d := d_is_plain) rfl
  obtain ⟨fd_is_plain_within, F_is_plain_within⟩ : ∃ fd, FnP K "is_plain_within" "is_plain_within" s_is_plain_within (He.ga K "is_plain_within") fd := c.def_ 3 (d := d_is_plain_within) rfl
  obtain ⟨fd_Grid___init, F_Grid___init⟩ : ∃ fd, FunD K "__init__" "Grid.__init__" (defArgs s_Grid___init) (defBody s_Grid___init) (defScope s_Grid___init) [(He.Dv.v K (.bl false : He.Dv))] [] (He.ma K (He.ga K "Grid") "__init__") fd := c.def_ 4 (d := d_Grid___init) rfl
  have e := hfa.symm.trans (glo X G c (x := "law") (List.mem_of_getElem? (i := 9) rfl))
  cases e
  have b := FunD.bindsA (ps := ["_law_script"]) F_law fun _ _ _ _ _ _ us hl => match us, hl with | [_], _ => rfl
  refine ⟨fd_law, fun s v => b s [v] rfl, fun base _ _ => ?_⟩
  have m_int := fre X G c (List.mem_of_getElem? (i := 15) rfl)
  have m_len := fre X G c (List.mem_of_getElem? (i := 16) rfl)
  have m_range := fre X G c (List.mem_of_getElem? (i := 17) rfl)
  have m_max := fre X G c (List.mem_of_getElem? (i := 18) rfl)
  have m_tuple := fre X G c (List.mem_of_getElem? (i := 19) rfl)
  have m_str := fre X G c (List.mem_of_getElem? (i := 20) rfl)
  have m_bool := fre X G c (List.mem_of_getElem? (i := 21) rfl)
  have m_isinstance := fre X G c (List.mem_of_getElem? (i := 22) rfl)
  obtain ⟨t_DEEPEST, m_DEEPEST⟩ := He.int_ok X G (c.facts (List.mem_of_getElem? (i := 23) rfl))
  have C1 : ∀ k, Cal P w K mg base CX0 "_law_well" (k + 1) ["_law_cell"] spWell := fun k => (cal X G c F_law_well (List.mem_of_getElem? (i := 4) rfl) ((ok_well (k := 0) F_law_well m_int).mono (by omega)) fun _ _ _ _ _ _ us hl => match us, hl with | [_], _ => rfl)
  have C2 : ∀ k, Cal P w K mg base CX0 "_law_draw" (k + 1) ["_law_well_here", "_law_many"] spDraw := fun k => (cal X G c F_law_draw (List.mem_of_getElem? (i := 5) rfl) ((ok_draw (k := 0) F_law_draw m_int).mono (by omega)) fun _ _ _ _ _ _ us hl => match us, hl with | [_, _], _ => rfl)
  have C3 : ∀ k, Cal P w K mg base CX0 "_law_one" (k + 2) ["_law_well_here", "_law_some"] (spOne K) := fun k => (cal X G c F_law_one (List.mem_of_getElem? (i := 6) rfl) (ok_one F_law_one (C2 k) m_len) fun _ _ _ _ _ _ us hl => match us, hl with | [_, _], _ => rfl)
  have CI : ∀ k, Cal P w K mg base CX0 "is_int" (k + 1) ["thing"] (spInt K) := fun k => (cal X G c F_is_int (List.mem_of_getElem? (i := 0) rfl) (ok_int F_is_int m_isinstance m_int m_bool) fun _ _ _ _ _ _ us hl => match us, hl with | [_], _ => rfl)
  have CF : ∀ k, Cal P w K mg base CX0 "is_flag" (k + 1) ["thing"] (spFlag K) := fun k => (cal X G c F_is_flag (List.mem_of_getElem? (i := 1) rfl) (ok_flag F_is_flag m_isinstance m_bool) fun _ _ _ _ _ _ us hl => match us, hl with | [_], _ => rfl)
  have W5 := ok_within (P := P) (w := w) (base := base) F_is_plain_within m_isinstance m_str m_tuple m_len (CI 0) (F_is_plain_within.bindsN fun _ _ _ _ _ _ us hl => match us, hl with | [_, _], _ => rfl) (glo X G c (List.mem_of_getElem? (i := 3) rfl)) F_is_plain_within.kp 5
  have CW : Cal P w K mg base CX0 "is_plain_within" 6 ["thing", "deepest"] (spW K 5) := (cal X G c F_is_plain_within (List.mem_of_getElem? (i := 3) rfl) (W5) fun _ _ _ _ _ _ us hl => match us, hl with | [_, _], _ => rfl)
  have CP := ok_plain (P := P) (w := w) (base := base) F_is_plain m_DEEPEST CW
  have CP7 : Cal P w K mg base CX0 "is_plain" 7 ["thing"] (spPlain K) := (cal X G c F_is_plain (List.mem_of_getElem? (i := 2) rfl) (CP) fun _ _ _ _ _ _ us hl => match us, hl with | [_], _ => rfl)
  have CP18 : Cal P w K mg base CX0 "is_plain" 18 ["thing"] (spPlain K) := (cal X G c F_is_plain (List.mem_of_getElem? (i := 2) rfl) (CP.mono (by omega)) fun _ _ _ _ _ _ us hl => match us, hl with | [_], _ => rfl)
  have GI := ok_ginit (P := P) (w := w) (base := base) F_Grid___init m_isinstance (glo X G c (x := "Filling") (List.mem_of_getElem? (i := 13) rfl)) (of_decide_eq_true (He.ba m).2) (He.cls_ok (c.facts (List.mem_of_getElem? (i := 11) rfl))) (He.noat_ok (c.facts (List.mem_of_getElem? (i := 25) rfl))) (He.noat_ok (c.facts (List.mem_of_getElem? (i := 26) rfl))) (CF 6) CP7
  obtain ⟨ds, rds, bG⟩ := FunD.binds1 (ps := ["self", "default"]) F_Grid___init 1 0 (by simp) (by simp) (by
    intro T kV doc pm an cdv ct us its h1 h2
    match us, its, h1, h2 with
    | [_], [_], _, _ => exact ⟨_, rfl, rfl⟩)
  have SP := ok_spoilt (P := P) (w := w) (base := base) F_law_spoilt m_isinstance m_tuple m_len (C2 1) (C3 0) (insKB_ok (He.cls_ok (c.facts (List.mem_of_getElem? (i := 11) rfl))) (He.ba m).1) (He.mkr_ok (c.facts (List.mem_of_getElem? (i := 24) rfl))) GI (glo X G c (x := "Grid") (List.mem_of_getElem? (i := 10) rfl)) bG rds (F_law_spoilt.bindsN fun _ _ _ _ _ _ us hl => match us, hl with | [_, _], _ => rfl) (glo X G c (List.mem_of_getElem? (i := 8) rfl)) F_law_spoilt.kp 7
  have TH := ok_thing (P := P) (w := w) (base := base) F_law_thing m_range m_max m_tuple (C2 1) (C3 0) (F_law_thing.bindsN fun _ _ _ _ _ _ us hl => match us, hl with | [_, _], _ => rfl) (glo X G c (List.mem_of_getElem? (i := 7) rfl)) F_law_thing.kp 7
  exact ok_law F_law m_range (C1 17) (cal X G c F_law_thing (List.mem_of_getElem? (i := 7) rfl) (TH.mono (by omega)) fun _ _ _ _ _ _ us hl => match us, hl with | [_, _], _ => rfl) (cal X G c F_law_spoilt (List.mem_of_getElem? (i := 8) rfl) (SP) fun _ _ _ _ _ _ us hl => match us, hl with | [_, _], _ => rfl) CP18
end
end K01
open PySem PySem.W PySem.Calls PyProof.Rows
set_option maxRecDepth 100000 in
set_option maxHeartbeats 0 in
theorem PySem.Challenge.cw_kindgrove_k01_plain_values_holds : PySem.Challenge.rw_kindgrove_k01_plain_values.Holds := by
  w_on; o_law
  refine HandSHeadRun.head_any (r := OpenLaw.row PySem.Challenge.rw_kindgrove_k01_plain_values) (q := view (OpenLaw.row PySem.Challenge.rw_kindgrove_k01_plain_values).prog [23]) (H := K01.hk) (ob := K01.ob) (M := 6000) (loose := K01.loose) (d := HandSHeadRun.topDef (OpenLaw.row PySem.Challenge.rw_kindgrove_k01_plain_values).prog 23) (kwd := []) K01.ob_eq
    (by kernel_rfl) (fun s => by kernel_rfl) K01.run (by kernel_rfl) (by kernel_rfl) (by kernel_rfl) (by rfl) (by first | assumption | decide +kernel) (by decide +kernel) ⟨rfl, rfl, rfl, rfl, rfl, by decide +kernel⟩ ?hw ?hc
  case hw => w_witness2
  case hc =>
    refine L2.walk_ofE (l := PySem.Challenge.rw_kindgrove_k01_plain_values) (n := 63) (k := 19) (x := "_law_script") (CX := L2.CX0) rfl (by decide) (by kernel_rfl) ⟨rfl, by decide, by decide⟩ ?F (fun _ _ _ _ z => z)
    intro w mg fa h Y G hmg0
    obtain ⟨K, KX, c⟩ := Y
    have hmg : mg ("law" : PySem.Str) = some (.ref fa) := by
      have e : (HandSHeadRun.topDef (OpenLaw.row PySem.Challenge.rw_kindgrove_k01_plain_values).prog 23).name = ("law" : PySem.Str) := by kernel_rfl
      rw [← e]
      exact hmg0
    obtain ⟨fd, hb, hF⟩ := K01.facts (P := (PySem.Challenge.rw_kindgrove_k01_plain_values).prog) (w := w) KX G hmg c.t.d c.more
    exact ⟨K, fd, K01.spLaw K, KX, hb, fun H a ns hl _ hS => ⟨a, ns, rfl, hS, hl, fun _ => rfl⟩, hF⟩
