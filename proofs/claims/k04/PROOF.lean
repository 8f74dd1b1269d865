import PyProof.Rows.All
import Wide.All
import OpenK.AllK
import Wide.FinOn
import HandS.ForMost
import HandS.HeadHook4
import HandS.Zip
import HandS.Defaults
import HandS.Wide
import HandS.IsInst
import HandS.NoneIn
import HandS.Style
import HandS.DeepEq
import HandS.Evl
import PyProof.NeKinds
import HandS.TupMul
import PyProof.StrBlock2
import KE.SortKeyHeap
import KE.SortData
import HandS.Lambda
import HandS.EndTab
import HandS.HeadWalk
import HandS.SortKw
import HandS.DictComp
import HandS.Conv
import PyProof.MaxThree
import HandS.Text
import KE.LtData
import PyProof.ReprRoads
import PyProof.ReprReads
import KE.DatumIndex
import HandS.ExcField
import HandS.ExcInit
import HandS.Property
import HandS.MakeKw
import HandS.ExcOwn
import HandS.MakeKwOnly
import HandS.Nested
import HandS.ClsMeth
import HandS.Star
import KE.KSuper
import HandS.WideBits
import KE.KRevSl
import KE.KDictKeyed
import KE.KeyNested
import PyProof.DictMoreH
import HandS.TupLen
import HandS.Small
import HandS.SlotsOwn
import KE.KOpsOwn
import KE.KDictCopyH
import KE.DataEq
import KE.KEqDict
import PyProof.DictFindH
import HandS.Walk
import HandS.HeadNt
import HandS.TryOnly
import HandS.TupAny
import HandS.Head0
import HandS.Head1
import HandS.Head2
import HandS.HeadEnd
import PySem.Challenge.RW_kindgrove_k04_what_grids_refuse
set_option Elab.async false
set_option linter.all false
set_option maxRecDepth 100000
set_option maxHeartbeats 4000000
namespace CM
open PySem PySem.Spec PyProof.Rows L2
/-- a def of the text, by the module's name of it -/
structure Cal (P : Program) (w : World) (K : PySem.W.Frag) (mg : Str → Option Value) (base : Heap) (CX : CXT) (x : Str) (k : Nat) (ps : List Str) (sp : Sp) : Prop where
  ex : ∃ (f : Addr) (fd : FuncData), FnOk P w K mg base CX k f fd ps sp ∧ Binds K fd ps [] ∧ mg x = some (.ref f) ∧ PySem.W.keepIn K (.ref f) = true
/-- a method of the class at C -/
structure CalM (P : Program) (w : World) (K : PySem.W.Frag) (mg : Str → Option Value) (base : Heap) (CX : CXT) (C : Addr) (x : Str) (k : Nat) (ps : List Str) (sp : Sp) : Prop where
  ex : ∃ (f : Addr) (fd : FuncData), FnOk P w K mg base CX k f fd ps sp ∧ Binds K fd ps [] ∧ Meth K C x f
/-- a value that is equal to itself at once -/
def okV (v : V) : Prop := flatB v = true ∨ ∃ a, v = .ref a
theorem okV_ref (a : Addr) : okV (.ref a) := .inr ⟨a, rfl⟩
theorem okV_int (i : Int) : okV (.int i) := .inl rfl
theorem eqAt_ok {A : Around} {s : Shared} {v : V} {u u' : Value} (h : okV v) (r : RelV v u) (r' : RelV v u') : SeqAt.EqAt A s u u' true := by
  rcases h with f | ⟨a, rfl⟩
  · exact eqAt_same r r' f
  · cases (show u = Value.ref a from r)
    cases (show u' = Value.ref a from r')
    exact SeqAt.EqAt.same _
theorem vals_eqAt {A : Around} {s : Shared} : ∀ {xs : List V} {us ws : List Value}, (∀ v ∈ xs, okV v) → Vals xs us → Vals xs ws → ∀ j (h1 : j < us.length) (h2 : j < ws.length), SeqAt.EqAt A s us[j] ws[j] true
  | [], _, _, _, r1, _, j, h1, _ => by
    cases r1
    exact absurd h1 (Nat.not_lt_zero j)
  | v :: xs, _, _, ok, .cons a1 b1, .cons a2 b2, 0, _, _ => eqAt_ok (ok v (List.mem_cons_self ..)) a1 a2
  | v :: xs, _, _, ok, .cons a1 b1, .cons a2 b2, j + 1, h1, h2 => vals_eqAt (fun z hz => ok z (List.mem_cons_of_mem _ hz)) b1 b2 j (Nat.lt_of_succ_lt_succ h1) (Nat.lt_of_succ_lt_succ h2)
/-! ### what stays -/
theorem same_upd {H : Hp} {p : Addr} {o : HO} (h : H p = none) : Same H (upd H p o) := fun b x e => by
  rw [upd_ne (ne_of_none e h)]
  exact e
theorem same_put {A H : Hp} {p : Addr} {o : HO} (s : Same A H) (h : A p = none) : Same A (upd H p o) := fun b u e => by
  rw [upd_ne (ne_of_none e h)]
  exact s b u e
/-- all but the thing at a stays -/
def Kp (a : Addr) (H H' : Hp) : Prop := ∀ b o, b ≠ a → H b = some o → H' b = some o
theorem Kp.trans {a : Addr} {H H1 H2 : Hp} (x : Kp a H H1) (y : Kp a H1 H2) : Kp a H H2 := fun b o n e => y b o n (x b o n e)
theorem Kp.same {a : Addr} {H H1 : Hp} (s : Same H H1) : Kp a H H1 := fun b o _ e => s b o e
theorem Kp.set {a : Addr} {H : Hp} {o : HO} : Kp a H (upd H a o) := fun b u n e => by
  rw [upd_ne n]
  exact e
theorem Kp.ne {a p : Addr} {H : Hp} {o : HO} (h : H a = some o) (hp : H p = none) : p ≠ a := fun z => by
  rw [z, h] at hp
  cases hp
theorem max_if (i j : Int) : (if j > i then j else i) = max i j := by
  rw [Int.max_def]
  split <;> split <;> omega
theorem min_if (i j : Int) : (if j < i then j else i) = min i j := by
  rw [Int.min_def]
  split <;> split <;> omega
def Tup2 (H : Hp) (p : Addr) (lo hi : Int) : Prop := H p = some (.tup [.int lo, .int hi])
section
variable {X : Cx}
theorem pe_gref {x : Str} {C : Addr} {pos : Pos} (hg : Gl X x) (hm : X.mg x = some (.ref C)) (hdb : (x == ("__debug__" : Str)) = false := by decide) : PE X (.Name x pos) (tC (.ref C)) := pe_glob (v := .ref C) hg hm rfl hdb
/-- a != b of two lists of the very same items -/
def rNeS (K : PySem.W.Frag) : R2 := fun x y H Q => ∃ (a b : Addr) (xs : List V), x = .ref a ∧ y = .ref b ∧ SqL K H a xs ∧ SqL K H b xs ∧ (∀ v ∈ xs, okV v) ∧ Q (.bl false) H
theorem op_neS (hu : X.A.units + 64 < cLine) : OpR X (compareOp .NotEq) (rNeS X.K) := by
  intro pns s σ H x y v u Q I rx ry h
  obtain ⟨a, b, xs, rfl, rfl, ha, hb, ok, q⟩ := h
  cases (show v = Value.ref a from rx)
  cases (show u = Value.ref b from ry)
  obtain ⟨us, r1, p1, _⟩ := I.list ha
  obtain ⟨ws, r2, p2, _⟩ := I.list hb
  have hz : us.toArray.size = ws.toArray.size := by
    rw [List.size_toArray, List.size_toArray, ← r1.length, ← r2.length]
  refine SeqAt.RcNeAt.lists (e := fun _ => true) p1.isList p2.isList hz (by omega) (fun j h1 h2 => ?_) X.prog X.w X.xe _ ?_
  · have z := vals_eqAt (A := X.A.in1) (s := s) ok r1 r2 j (by simpa using h1) (by simpa using h2)
    simpa using z
  · rw [show ((List.range us.toArray.size).all fun _ => true) = true from List.all_eq_true.mpr fun _ _ => rfl]
    exact ⟨.bl false, H, I, rfl, q⟩
/-- a == (), a a tuple -/
def rEqNil (K : PySem.W.Frag) : R2 := fun x y H Q => ∃ (a b : Addr) (xs : List V), x = .ref a ∧ y = .ref b ∧ SqT K H a xs ∧ SqT K H b [] ∧ Q (.bl xs.isEmpty) H
theorem op_eqNil (hu : X.A.units + 64 < cLine) : OpR X (compareOp .Eq) (rEqNil X.K) := by
  intro pns s σ H x y v u Q I rx ry h
  obtain ⟨a, b, xs, rfl, rfl, ha, hb, q⟩ := h
  cases (show v = Value.ref a from rx)
  cases (show u = Value.ref b from ry)
  obtain ⟨us, r1, p1, _⟩ := I.tuple ha
  obtain ⟨ws, r2, p2, _⟩ := I.tuple hb
  cases r2
  refine SeqAt.eq_tupleAt (e := fun _ => true) p1 p2 (by omega) (fun j h1 h2 => absurd h2 (by simp)) ?_
  have e : ((List.range (min us.toArray.size (#[] : Array Value).size)).all (fun _ => true) && us.toArray.size == (#[] : Array Value).size) = xs.isEmpty := by
    rw [List.size_toArray, ← r1.length]
    cases xs <;> simp
  exact ⟨.bl _, H, I, rfl, by rw [e]; exact q⟩
def rStrMul : R2 := fun x y H Q => ∃ (z : Str) (n : Int), x = .str z ∧ y = .int n ∧ MulOk z n ∧ Q (.str (Txt.mul z n)) H
theorem op_strmul : OpR X (binaryOp .Mult) rStrMul := by
  intro pns s σ H x y v u Q I rx ry h
  obtain ⟨z, n, rfl, rfl, ok, q⟩ := h
  obtain ⟨t1, rfl⟩ := rx
  obtain ⟨t2, rfl⟩ := ry
  exact SB.mul ok fun t' k => ⟨.str _, H, I.tok k, ⟨t', rfl⟩, q⟩
/-- a tuple taken many times -/
def rRepM (K : PySem.W.Frag) : R2 := fun x y H Q => ∃ l k xs, x = .ref l ∧ y = .int k ∧ SqT K H l xs ∧ xs ≠ [] ∧ 2 ≤ k ∧ (xs.length : Int) * k ≤ 1000000 ∧ ∀ p, H p = none → Q (.ref p) (upd H p (.tup (List.replicate k.toNat xs).flatten))
theorem op_repM : OpR X (binaryOp .Mult) (rRepM X.K) := by
  intro pns s σ H x y v u Q I rx ry h
  obtain ⟨l, k, xs, rfl, rfl, hT, hne, hlo, hz, q⟩ := h
  cases (show v = Value.ref l from rx)
  obtain ⟨t, rfl⟩ := ry
  obtain ⟨us, r, ⟨⟨cl, di, da, slo⟩, ho, hc, n, hd⟩, hs⟩ := I.tuple hT
  dsimp only at hc hd
  subst hc
  subst hd
  have hle : us.length = xs.length := r.length.symm
  have h0 : us.toArray.isEmpty = false := by
    cases us with
    | nil =>
      cases xs with
      | nil => exact absurd rfl hne
      | cons => cases hle
    | cons _ _ => rfl
  have hsz : us.toArray.size = xs.length := by rw [List.size_toArray, hle]
  have pos : 1 ≤ xs.length := by
    cases xs with
    | nil => exact absurd rfl hne
    | cons => rw [List.length_cons]; omega
  have hk : k ≤ 1000000 := by
    have a1 : (1 : Int) * k ≤ (xs.length : Int) * k := Int.mul_le_mul_of_nonneg_right (by omega) (by omega)
    omega
  have hm : ((us.toArray.size : Nat) : Int) * k ≤ 1000000 := by rw [hsz]; exact hz
  have hflat : (List.replicate k.toNat us).flatten.length ≤ sizeLine := by
    rw [lm_len_rep_flat, hle, sizeLine_eq]
    have a2 : ((k.toNat * xs.length : Nat) : Int) = (xs.length : Int) * k := by
      rw [Int.natCast_mul, Int.toNat_of_nonneg (by omega), Int.mul_comm]
    omega
  have c0 : (decide (k < -(2 ^ 63)) || decide (k ≥ 2 ^ 63)) = false := by
    simp only [Bool.or_eq_false_iff, decide_eq_false_iff_not]
    omega
  have c1 : (us.toArray.isEmpty || k == 1) = false := by
    rw [h0, Bool.false_or, beq_eq_false_iff_ne]
    omega
  have c2 : (decide (k ≤ 0) || us.toArray.isEmpty) = false := by
    rw [h0, Bool.or_false, decide_eq_false_iff_not]
    omega
  have c4 : Builtin.Tuple.tupleTooMany (((us.toArray.size : Nat) : Int) * k) = false := by
    unfold Builtin.Tuple.tupleTooMany
    rw [sizeLine_eq, decide_eq_false_iff_not]
    omega
  have big : (List.foldl (fun x1 x2 => x1 ++ x2) #[] (List.replicate k.toNat us.toArray)).size ≤ sizeLine := by
    rw [size_rep, List.size_toArray]
    exact hflat
  have inner := tuple_mulW l us.toArray n di slo k t c0 c1 c2 (by omega) c4 big
  have outer := int_rmul_tuple k t l us.toArray n di slo
  refine wpAny_binaryOp_repeat_ref (T := "tuple") (U := "int") (by decide) ⟨_, ho, rfl⟩ (fun s1 => typeIs_int s1 k t) noFill_tuple_mul F.fills_int_mul F.slot_int_rmul repeat_tuple F.slot_int_index.lookup ?_
  refine call_meets F.slot_int_rmul (typeIs_int s k t) F.entry_int_rmul (F.args_int_rmul_2 _ _) outer ⟨ho, rfl, ⟨_, ho, rfl⟩, ?_⟩
  refine call_meets F.slot_tuple_mul ⟨_, ho, rfl⟩ F.entry_tuple_mul (F.args_tuple_mul_2 _ _) inner ⟨ho, ?_⟩
  rw [size_rep]
  have hnew : H s.heap.objs.size = none := I.hok.fresh (Nat.le_refl _)
  have hfl2 : (List.replicate k.toNat xs).flatten.length ≤ sizeLine := by
    have z := (r.rep k.toNat).length
    rw [z]
    exact hflat
  exact ⟨.ref s.heap.objs.size, _, I.laid (t' := s.toks) (o := .tup (List.replicate k.toNat xs).flatten) (fun b ob z => Heap.get?_push_of_some _ z) (Nat.le_refl _) ⟨hfl2, _, r.rep k.toNat, IsTup.new _ _⟩, rfl, q _ hnew⟩
/-- a != b of two tuples of the very same items -/
def rNeST (K : PySem.W.Frag) : R2 := fun x y H Q => ∃ (a b : Addr) (xs : List V), x = .ref a ∧ y = .ref b ∧ SqT K H a xs ∧ SqT K H b xs ∧ (∀ v ∈ xs, okV v) ∧ Q (.bl false) H
theorem op_neST (hu : X.A.units + 64 < cLine) : OpR X (compareOp .NotEq) (rNeST X.K) := by
  intro pns s σ H x y v u Q I rx ry h
  obtain ⟨a, b, xs, rfl, rfl, ha, hb, ok, q⟩ := h
  cases (show v = Value.ref a from rx)
  cases (show u = Value.ref b from ry)
  obtain ⟨us, r1, p1, _⟩ := I.tuple ha
  obtain ⟨ws, r2, p2, _⟩ := I.tuple hb
  have hz : us.toArray.size = ws.toArray.size := by
    rw [List.size_toArray, List.size_toArray, ← r1.length, ← r2.length]
  refine SeqAt.RcNeAt.tuples (e := fun _ => true) p1 p2 (by omega) (fun j h1 h2 => ?_) X.prog X.w X.xe _ ?_
  · have z := vals_eqAt (A := X.A.in1) (s := s) ok r1 r2 j (by simpa using h1) (by simpa using h2)
    simpa using z
  · rw [show ((List.range (min us.toArray.size ws.toArray.size)).all fun _ => true) = true from List.all_eq_true.mpr fun _ _ => rfl, hz]
    exact ⟨.bl _, H, I, rfl, by simpa using q⟩
/-- a != b, both of them pairs of ints -/
def rNeI2 (K : PySem.W.Frag) : R2 := fun x y H Q => ∃ (a b : Addr) (i j k l : Int), x = .ref a ∧ y = .ref b ∧ SqT K H a [.int i, .int j] ∧ SqT K H b [.int k, .int l] ∧ Q (.bl (!decide (i = k ∧ j = l))) H
theorem op_neI2 (hu : X.A.units + 64 < cLine) : OpR X (compareOp .NotEq) (rNeI2 X.K) := by
  intro pns s σ H x y v u Q I rx ry h
  obtain ⟨a, b, i, j, k, l, rfl, rfl, ha, hb, q⟩ := h
  cases (show v = Value.ref a from rx)
  cases (show u = Value.ref b from ry)
  obtain ⟨us, r1, p1, _⟩ := I.tuple ha
  obtain ⟨ws, r2, p2, _⟩ := I.tuple hb
  obtain ⟨u1, u2, rfl, ⟨t1, rfl⟩, ⟨t2, rfl⟩⟩ := vals2 r1
  obtain ⟨w1, w2, rfl, ⟨t3, rfl⟩, ⟨t4, rfl⟩⟩ := vals2 r2
  refine SeqAt.RcNeAt.tuples (e := fun n => if n = 0 then i == k else j == l) p1 p2 (by omega) (fun n h1 h2 => ?_) X.prog X.w X.xe _ ?_
  · match n, h1, h2 with
    | 0, _, _ => exact SeqAt.EqAt.int_int i t1 k t3
    | 1, _, _ => exact SeqAt.EqAt.int_int j t2 l t4
    | n + 2, h1, _ => exact absurd h1 (by simp)
  · have e : (!((List.range (min [Value.int i t1, Value.int j t2].toArray.size [Value.int k t3, Value.int l t4].toArray.size)).all (fun n => if n = 0 then i == k else j == l) && [Value.int i t1, Value.int j t2].toArray.size == [Value.int k t3, Value.int l t4].toArray.size)) = !decide (i = k ∧ j = l) := by
      show (!((List.range 2).all (fun n => if n = 0 then i == k else j == l) && true)) = _
      rw [show List.range 2 = [0, 1] from rfl]
      by_cases e1 : i = k <;> by_cases e2 : j = l <;> simp [e1, e2]
    rw [e]
    exact ⟨.bl _, H, I, rfl, q⟩
/-- a == b of two lists of the very same items -/
def rEqS (K : PySem.W.Frag) : R2 := fun x y H Q => ∃ (a b : Addr) (xs : List V), x = .ref a ∧ y = .ref b ∧ SqL K H a xs ∧ SqL K H b xs ∧ (∀ v ∈ xs, okV v) ∧ Q (.bl true) H
theorem op_eqS (hu : X.A.units + 64 < cLine) : OpR X (compareOp .Eq) (rEqS X.K) := by
  intro pns s σ H x y v u Q I rx ry h
  obtain ⟨a, b, xs, rfl, rfl, ha, hb, ok, q⟩ := h
  cases (show v = Value.ref a from rx)
  cases (show u = Value.ref b from ry)
  obtain ⟨us, r1, p1, _⟩ := I.list ha
  obtain ⟨ws, r2, p2, _⟩ := I.list hb
  have hz : us.toArray.size = ws.toArray.size := by
    rw [List.size_toArray, List.size_toArray, ← r1.length, ← r2.length]
  refine SeqAt.eq_listAt (e := fun _ => true) p1.isList p2.isList hz (by omega) (fun j h1 h2 => ?_) ?_
  · have z := vals_eqAt (A := X.A.in1) (s := s) ok r1 r2 j (by simpa using h1) (by simpa using h2)
    simpa using z
  · rw [show ((List.range us.toArray.size).all fun _ => true) = true from List.all_eq_true.mpr fun _ _ => rfl]
    exact ⟨.bl true, H, I, rfl, q⟩
/-- a != [], a a list -/
def rNeNil (K : PySem.W.Frag) : R2 := fun x y H Q => ∃ (a b : Addr) (xs : List V), x = .ref a ∧ y = .ref b ∧ SqL K H a xs ∧ SqL K H b [] ∧ Q (.bl (!xs.isEmpty)) H
theorem op_neNil (hu : X.A.units + 64 < cLine) : OpR X (compareOp .NotEq) (rNeNil X.K) := by
  intro pns s σ H x y v u Q I rx ry h
  obtain ⟨a, b, xs, rfl, rfl, ha, hb, q⟩ := h
  cases (show v = Value.ref a from rx)
  cases (show u = Value.ref b from ry)
  obtain ⟨us, r1, p1, _⟩ := I.list ha
  obtain ⟨ws, r2, p2, _⟩ := I.list hb
  cases r2
  cases r1 with
  | nil => exact SeqAt.RcNeAt.lists (e := fun _ => true) p1.isList p2.isList rfl (by omega) (fun j h1 h2 => absurd h2 (by simp)) X.prog X.w X.xe _ ⟨.bl false, H, I, rfl, q⟩
  | cons a1 b1 => exact SeqAt.RcNeAt.lists_lengths p1.isList p2.isList (by simp) (by omega) X.prog X.w X.xe _ ⟨.bl true, H, I, rfl, q⟩
/-- how many unlike ints a list has -/
def unlike (ns : List Int) : Nat := (firstMet (fun i => ns.getD i 0) ns.length).length
def tUnlike (K : PySem.W.Frag) (ta : TE) : TE := fun σ H Q => ta σ H fun x G => ∃ (l : Addr) (ns : List Int), x = .ref l ∧ SqL K G l (ns.map V.int) ∧ ns.length ≤ 4000 ∧ Q (.int (unlike ns : Nat)) G
theorem pe_unlike {e : Expr} {ta : TE} {p1 p2 p3 p4 : Pos} (hg : Gl X "len") (hm : X.mg "len" = none) (hg2 : Gl X "set") (hm2 : X.mg "set" = none) (ha : PE X e ta) (hc : X.calm = true := by rfl)
    (na : starEach [e] X.env = (false, eval e X.env) :: starEach [] X.env := by rfl) : PE X (.Call (.Name "len" p1) [.Call (.Name "set" p2) [e] [] p3] [] p4) (tUnlike X.K ta) := by
  refine ⟨fun pns s σ H Q I h => Call_ (ld_blt I hg hm PySem.boot_len (callWith_builtin1 (args_cons (Call_ (ld_blt I hg2 hm2 boot_set (callWith_type1 (args_cons (thn (ha.run pns s σ H _ I h) ?_) na) na rfl))) rfl) rfl rfl))⟩
  rintro v t ⟨x, G, J, r, l, ns, rfl, hq, hl, q⟩
  cases r
  obtain ⟨us, rv, pl, _⟩ := J.list hq
  have hz : us.toArray.size = ns.length := by rw [List.size_toArray, ← rv.length, List.length_map]
  refine args_nil (call_set_list (J.ok.hd hc) pl.isList (ns := ns) (by simpa using RZ.intsAre_vals rv) (by rw [hz]; unfold scanBound; omega) fun h' tk hS hk => args_nil ?_)
  rw [hz] at hS
  obtain ⟨o, es, ep, tb, ho, hex, hd, _, _, _, hf, hn⟩ := hS
  have hle := firstMet_length_le (fun i => ns.getD i 0) ns.length
  have J2 : Inv X pns σ G { t with heap := h', toks := tk } := J.kept fun b o e => hk b o (Heap.lt_size e) e
  exact call_len_set ho hex hd hf (by rw [hn]; omega) ⟨.int (unlike ns : Nat), G, J2.tok _, ⟨_, by rw [hn]; rfl⟩, q⟩
/-- a class without an __init__ -/
structure MkO (K : PySem.W.Frag) (C : Addr) : Prop where
  makes : PySem.W.makesIn K C = true
  init : PySem.W.findIn K (.ref C) "__init__" = some (some (.builtin "object.__init__"))
  kp : PySem.W.keepIn K (.ref C) = true
  ob : PySem.W.mroIn K C (.type "object") = some true
def mkoB (K : PySem.W.Frag) (C : Addr) : Bool := PySem.W.makesIn K C && (He.eqO (PySem.W.findIn K (.ref C) "__init__") (some (some (.builtin "object.__init__"))) && (PySem.W.keepIn K (.ref C) && decide (PySem.W.mroIn K C (.type "object") = some true)))
theorem mkoB_ok {K : PySem.W.Frag} {C : Addr} (h : mkoB K C = true) : MkO K C := by
  obtain ⟨h1, h⟩ := He.ba h
  obtain ⟨h2, h⟩ := He.ba h
  obtain ⟨h3, h4⟩ := He.ba h
  exact ⟨h1, He.eqO_ok h2, h3, of_decide_eq_true h4⟩
theorem pe_make00 {C : Addr} {x : Str} {p pos : Pos} (M : MkO X.K C) (hg : Gl X x) (hm : X.mg x = some (.ref C)) (hdb : (x == ("__debug__" : Str)) = false := by decide) :
    PE X (.Call (.Name x p) [] [] pos) (fun σ H Q => ∀ x dx, H x = none → H dx = none → dx ≠ x → Q (.ref x) (upd (upd H dx (.own x)) x (.ins C dx []))) := by
  refine ⟨fun pns s σ H Q I h => wpAny_Call_Name_kw (ld_glob I hg hm ?_ hdb)⟩
  refine PySem.W.callWith_K0 I.kIn M.kp ?_
  show wpAny _ _ (call (.ref C) []) _ _ _
  have hq := h (s.heap.objs.size + 1) s.heap.objs.size (I.hok.fresh (Nat.le_succ _)) (I.hok.fresh (Nat.le_refl _)) (Nat.ne_of_lt (Nat.lt_succ_self _))
  have J := Inv.made (C := C) I
  refine wpAny_call (make_map0 I.kIn M.makes M.init (fun me => PySem.W.Looks.of_pure (PySem.W.oi_bind me)) ?_)
  have ho : ((s.heap.push PySem.W.emptyDict).push (PySem.W.instObj C s.heap.objs.size)).get? (s.heap.objs.size + 1) = some (PySem.W.instObj C s.heap.objs.size) := by
    have z := Heap.get?_push_size (s.heap.push PySem.W.emptyDict) (o := PySem.W.instObj C s.heap.objs.size) rfl
    rw [Heap.size_push] at z
    exact z
  have t1 : PySem.W.Looks (model X.prog X.w) ((s.heap.push PySem.W.emptyDict).push (PySem.W.instObj C s.heap.objs.size)) (typeOf (.ref (s.heap.objs.size + 1))) (.ref C) := (PySem.W.Looks.ld ho).andThen .now
  have t2 : PySem.W.Looks (model X.prog X.w) ((s.heap.push PySem.W.emptyDict).push (PySem.W.instObj C s.heap.objs.size)) (isInstance (.ref (s.heap.objs.size + 1)) (.type "object")) true := t1.andThen (PySem.W.looks_mroIn J.kIn M.ob)
  refine codeAny_call_builtin PySem.W.oi_plain PySem.W.entry_oi (PySem.W.check_slot PySem.W.oi_kind PySem.W.oi_split t2 (PySem.W.oi_args (.ref (s.heap.objs.size + 1))) ?_)
  rw [PySem.W.oi_run]
  exact wpAny_pure ⟨rfl, ⟨V.ref (s.heap.objs.size + 1), _, J, rfl, hq⟩⟩
/-! ### within a comprehension: the written part by its name -/
theorem ix_listK {K : PySem.W.Frag} (h : X.K = K := by rfl) : IxR X (rIxL K) := by
  subst h
  exact ix_list
theorem ix_tupK {K : PySem.W.Frag} (h : X.K = K := by rfl) : IxR X (rIxT K) := by
  subst h
  exact ix_tup
theorem pg_tupK {K : PySem.W.Frag} {n : Nat} {es : List Expr} {k : Nat} {t : TGs} (hc : X.calm = true) (h : PGs X es t) (hK : X.K = K := by rfl)
    (hn : (assignEach es X.env).length = n := by rfl) (hst : (assignEach es X.env).findIdx? (·.1) = none := by rfl) : PG X (.Tuple es k pos) (gTup K n t) := by
  subst hK
  exact pg_tup hc h hn hst
theorem op_ltTK {K : PySem.W.Frag} (hu : X.A.units < cLine) (h : X.K = K := by rfl) : OpR X (compareOp .Lt) (rLtT K) := by
  subst h
  exact op_ltT hu
end
end CM
set_option Elab.async false
set_option linter.all false
set_option maxRecDepth 100000
set_option maxHeartbeats 4000000
namespace SL
open PySem PySem.Spec PyProof.Rows L2 CM LamX
/-! ### a def whose code object is told -/
section
variable {P : Program} {w : World} {K : PySem.W.Frag} {mg : Str → Option Value} {base : Heap} {x qual : Str} {params : Arguments} {body : List Stmt} {scope : Scope} {dvs : List V} {kws : List (Str × V)} {fd : FuncData}
theorem okC {CX : CXT} {N ps : List Str} {k : Nat} {sp : Sp} {p : He.Defn} (F : FunD K x qual params body scope dvs kws (He.fAd K p) fd) (S : FnScope N ps scope) (len : ∀ vs H Q E, sp vs H Q E → vs.length = ps.length)
    (hbody : ∀ (A : Around) (outer : List Env) (s : Shared) (H : Hp) (vs : List V) (Q : VK) (E : XK), Room k (A.deeper (envOfC qual scope s.heap.objs.size (He.fAd K p) (.ref (He.codeOf K p)))) → sp vs H Q E →
      ∃ t, PSs (cxOf CX P w K mg base N qual scope (He.fAd K p) (.ref (He.codeOf K p)) A outer s H E) body t ∧ t { nx := fun _ H' => Q .non H', rt := Q } (start N vs) H) : FnOk P w K mg base CX (k + 1) (He.fAd K p) fd ps sp := by
  obtain ⟨oc, od, dV, kV, doc, pm, an, cdv, ct, osl, rfl, lk, hcd, _, _⟩ := F.ex
  obtain ⟨c, rfl⟩ := He.codeIn_ref hcd
  have e : He.codeOf K p = c := He.codeOf_eq lk rfl
  rw [e] at hbody
  exact fn_of lk hcd S len hbody
end
/-! ### a lambda of one parameter, called: its key alone is asked, the heap grows -/
/-- one parameter of its own, captured names, globals -/
structure Lam1 (sc scope : Scope) (x : Str) : Prop where
  kind : scope.kind = .function
  co : scope.isCoroutine = false
  gen : scope.isGenerator = false
  par : scope.names.lookup x = some .local
  nocell : ∀ y ∈ scope.names, y.2 ≠ .cell
  free : ∀ y ∈ scope.names, y.2 = .free → sc.names.lookup y.1 = some .cell ∨ sc.names.lookup y.1 = some .free
def lam1B (sc scope : Scope) (x : Str) : Bool :=
  decide (scope.kind = .function) && (!scope.isCoroutine && (!scope.isGenerator && (decide (scope.names.lookup x = some .local) && ((scope.names.all fun y => !decide (y.2 = .cell)) && (scope.names.all fun y => !decide (y.2 = .free) || decide (sc.names.lookup y.1 = some .cell) || decide (sc.names.lookup y.1 = some .free))))))
theorem lam1_by {sc scope : Scope} {x : Str} (h : lam1B sc scope x = true) : Lam1 sc scope x := by
  unfold lam1B at h
  simp only [Bool.and_eq_true, Bool.or_eq_true, Bool.not_eq_true', decide_eq_true_eq, decide_eq_false_iff_not, List.all_eq_true] at h
  obtain ⟨h1, h2, h3, h4, h5, h6⟩ := h
  refine ⟨h1, h2, h3, h4, h5, fun y hy e => ?_⟩
  rcases h6 y hy with (z | z) | z
  · exact absurd e z
  · exact .inl z
  · exact .inr z
theorem Lam1.has {X : Cx} {scope : Scope} {x : Str} (L : Lam1 X.env.scope scope x) (ok : X.Ok) : ∀ y ∈ scope.names, y.2 = .free → ∃ c, X.env.cells.lookup y.1 = some c := fun y hy e =>
  (L.free y hy e).elim (fun z => ok.has _ (.inl z)) fun z => ok.has _ (.inr z)
section
variable {prog : Program} {w : World} {A : Around} {s : Shared}
theorem lam_call {sc : Scope} {f c' : Addr} {x : Str} {params : Arguments} {body : Expr} {scope : Scope} {cl : List (Str × Addr)} {pm ctv v : Value} {qual : Str} {k : PyData} (L : Lam1 sc scope x)
    (hroom : A.depth < recursionLimit) (hf : s.heap.get? f = some (PySem.W.kla_obj "<lambda>" qual params body scope cl pm c' ctv)) (hcd : s.heap.CodeRec (.ref c') qual) (lim : s.heap.NoLimit)
    (hbind : bindArgs (PySem.W.kla_fn "<lambda>" qual params body scope cl pm (.ref c') ctv) ⟨[v], []⟩ = pure [(x, v)])
    (h : ∀ (D : Addr) (g : Heap) (tk : Nat), (∀ b o, s.heap.get? b = some o → g.get? b = some o) → g.Ns D (fun y => [(x, v)].reverse.lookup y) →
      wpAny (model prog w) (A.deeper (PySem.W.envX qual scope D f (.ref c') cl)) (eval body (PySem.W.envX qual scope D f (.ref c') cl)) (PySem.W.KeyPure k { s with heap := g, toks := tk }) (fun _ _ => False) { s with heap := g, toks := tk }) :
    wpAny (model prog w) A (call (.ref f) [v]) (PySem.W.KeyPure k s) (fun _ _ => False) s := by
  refine wpAny_call (PySem.W.kla_callFunE hroom hf rfl L.co L.gen rfl hcd ?_)
  rw [hbind]
  refine wpAny_pure (wpAny_newFunctionEnv L.nocell (fun y hy => ?_) (fun g hns hsb => ⟨lim.fresh _ hsb, ?_⟩) L.kind)
  · rw [List.mem_singleton.mp hy]
    exact L.par
  · have up : ∀ b o, s.heap.get? b = some o → g.get? b = some o := fun b o e => hsb.extBut b o (Nat.ne_of_lt (Heap.lt_size e)) (Heap.get?_push_of_some _ e)
    refine PySem.W.kla_codeExpr (wpAny_mono (h _ g _ up hns) (fun u t ⟨g2, tk, e, up2, rd⟩ => ?_) fun _ _ z => z.elim)
    exact ⟨g2, tk, e, fun b o q => up2 b o (up b o q), rd⟩
end
/-! ### sorted(e, key=lambda x: body) -/
/-- what stands at the captured names: cells of the running frame, their values -/
def CapAt (X : Cx) (σ : L2.St) (g : Heap) (cl : List (Str × Addr)) : Prop := ∀ (i : Nat) (y : Str) (v : V), X.N[i]? = some y → σ[i]? = some (some v) → (∃ c, cl.lookup y = some c) → ∃ c u, cl.lookup y = some c ∧ RelV v u ∧ g.IsCell c (some u)
theorem capAt_of {X : Cx} {pins : List (Addr × Obj)} {σ : L2.St} {H : Hp} {s : Shared} {scope : Scope} {x : Str} (I : Inv X pins σ H s) (L : Lam1 X.env.scope scope x) : CapAt X σ s.heap (cloFrom X.env.cells scope.names []) := by
  intro i y v hi hv ⟨c, hc⟩
  have hm : (y, NameKind.free) ∈ scope.names := by
    rcases cloFrom_mem (PySem.mem_of_lookup hc) with hm | ⟨h1, _⟩
    · cases hm
    · exact h1
  have hk := L.free _ hm rfl
  obtain ⟨m, _, hl⟩ := I.loc
  obtain ⟨u, r, q⟩ := hl i y v hi hv (hk.elim (fun z => .inr (.inl z)) fun z => .inr (.inr z))
  rcases q with ⟨z, _⟩ | ⟨_, c2, hc2, cell⟩
  · have z : X.env.scope.names.lookup y = some .local := z
    rcases hk with k | k <;> rw [show X.env.scope.names.lookup y = _ from k] at z <;> cases z
  · refine ⟨c, u, hc, r, ?_⟩
    have hc' : (y, c) ∈ cloFrom X.env.cells scope.names [] := PySem.mem_of_lookup hc
    rcases cloFrom_mem hc' with hm | ⟨_, e⟩
    · cases hm
    · rw [e, hc2]
      exact cell
/-- the key's reckoning: k, for the item v, wherever the heap has grown -/
def KeyRun (X : Cx) (σ : L2.St) (body : Expr) (scope : Scope) (x : Str) (s : Shared) (H : Hp) (v : Value) (k : PyData) : Prop :=
  ∀ (A : Around) (qual : Str) (f c' D : Addr) (cl : List (Str × Addr)) (g : Heap) (tk : Nat), X.A.units ≤ A.units → (∀ b o, s.heap.get? b = some o → g.get? b = some o) → CapAt X σ g cl → (∀ y, scope.names.lookup y = some .free → ∃ c, cl.lookup y = some c) →
    g.Ns D (fun y => [(x, v)].reverse.lookup y) → wpAny (model X.prog X.w) A (eval body (PySem.W.envX qual scope D f (.ref c') cl)) (PySem.W.KeyPure k { s with heap := g, toks := tk }) (fun _ _ => False) { s with heap := g, toks := tk }
/-- the reading -/
def tSortL {β : Type} (X : Cx) (T : List (Addr × Str)) (body : Expr) (scope : Scope) (x : Str) (ta : TE) : TE := fun σ H Q => ta σ H fun u H1 => Tabs T H1 ∧ ∃ (l : Addr) (bs : List β) (vf : β → V) (kf : β → PyData), u = .ref l ∧ SqL X.K H1 l (bs.map vf) ∧
  (∀ b ∈ bs, ∀ d ∈ bs, PySem.W.alike (kf b) (kf d) = true) ∧ PySem.W.Sortable (bs.map kf) ∧ (∀ b ∈ bs, (kf b).depth ≤ 60) ∧
  (∀ (pins : List (Addr × Obj)) (s : Shared) (H2 : Hp) (b : β) (v : Value), Inv X pins σ H2 s → ExtN H1 H2 → b ∈ bs → RelV (vf b) v → KeyRun X σ body scope x s H2 v (kf b)) ∧
  ∀ (D : Addr) (H2 : Hp), ExtN H1 H2 → (∀ o, H1 D = some o → ∃ ps, o = .tbl ps) → Tabs T H2 → H2 D = some (.lst ((bs.mergeSort (PySem.W.dataLe false kf)).map vf)) → Q (.ref D) H2
theorem each_of_vals {β : Type} {vf : β → V} : ∀ {bs : List β} {us : List Value}, Vals (bs.map vf) us → PySem.W.EachIs (fun v b => RelV (vf b) v) us bs
  | [], _, .nil => .nil
  | b :: bs, _, .cons r t => .cons r (each_of_vals t)
theorem vals_of_each {β : Type} {vf : β → V} : ∀ {bs : List β} {us : List Value}, PySem.W.EachIs (fun v b => RelV (vf b) v) us bs → Vals (bs.map vf) us
  | [], _, .nil => .nil
  | b :: bs, _, .cons r t => .cons r (vals_of_each t)
section
variable {X : Cx}
theorem pe_sortL {β : Type} {T : List (Addr × Str)} {c P : Addr} {a : Expr} {ta : TE} {params : Arguments} {body : Expr} {scope : Scope} {x : Str} {k : Nat} {lpos kpos p1 pos : Pos} (hr : Room k X.A) (TB : TabB X.base X.mg c P) (hcode : X.env.code = .ref c)
    (hmT : (P, X.env.qual ++ "<lambda>") ∈ T) (hu : ∀ p ∈ T, p.1 = P → p.2 = X.env.qual ++ "<lambda>") (L : Lam1 X.env.scope scope x) (hdef : defaultsOf params X.env = ([], []))
    (hbind : ∀ (q : Str) (cl : List (Str × Addr)) (pm cv ctv v : Value), bindArgs (PySem.W.kla_fn "<lambda>" q params body scope cl pm cv ctv) ⟨[v], []⟩ = pure [(x, v)])
    (hg : Gl X "sorted") (hm : X.mg "sorted" = none) (ha : PE X a ta)
    (he : backTo pos (starEach [a] X.env) = (false, eval a X.env) :: backTo pos (starEach [] X.env) := by rfl) (hpl : (backTo pos (starEach [a] X.env)).any (·.1) = false := by rfl) :
    PE X (.Call (.Name "sorted" p1) [a] [⟨some "key", .Lambda params body scope lpos, kpos⟩] pos) (tSortL (β := β) X T body scope x ta) := by
  refine ⟨fun pins s σ H Q I h => ?_⟩
  refine wpAny_Call_Name_kw (ld_blt I hg hm (show bootBuiltins "sorted" = some (.builtin "sorted") by decide +kernel) ?_ (by decide) (by decide))
  refine PyProof.Rows.callWith_kw ?_ he hpl (by rfl) (by rfl)
  rw [he]
  refine Calls.spliced_cons (thn (ha.run pins s σ H _ I h) fun u s1 ⟨v0, H1, I1, r1, hT, l, bs, vf, kf, e0, hS, al, so, dp, kr, q⟩ => Calls.spliced_nil ?_)
  subst e0
  obtain rfl : u = Value.ref l := r1
  show wpAny _ _ (evalAll ((do let v ← eval (.Lambda params body scope lpos) X.env; standAt pos; pure v) :: [])) _ _ s1
  refine wpAny_evalAll_cons (wpAny_bind (lam_make2 I1 TB hcode hmT hu hT hdef (L.has I1.ok) fun f c' pm ctv H2 s2 I2 eN T2 hf hfn hfr hco => wpAny_bind (wpAny_standAt (wpAny_pure (wpAny_evalAll_nil ?_)))))
  show wpAny _ _ (call (.builtin "sorted") [.ref l] [(Str.ofString "key", .ref f)]) _ _ s2
  have hS2 : SqL X.K H2 l (bs.map vf) := by
    rcases hS with hS | hS
    · rcases hS with hS | ⟨o, hS⟩
      · exact .inl (.inl (eN _ _ hS fun ps z => by cases z))
      · exact .inl (.inr ⟨o, eN _ _ hS fun ps z => by cases z⟩)
    · exact .inr hS
  obtain ⟨its, rv, hl, hz⟩ := I2.list hS2
  rw [List.length_map] at hz
  have hcr := (show ∃ (oc : Obj) (vs : Array Value) (t : Tok), s2.heap.get? c' = some oc ∧ oc.data = .fields vs ∧ vs[1]? = some (.str (X.env.qual ++ "<lambda>") t) from (I2.hok c' _ hco).1)
  have ea := each_of_vals rv
  refine PySem.W.sorted_key_data (b := false) (bs := bs) (R := fun v b => RelV (vf b) v) kf hl.isList ea ?_ so hz (fun b hb => ?_) (PyProof.Rows.ksk_s1 _ _) (fun _ => PyProof.Rows.ksk_l1 _ _) (fun _ => PyProof.Rows.ksk_t1 _ _)
    (fun v b rb hb g tk up => ?_) fun out cc g tk up hD hD2 hlen eo => ?_
  · intro d hd e he
    obtain ⟨b, hb, rfl⟩ := List.mem_map.mp hd
    obtain ⟨b2, hb2, rfl⟩ := List.mem_map.mp he
    exact al b hb b2 hb2
  · have z1 := hr.units
    have z2 := dp b hb
    omega
  · have I3 : Inv X pins σ H2 { s2 with heap := g, toks := tk } := I2.kept up
    obtain ⟨oc, vs, t, h1, h2, h3⟩ := hcr
    refine lam_call L (by show X.A.depth < _; exact hr.depth) (up _ _ hf) ⟨c', oc, vs, t, rfl, up _ _ h1, h2, h3⟩ I3.nolimit (hbind _ _ _ _ _ _) fun D g2 tk2 up2 hns => ?_
    refine kr pins _ H2 b v I3 eN hb rb _ _ _ _ _ _ g2 tk2 (by show X.A.units ≤ X.A.units + 1 + 1 + 3; omega) up2 ?_ (fun y hy => ?_) hns
    · intro i y w hi hw hc
      obtain ⟨c0, u0, a1, a2, o, a3, a4⟩ := capAt_of I3 L i y w hi hw hc
      exact ⟨c0, u0, a1, a2, o, up2 _ _ a3, a4⟩
    · exact mem_lookup (cloFrom_has (cells := X.env.cells) (acc := []) (PySem.mem_of_lookup hy))
  · have hlen2 : ((bs.mergeSort (PySem.W.dataLe false kf)).map vf).length ≤ sizeLine := by
      rw [List.length_map, List.length_mergeSort]
      exact hz
    have hnew : H2 (s2.heap.objs.size + 1) = none := I2.hok.fresh (Nat.le_succ _)
    have vo := vals_of_each eo
    refine ⟨.ref (s2.heap.objs.size + 1), upd H2 (s2.heap.objs.size + 1) (.lst ((bs.mergeSort (PySem.W.dataLe false kf)).map vf)), I2.laid (t' := tk) up (Nat.le_succ _) ⟨hlen2, out, cc, vo, hD2⟩, rfl, ?_⟩
    refine q _ _ (fun b o e n => ?_) (fun o e1 => ?_) (T2.ext fun b o e => ?_) upd_same
    · rw [upd_ne (ne_of_none (eN _ _ e n) hnew)]
      exact eN _ _ e n
    · cases o with
      | tbl ps => exact ⟨ps, rfl⟩
      | _ =>
        rw [eN _ _ e1 (fun ps z => by cases z)] at hnew
        cases hnew
    · rw [upd_ne (ne_of_none e hnew)]
      exact e
end
end SL
set_option Elab.async false
set_option linter.all false
set_option maxRecDepth 100000
set_option maxHeartbeats 4000000
namespace SL
open PySem PySem.Spec PyProof.Rows L2 CM LamX
/-! ### tables stay -/
theorem Tabs.kp {T : List (Addr × Str)} {a : Addr} {xs : List V} {H H' : Hp} (t : Tabs T H) (ha : H a = some (.lst xs)) (k : Kp a H H') : Tabs T H' := fun p hp => by
  obtain ⟨ps, h1, h2, h3⟩ := t p hp
  have ne : ∀ {b : Addr} {o : HO}, H b = some o → (∀ ys, o ≠ .lst ys) → b ≠ a := fun {b o} e n z => by
    rw [z, ha] at e
    exact n xs (Option.some.inj e).symm
  refine ⟨ps, k _ _ (ne h1 fun ys z => by cases z) h1, h2, fun pos cv hc => ?_⟩
  obtain ⟨c, e1, e2⟩ := h3 pos cv hc
  exact ⟨c, e1, k _ _ (ne e2 fun ys z => by unfold CodeO at z; cases z) e2⟩
theorem Tabs.same {T : List (Addr × Str)} {H H' : Hp} (t : Tabs T H) (s : Same H H') : Tabs T H' := t.ext s
/-- all but the thing at a and the tables stays -/
def KpN (a : Addr) (H H' : Hp) : Prop := ∀ b o, b ≠ a → (∀ ps, o ≠ .tbl ps) → H b = some o → H' b = some o
theorem KpN.of {a : Addr} {H H' : Hp} (k : Kp a H H') : KpN a H H' := fun b o n _ e => k b o n e
theorem KpN.ext {a : Addr} {H H' : Hp} (k : ExtN H H') : KpN a H H' := fun b o _ n e => k b o e n
theorem KpN.trans {a : Addr} {H H1 H2 : Hp} (x : KpN a H H1) (y : KpN a H1 H2) : KpN a H H2 := fun b o n m e => y b o n m (x b o n m e)
theorem ExtN.of_same {H H' : Hp} (s : Same H H') : ExtN H H' := fun b o e _ => s b o e
theorem ExtN.seqL {K : PySem.W.Frag} {H H' : Hp} {a : Addr} {xs : List V} (e : ExtN H H') (h : SqL K H a xs) : SqL K H' a xs := by
  rcases h with (h | ⟨o, h⟩) | h
  · exact .inl (.inl (e _ _ h fun ps z => by cases z))
  · exact .inl (.inr ⟨o, e _ _ h fun ps z => by cases z⟩)
  · exact .inr h
theorem one_tab {P P' : Addr} {q q' : Str} (e : q = q') : ∀ p ∈ [(P', q)], p.1 = P → p.2 = q' := fun p hp _ => by rw [List.mem_singleton.mp hp]; exact e
/-! ### the key (m[x], x) -/
/-- a leaf as data -/
inductive LeafD : V → PyData → Prop where
  | int (i : Int) : LeafD (.int i) (.int i)
  | str (z : Str) : LeafD (.str z) (.str z)
theorem LeafD.reads {w : V} {d : PyData} {u : Value} {h : Heap} (l : LeafD w d) (r : RelV w u) : Reads h u d [] := by
  cases l with
  | int i =>
    obtain ⟨t, rfl⟩ := r
    exact .int i t
  | str z =>
    obtain ⟨t, rfl⟩ := r
    exact .str z t
theorem ns_one {x : Str} {v : Value} : [(x, v)].reverse.lookup x = some v := by simp [List.lookup]
theorem kr_pair {X : Cx} {pins : List (Addr × Obj)} {σ : L2.St} {H : Hp} {s : Shared} {scope : Scope} {m x : Str} {i b : Nat} {l : Addr} {items : List V} {w : V} {d : PyData} {v : Value} {ctx : Nat} {p1 p2 p3 p4 p5 : Pos} (I : Inv X pins σ H s)
    (kind : scope.kind = .function) (hm : scope.names.lookup m = some .free) (hx : scope.names.lookup x = some .local) (hN : X.N[i]? = some m) (hs : σ[i]? = some (some (.ref l))) (hl : SqL X.K H l items) (hb : items[b]? = some w) (ld : LeafD w d) (rv : RelV (.int (b : Int)) v)
    (dm : (m == ("__debug__" : Str)) = false := by decide) (dx : (x == ("__debug__" : Str)) = false := by decide) (cm : (m == ("__classdict__" : Str)) = false := by decide) :
    KeyRun X σ (.Tuple [.Subscript (.Name m p1) (.Name x p2) p3, .Name x p4] ctx p5) scope x s H v (.tuple [d, .int (b : Int)]) := by
  intro A qual f c' D cl g tk hu up cap has hns
  obtain ⟨its, rvs, pl, hz⟩ := I.list hl
  obtain ⟨c0, u0, hc0, r0, cell⟩ := cap i m (.ref l) hN hs (has m hm)
  cases (show u0 = Value.ref l from r0)
  obtain ⟨t, rfl⟩ := rv
  obtain ⟨w', ew, rw'⟩ := rvs.get hb
  have hlen := (List.getElem?_eq_some_iff.mp hb).1
  have hl63 := line63
  refine wpAny_Tuple_spliced ?_
  show wpAny _ _ (spliced ((false, eval (.Subscript (.Name m p1) (.Name x p2) p3) (PySem.W.envX qual scope D f (.ref c') cl)) :: (false, eval (.Name x p4) (PySem.W.envX qual scope D f (.ref c') cl)) :: [])) _ _ _
  refine Calls.spliced_cons (Subscript_ (wpAny_Name (wpAny_loadName_free kind hm hc0 cell ?_ cm) dm))
  refine wpAny_Name (wpAny_loadName_local kind hx hns ns_one ?_) dx
  have pl2 : g.IsList l its.toArray := by
    obtain ⟨o, h1, h2, n, h3⟩ := pl.isList
    exact ⟨o, up _ _ h1, h2, n, h3⟩
  refine item_listR (x := w') pl2 (by omega) (by omega) (by rw [Int.toNat_natCast]; simpa using ew) ?_ (by rfl)
  refine Calls.spliced_cons (wpAny_Name (wpAny_loadName_local kind hx hns ns_one (Calls.spliced_nil ⟨by show 2 ≤ sizeLine; decide, ?_⟩)) dx)
  refine ⟨_, _, rfl, fun b o e => Heap.get?_push_of_some _ e, ?_⟩
  exact Reads.tuple (as := [] ++ ([] ++ [])) (Heap.get?_push_size _ rfl) rfl rfl (.cons (ld.reads rw') (.cons (.int _ t) .nil))
/-! ### {k: v for x in a list} -/
theorem dc_list {K : PySem.W.Frag} {a : Addr} {xs : List V} {g : TG} {tt : TT} {tk tv : TE} {vs : List Nat} {σ : L2.St} {H1 : Hp} {D : Addr} {Qd : Hp → Prop} (Pv : Nat → Hp → Prop) (h0 : Pv 0 (upd H1 D (.dK []))) (hl : ∀ i H, i ≤ xs.length → Pv i H → SqL K H a xs)
    (hs : ∀ i x H, xs[i]? = some x → Pv i H → g x (wipe σ vs) H fun σ2 H2 => wipe σ2 vs = wipe σ vs ∧ tt σ2 H2 fun b H3 =>
      if b = true then tk σ2 H3 fun y H4 => tv σ2 H4 fun z H5 => ∃ kvs k, y = kV k ∧ H5 D = some (.dK kvs) ∧ kvs.length < sizeLine ∧ Pv (i + 1) (upd H5 D (.dK (putK kvs k z))) else Pv (i + 1) H3) (hd : ∀ H, Pv xs.length H → Qd H) :
    ∃ W : Nat → Nat → Hp → Prop, (∃ m, W 0 m (upd H1 D (.dK []))) ∧ ∀ i m H, W i m H →
      ((Itl K a).stop i H ∧ Qd H) ∨ ((Itl K a).go i H ∧ ∃ Nx : Hp → Prop, (∀ H', Nx H' → ∃ m', m' < m ∧ W (i + 1) m' H') ∧ ∀ x H', (Itl K a).yld i H x H' → g x (wipe σ vs) H' fun σ2 H2 => wipe σ2 vs = wipe σ vs ∧ tt σ2 H2 fun b H3 =>
        if b = true then tk σ2 H3 fun y H4 => tv σ2 H4 fun z H5 => ∃ kvs k, y = kV k ∧ H5 D = some (.dK kvs) ∧ kvs.length < sizeLine ∧ Nx (upd H5 D (.dK (putK kvs k z))) else Nx H3) := by
  refine ⟨fun i m H => m + i = xs.length ∧ Pv i H, ⟨xs.length, rfl, h0⟩, fun i m H ⟨e, p⟩ => ?_⟩
  have q := hl i H (by omega) p
  cases m with
  | zero =>
    have e : i = xs.length := by omega
    subst e
    exact .inl ⟨⟨xs, q, Nat.le_refl _⟩, hd H p⟩
  | succ m =>
    have hlt : i < xs.length := by omega
    refine .inr ⟨⟨xs, xs[i], q, List.getElem?_eq_getElem hlt⟩, Pv (i + 1), fun H' p' => ⟨m, Nat.lt_succ_self m, by omega, p'⟩, fun x H' y => ?_⟩
    obtain ⟨rfl, y⟩ := y
    exact hs i x _ (y xs q) p
/-! ### the first half of a sorted row -/
theorem count_take {α : Type} [BEq α] {lt : α → α → Bool} (irr : ∀ a, lt a a = false) (asy : ∀ a b, lt a b = true → lt b a = false) : ∀ {xs : List α} {h : Nat} {x : α}, xs.Pairwise (fun a b => lt a b = true) → x ∈ xs → (x ∈ xs.take h ↔ (xs.filter fun y => lt y x).length < h)
  | [], _, _, _, hx => by cases hx
  | a :: as, 0, x, _, _ => by
    simp
  | a :: as, h + 1, x, hp, hx => by
    obtain ⟨h1, h2⟩ := List.pairwise_cons.mp hp
    rw [List.take_succ_cons, List.mem_cons, List.filter_cons]
    by_cases e : x = a
    · subst e
      have f : as.filter (fun y => lt y x) = [] := by
        rw [List.filter_eq_nil_iff]
        intro y hy z
        rw [asy _ _ (h1 y hy)] at z
        cases z
      rw [irr, f]
      simp
    · have hx2 : x ∈ as := (List.mem_cons.mp hx).resolve_left e
      have ih := count_take (h := h) irr asy h2 hx2
      rw [h1 x hx2]
      simp only [e, false_or, if_true, List.length_cons]
      rw [ih]
      omega
/-- the numbers below n that a strict order puts ahead of i -/
def aheadN (lt : Nat → Nat → Bool) (n i : Nat) : Nat := ((List.range n).filter fun k => lt k i).length
theorem in_half {lt : Nat → Nat → Bool} (irr : ∀ a, lt a a = false) (tr : ∀ a b c, lt a b = true → lt b c = true → lt a c = true) (tot : ∀ a b, a ≠ b → lt a b = true ∨ lt b a = true) {le : Nat → Nat → Bool} (hle : ∀ a b, le a b = !lt b a) {n h i : Nat} (hi : i < n) :
    i ∈ ((List.range n).mergeSort le).take h ↔ aheadN lt n i < h := by
  have asy : ∀ a b, lt a b = true → lt b a = false := fun a b e => by
    cases q : lt b a with
    | false => rfl
    | true =>
      have z := tr a b a e q
      rw [irr] at z
      cases z
  have perm := List.mergeSort_perm (List.range n) le
  have nd : ((List.range n).mergeSort le).Nodup := perm.nodup_iff.mpr List.nodup_range
  have pw := List.pairwise_mergeSort (le := le) (fun a b c h1 h2 => by
    rw [hle] at h1 h2 ⊢
    simp only [Bool.not_eq_true'] at h1 h2 ⊢
    cases q : lt c a with
    | false => rfl
    | true =>
      by_cases e1 : a = b
      · subst e1
        rw [q] at h2
        cases h2
      · rcases tot a b e1 with z | z
        · rw [tr c a b q z] at h2
          cases h2
        · rw [h1] at z
          cases z) (fun a b => by
    rw [hle, hle]
    cases q : lt b a with
    | false => rfl
    | true => rw [asy _ _ q]; rfl) (List.range n)
  have ps : ((List.range n).mergeSort le).Pairwise (fun a b => lt a b = true) := by
    have both := pw.and nd
    refine both.imp fun {a b} ⟨h1, h2⟩ => ?_
    rw [hle] at h1
    simp only [Bool.not_eq_true'] at h1
    rcases tot a b h2 with z | z
    · exact z
    · rw [h1] at z
      cases z
  have hm : i ∈ (List.range n).mergeSort le := perm.mem_iff.mpr (List.mem_range.mpr hi)
  rw [count_take irr asy ps hm]
  unfold aheadN
  rw [(perm.filter _).length_eq]
/-! ### max of three -/
theorem call_max3 {X : Cx} (hc : X.calm = true) : CallR X (.builtin "max") (fun xs H Q => ∃ i j k, xs = [.int i, .int j, .int k] ∧ Q (.int (max (max i j) k)) H) := by
  intro pins s σ H xs us Q I r h
  obtain ⟨i, j, k, rfl, q⟩ := h
  obtain ⟨u, us2, rfl, r2⟩ : ∃ u us2, us = u :: us2 ∧ Vals [.int j, .int k] us2 ∧ RelV (.int i) u := by
    cases r with
    | cons a b => exact ⟨_, _, rfl, b, a⟩
  obtain ⟨v, w, rfl, ⟨t2, rfl⟩, ⟨t3, rfl⟩⟩ := vals2 r2.1
  obtain ⟨t1, rfl⟩ := r2.2
  refine max_three_ints (I.ok.hd hc) fun h' tk kp => ⟨_, H, I.kept kp, ?_, q⟩
  by_cases h1 : j > i <;> by_cases h2 : k > j <;> by_cases h3 : k > i <;> simp only [h1, h2, h3, if_true, if_false]
  all_goals first
    | (rw [show max (max i j) k = k by omega]; exact ⟨_, rfl⟩)
    | (rw [show max (max i j) k = j by omega]; exact ⟨_, rfl⟩)
    | (rw [show max (max i j) k = i by omega]; exact ⟨_, rfl⟩)
/-! ### marks that are ints, in their order -/
def ltI (ns : List Int) (a b : Nat) : Bool := decide (ns.getD a 0 < ns.getD b 0 ∨ (ns.getD a 0 = ns.getD b 0 ∧ a < b))
theorem ltI_irr (ns : List Int) (a : Nat) : ltI ns a a = false := decide_eq_false (by omega)
theorem ltI_tr (ns : List Int) (a b c : Nat) (h1 : ltI ns a b = true) (h2 : ltI ns b c = true) : ltI ns a c = true := by
  have h1 := of_decide_eq_true h1
  have h2 := of_decide_eq_true h2
  exact decide_eq_true (by omega)
theorem ltI_tot (ns : List Int) (a b : Nat) (h : a ≠ b) : ltI ns a b = true ∨ ltI ns b a = true := by
  by_cases q : ns.getD a 0 < ns.getD b 0 ∨ (ns.getD a 0 = ns.getD b 0 ∧ a < b)
  · exact .inl (decide_eq_true q)
  · exact .inr (decide_eq_true (by omega))
def keyI (ns : List Int) (b : Nat) : PyData := .tuple [.int (ns.getD b 0), .int (b : Int)]
theorem leI (ns : List Int) : PySem.W.dataLe false (keyI ns) = fun a b => !ltI ns b a := by
  have z := PySem.W.dataLe_ii (β := Nat) (fun b => ns.getD b 0) (fun b => (b : Int))
  have z2 : PySem.W.dataLe false (keyI ns) = fun p q => decide (ns.getD p 0 < ns.getD q 0 ∨ (ns.getD p 0 = ns.getD q 0 ∧ (p : Int) ≤ (q : Int))) := z
  rw [z2]
  funext p q
  unfold ltI
  by_cases h : ns.getD q 0 < ns.getD p 0 ∨ (ns.getD q 0 = ns.getD p 0 ∧ q < p)
  · rw [decide_eq_true h, decide_eq_false (by omega)]
    rfl
  · rw [decide_eq_false h, decide_eq_true (by omega)]
    rfl
/-- what halves_by tells of marks in a strict order -/
def halvesL (lt : Nat → Nat → Bool) (n : Nat) : List V := (List.range n).map fun i => V.int (if aheadN lt n i < n / 2 then 0 else 1)
theorem cut_half {ord : List Nat} {ms : List V} {n : Nat} (lo : ord.length = n) (lm : ms.length = n) : cutV (ord.map fun b : Nat => V.int (b : Int)) none (some ((ms.length : Int) / 2)) = (ord.take (n / 2)).map fun b : Nat => V.int (b : Int) := by
  have l1 : (ord.map fun b : Nat => V.int (b : Int)).length = n := by rw [List.length_map, lo]
  have e : HT.sIx n n (some ((n : Int) / 2)) = n / 2 := by
    rw [show (n : Int) / 2 = ((n / 2 : Nat) : Int) by omega, HT.sIx_nat]
    omega
  have e0 : HT.sIx n 0 none = 0 := rfl
  unfold cutV
  rw [lm, l1, e, e0, List.drop_zero, Nat.sub_zero, List.map_take]
theorem halvesL_at {lt : Nat → Nat → Bool} {n j : Nat} (h : j < n) : (halvesL lt n)[j]? = some (V.int (if aheadN lt n j < n / 2 then 0 else 1)) := by
  unfold halvesL
  rw [List.getElem?_map, List.getElem?_range h]
  rfl
end SL
set_option Elab.async false
set_option linter.all false
set_option maxRecDepth 100000
set_option maxHeartbeats 4000000
namespace WD
open PySem PySem.Spec PyProof.Rows L2 CM LamX
/-! ### texts as lists of signs -/
abbrev cs (z : Str) : List Nat := z.cps.toList
theorem len_cs (z : Str) : z.length = (cs z).length := (Array.length_toList).symm
theorem str_ext {a b : Str} (h : cs a = cs b) : a = b := by
  cases a with
  | mk x => cases b with
    | mk y => exact congrArg Str.mk (Array.toList_inj.mp h)
theorem cs_mk (l : List Nat) : cs ⟨l.toArray⟩ = l := rfl
theorem cs_one (c : Nat) : cs ⟨#[c]⟩ = [c] := rfl
theorem cs_add (a b : Str) : cs (a ++ b) = cs a ++ cs b := by
  show (a.cps ++ b.cps).toList = _
  rw [Array.toList_append]
/-- how many signs two rows share at their beginning -/
def cpl : List Nat → List Nat → Nat
  | a :: as, b :: bs => if a = b then cpl as bs + 1 else 0
  | _, _ => 0
theorem cpl_of : ∀ {a b : List Nat} {k : Nat}, k ≤ a.length → k ≤ b.length → a.take k = b.take k → (∀ x y, a[k]? = some x → b[k]? = some y → x ≠ y) → cpl a b = k
  | [], b, k, h1, _, _, _ => by
    have : k = 0 := by simpa using h1
    subst this
    cases b <;> rfl
  | a :: as, [], k, _, h2, _, _ => by
    have : k = 0 := by simpa using h2
    subst this
    rfl
  | a :: as, b :: bs, 0, _, _, _, hd => by
    show (if a = b then cpl as bs + 1 else 0) = 0
    rw [if_neg (hd a b rfl rfl)]
  | a :: as, b :: bs, k + 1, h1, h2, ht, hd => by
    rw [List.take_succ_cons, List.take_succ_cons] at ht
    have e1 := (List.cons.inj ht).1
    have e2 := (List.cons.inj ht).2
    show (if a = b then cpl as bs + 1 else 0) = k + 1
    rw [if_pos e1, cpl_of (by simpa using h1) (by simpa using h2) e2 (fun x y hx hy => hd x y (by simpa using hx) (by simpa using hy))]
/-- the longest text with which both begin -/
def com (a b : Str) : Str := ⟨((cs a).take (cpl (cs a) (cs b))).toArray⟩
theorem com_of {a b : Str} {k : Nat} (h1 : k ≤ (cs a).length) (h2 : k ≤ (cs b).length) (ht : (cs a).take k = (cs b).take k) (hd : ∀ x y, (cs a)[k]? = some x → (cs b)[k]? = some y → x ≠ y) {z : Str} (hz : cs z = (cs a).take k) : z = com a b := by
  refine str_ext ?_
  show cs z = (cs a).take (cpl (cs a) (cs b))
  rw [hz, cpl_of h1 h2 ht hd]
/-- b at the beginning of a -/
def isPre (b a : Str) : Bool := decide ((cs a).take (cs b).length = cs b)
theorem starts (a b : Str) : Txt.startswith a b = isPre b a := by
  unfold Txt.startswith isPre
  have e : (Builtin.Str.subAt a b 0) = decide ((cs a).take (cs b).length = cs b) := by
    unfold Builtin.Str.subAt
    rw [Nat.zero_add, len_cs b]
    have e1 : (a.cps.extract 0 (cs b).length).toList = (cs a).take (cs b).length := by simp
    by_cases h : (cs a).take (cs b).length = cs b
    · have e2 : a.cps.extract 0 (cs b).length = b.cps := Array.toList_inj.mp (e1.trans h)
      rw [e2, decide_eq_true h]
      simp
    · rw [decide_eq_false h]
      refine beq_eq_false_iff_ne.mpr fun e2 => h ?_
      rw [← e1, e2]
  rw [e, Nat.zero_add]
  by_cases h : (cs a).take (cs b).length = cs b
  · have l := congrArg List.length h
    rw [List.length_take] at l
    rw [decide_eq_true h, len_cs a, len_cs b, decide_eq_true (by omega)]
    rfl
  · rw [decide_eq_false h, Bool.and_false]
theorem isPre_long {a b : Str} (h : (cs a).length < (cs b).length) : isPre b a = false := by
  refine decide_eq_false fun e => ?_
  have l := congrArg List.length e
  rw [List.length_take] at l
  omega
/-- the places below j at which the two differ -/
def diffs (a b : List Nat) (j : Nat) : List Nat := (List.range j).filter fun k => !decide (a.getD k 0 = b.getD k 0)
theorem diffs_succ (a b : List Nat) (j : Nat) : diffs a b (j + 1) = if (!decide (a.getD j 0 = b.getD j 0)) = true then diffs a b j ++ [j] else diffs a b j := by
  unfold diffs
  rw [List.range_succ, List.filter_append]
  by_cases h : (!decide (a.getD j 0 = b.getD j 0)) = true
  · rw [if_pos h, List.filter_cons_of_pos (p := fun k => !decide (a.getD k 0 = b.getD k 0)) h]
    rfl
  · rw [if_neg h, List.filter_cons_of_neg (p := fun k => !decide (a.getD k 0 = b.getD k 0)) h]
    exact List.append_nil _
theorem diffs_nil {a b : List Nat} : ∀ {j : Nat}, j ≤ a.length → j ≤ b.length → ((diffs a b j).isEmpty = true ↔ a.take j = b.take j)
  | 0, _, _ => by simp [diffs]
  | j + 1, h1, h2 => by
    have ih := diffs_nil (a := a) (b := b) (j := j) (by omega) (by omega)
    unfold diffs at ih ⊢
    rw [List.range_succ, List.filter_append, List.take_add_one, List.take_add_one, List.getElem?_eq_getElem (show j < a.length by omega), List.getElem?_eq_getElem (show j < b.length by omega)]
    have g1 : a.getD j 0 = a[j] := by rw [List.getD_eq_getElem?_getD, List.getElem?_eq_getElem (show j < a.length by omega)]; rfl
    have g2 : b.getD j 0 = b[j] := by rw [List.getD_eq_getElem?_getD, List.getElem?_eq_getElem (show j < b.length by omega)]; rfl
    by_cases e : a[j] = b[j]
    · have f : [j].filter (fun k => !decide (a.getD k 0 = b.getD k 0)) = [] := by
        rw [List.filter_cons_of_neg (by rw [g1, g2, e]; simp)]
        rfl
      rw [f, List.append_nil, ih, e]
      exact ⟨fun z => by rw [z], fun z => (List.append_inj' z rfl).1⟩
    · have f : [j].filter (fun k => !decide (a.getD k 0 = b.getD k 0)) = [j] := by
        rw [List.filter_cons_of_pos (by rw [g1, g2]; simp [e])]
        rfl
      rw [f]
      constructor
      · intro z
        simp at z
      · intro z
        have l : (a.take j).length = (b.take j).length := by rw [List.length_take, List.length_take]; omega
        have z2 := (List.append_inj z l).2
        exact absurd (by simpa using z2) e
theorem diffs_pre {a b : Str} (h : (cs b).length ≤ (cs a).length) : (diffs (cs a) (cs b) (cs b).length).isEmpty = isPre b a := by
  have z := diffs_nil (a := cs a) (b := cs b) h (Nat.le_refl _)
  rw [List.take_length] at z
  unfold isPre
  cases e : (diffs (cs a) (cs b) (cs b).length).isEmpty with
  | true => rw [decide_eq_true (z.mp e)]
  | false => rw [decide_eq_false fun q => by rw [z.mpr q] at e; cases e]
/-! ### marks that are texts, in their order -/
def ltS (zs : List Str) (a b : Nat) : Bool := decide (cs (zs.getD a Str.empty) < cs (zs.getD b Str.empty) ∨ (cs (zs.getD a Str.empty) = cs (zs.getD b Str.empty) ∧ a < b))
theorem ltS_irr (zs : List Str) (a : Nat) : ltS zs a a = false := decide_eq_false fun h => by
  rcases h with h | ⟨_, h⟩
  · exact absurd h (List.lt_irrefl _)
  · omega
theorem ltS_tr (zs : List Str) (a b c : Nat) (h1 : ltS zs a b = true) (h2 : ltS zs b c = true) : ltS zs a c = true := by
  have h1 := of_decide_eq_true h1
  have h2 := of_decide_eq_true h2
  refine decide_eq_true ?_
  rcases h1 with h1 | ⟨h1, l1⟩
  · rcases h2 with h2 | ⟨h2, l2⟩
    · exact .inl (List.lt_trans h1 h2)
    · exact .inl (by rw [← h2]; exact h1)
  · rcases h2 with h2 | ⟨h2, l2⟩
    · exact .inl (by rw [h1]; exact h2)
    · exact .inr ⟨h1.trans h2, by omega⟩
theorem ltS_tot (zs : List Str) (a b : Nat) (h : a ≠ b) : ltS zs a b = true ∨ ltS zs b a = true := by
  unfold ltS
  generalize cs (zs.getD a Str.empty) = x
  generalize cs (zs.getD b Str.empty) = y
  by_cases e : x = y
  · by_cases l : a < b
    · exact .inl (decide_eq_true (.inr ⟨e, l⟩))
    · exact .inr (decide_eq_true (.inr ⟨e.symm, by omega⟩))
  · by_cases l : x < y
    · exact .inl (decide_eq_true (.inl l))
    · exact .inr (decide_eq_true (.inl (by
        have l2 : y ≤ x := List.not_lt.mp l
        rcases List.le_iff_lt_or_eq.mp l2 with z | z
        · exact z
        · exact absurd z.symm e)))
def keyS (zs : List Str) (b : Nat) : PyData := .tuple [.str (zs.getD b Str.empty), .int (b : Int)]
theorem dataLt_si (x : Str) (i : Int) (y : Str) (j : Int) : PySem.W.dataLt (.tuple [.str x, .int i]) (.tuple [.str y, .int j]) = decide (cs x < cs y ∨ (cs x = cs y ∧ i < j)) := by
  rw [PySem.W.dataLt_pair (by simp [PySem.W.alike]) (by simp [PySem.W.alike]), PySem.W.dataLt_int, PySem.W.dataLt_str]
  by_cases e : x = y
  · subst e
    have n : ¬ cs x < cs x := List.lt_irrefl _
    rw [if_pos (show PyData.eqv (.str x) (.str x) = true by simp [PyData.eqv])]
    by_cases e2 : i = j
    · rw [if_pos (show PyData.eqv (.int i) (.int j) = true by simp [PyData.eqv, e2])]
      exact (decide_eq_false fun h => h.elim n fun z => by omega).symm
    · rw [if_neg (show ¬ PyData.eqv (.int i) (.int j) = true by simp [PyData.eqv, e2])]
      exact decide_eq_decide.mpr ⟨fun h => .inr ⟨rfl, h⟩, fun h => h.elim (fun z => absurd z n) fun z => z.2⟩
  · have e3 : ¬ cs x = cs y := fun z => e (str_ext z)
    rw [if_neg (show ¬ PyData.eqv (.str x) (.str y) = true by simp [PyData.eqv, e])]
    exact decide_eq_decide.mpr ⟨.inl, fun h => h.elim id fun z => absurd z.1 e3⟩
theorem leS (zs : List Str) : PySem.W.dataLe false (keyS zs) = fun a b => !ltS zs b a := by
  rw [PySem.W.dataLe_eq]
  funext a b
  show (!PySem.W.dataLt (keyS zs b) (keyS zs a)) = _
  unfold keyS ltS
  rw [dataLt_si]
  refine congrArg (fun q : Bool => !q) (decide_eq_decide.mpr ⟨fun h => ?_, fun h => ?_⟩)
  · exact h.imp id fun z => ⟨z.1, by omega⟩
  · exact h.imp id fun z => ⟨z.1, by omega⟩
/-! ### (text, int) < (text, int) -/
def rLtSI (K : PySem.W.Frag) : R2 := fun x y H Q => ∃ (a b : Addr) (z w : Str) (i j : Int), x = .ref a ∧ y = .ref b ∧ SqT K H a [.str z, .int i] ∧ SqT K H b [.str w, .int j] ∧ Q (.bl (decide (cs z < cs w ∨ (cs z = cs w ∧ i < j)))) H
theorem op_ltSI {X : Cx} {K : PySem.W.Frag} (hu : X.A.units + 64 < cLine) (hK : X.K = K := by rfl) : OpR X (compareOp .Lt) (rLtSI K) := by
  subst hK
  intro pins s σ H x y v u Q I rx ry h
  obtain ⟨a, b, z, w, i, j, rfl, rfl, ha, hb, q⟩ := h
  cases rx
  cases ry
  obtain ⟨us, r1, p1, _⟩ := I.tuple ha
  obtain ⟨ws, r2, p2, _⟩ := I.tuple hb
  have rd : ∀ {c : Addr} {us : List Value} {z : Str} {i : Int}, Vals [V.str z, V.int i] us → IsTup s.heap c us.toArray → Reads s.heap (.ref c) (.tuple [.str z, .int i]) [] := fun {c us z i} r p => by
    obtain ⟨u1, u2, rfl, ⟨t1, rfl⟩, ⟨t2, rfl⟩⟩ := vals2 r
    obtain ⟨o, h1, h2, n, h3⟩ := p
    exact Reads.tuple (as := [] ++ ([] ++ [])) h1 h2 h3 (.cons (.str z t1) (.cons (.int i t2) .nil))
  have e := PySem.W.rcLt_alike (.tuple [.str z, .int i]) (.tuple [.str w, .int j]) X.A s (.ref a) (.ref b) [] [] (rd r1 p1) (rd r2 p2) (by simp [PySem.W.alike, PySem.W.alikeAll]) (fun z => by cases z) (by
    have : min (PyData.tuple [.str z, .int i]).depth (PyData.tuple [.str w, .int j]).depth ≤ 64 := Nat.le_trans (Nat.min_le_left _ _) (by show 1 ≤ 64; decide)
    omega)
  rw [dataLt_si] at e
  exact e X.prog X.w X.xe _ ⟨.bl _, H, I, rfl, q⟩
/-! ### a == [] of a list -/
def rEqNilL (K : PySem.W.Frag) : R2 := fun x y H Q => ∃ (a b : Addr) (xs : List V), x = .ref a ∧ y = .ref b ∧ SqL K H a xs ∧ SqL K H b [] ∧ Q (.bl xs.isEmpty) H
theorem op_eqNilL {X : Cx} {K : PySem.W.Frag} (hu : X.A.units + 64 < cLine) (hK : X.K = K := by rfl) : OpR X (compareOp .Eq) (rEqNilL K) := by
  subst hK
  intro pns s σ H x y v u Q I rx ry h
  obtain ⟨a, b, xs, rfl, rfl, ha, hb, q⟩ := h
  cases (show v = Value.ref a from rx)
  cases (show u = Value.ref b from ry)
  obtain ⟨us, r1, p1, _⟩ := I.list ha
  obtain ⟨ws, r2, p2, _⟩ := I.list hb
  cases r2
  cases r1 with
  | nil =>
    exact SeqAt.eq_listAt (e := fun _ => true) p1.isList p2.isList rfl (by omega) (fun j h1 h2 => absurd h2 (by simp)) ⟨.bl true, H, I, rfl, q⟩
  | cons a1 b1 => exact SeqAt.eq_list_lengthsAt p1.isList p2.isList (by simp) (by omega) ⟨.bl false, H, I, rfl, q⟩
end WD
set_option Elab.async false
set_option linter.all false
set_option maxRecDepth 100000
set_option maxHeartbeats 4000000
namespace GD
open PySem PySem.Spec PyProof.Rows L2 CM LamX
/-! ### promises of defs that are called where no repr runs -/
structure FnG (P : Program) (w : World) (K : PySem.W.Frag) (mg : Str → Option Value) (base : Heap) (CX : CXT) (k : Nat) (f : Addr) (fd : FuncData) (ps : List Str) (sp : Sp) : Prop where
  len : ∀ vs H Q E, sp vs H Q E → vs.length = ps.length
  run : ∀ (A : Around) (outer : List Env) (s : Shared) (H : Hp) (args : Args) (us : List Value) (vs : List V) (Q : VK) (E : XK), Room k A → A.guards = some [] → Env0 P w K mg base A outer s H →
    BindsTo s fd args (ps.zip us) → Vals vs us → sp vs H Q E → codeAny (model P w) A (.call (.ref f) args) (CR CX outer P w H s Q E) s
section
variable {P : Program} {w : World} {K : PySem.W.Frag} {mg : Str → Option Value} {base : Heap} {CX : CXT} {k j : Nat} {f : Addr} {fd : FuncData} {ps : List Str} {sp : Sp}
theorem FnG.of (F : FnOk P w K mg base CX k f fd ps sp) : FnG P w K mg base CX k f fd ps sp := ⟨F.len, fun A outer s H args us vs Q E hr _ => F.run A outer s H args us vs Q E hr⟩
theorem FnG.mono (F : FnG P w K mg base CX j f fd ps sp) (h : j ≤ k) : FnG P w K mg base CX k f fd ps sp := ⟨F.len, fun A outer s H args us vs Q E hr => F.run A outer s H args us vs Q E (hr.mono h)⟩
variable {x qual : Str} {params : Arguments} {body : List Stmt} {scope : Scope} {dvs : List V} {kws : List (Str × V)}
theorem okG {N : List Str} (F : FunD K x qual params body scope dvs kws f fd) (S : FnScope N ps scope) (len : ∀ vs H Q E, sp vs H Q E → vs.length = ps.length)
    (hbody : ∀ (cdv : Value) (A : Around) (outer : List Env) (s : Shared) (H : Hp) (vs : List V) (Q : VK) (E : XK), Room k (A.deeper (envOfC qual scope s.heap.objs.size f cdv)) → A.guards = some [] → sp vs H Q E →
      ∃ t, PSs (cxOf CX P w K mg base N qual scope f cdv A outer s H E) body t ∧ t { nx := fun _ H' => Q .non H', rt := Q } (start N vs) H) : FnG P w K mg base CX (k + 1) f fd ps sp := by
  obtain ⟨oc, od, dV, kV, doc, pm, an, cdv, ct, osl, hfd, lk, hcd, _, _⟩ := F.ex
  subst hfd
  refine ⟨len, fun A outer s0 H args us vs Q E room gd e0 bt rv asked => ?_⟩
  have old : ∀ b o, base.get? b = some o → s0.heap.get? b = some o := fun b o e => (e0.bs b o e).1
  refine codeAny_call_function room.depth (e0.mod.kin.keeps old _ _ lk) rfl S.co S.gen rfl (PySem.W.codeRec_of (e0.mod.kin.keeps old) hcd) (bt _ _ _ _ (wpAny_newFunctionEnv_cells S.kind (fun y hy => ?_) fun env he t x => ?_))
  · exact (S.par y.1 (List.of_mem_zip (show (y.1, y.2) ∈ ps.zip us from hy)).1).elim .inl fun q => .inr ⟨q, PySem.W.cellsFrom_some _ _ _ (.inl q)⟩
  · subst he
    obtain ⟨tt, ht, rd⟩ := hbody cdv A outer s0 H vs Q E (room.deeper _) gd asked
    have J : Inv (cxOf CX P w K mg base N qual scope f cdv A outer s0 H E) [] (start N vs) H t := inv_start S room.hd e0 (len _ _ _ _ asked) rv x
    refine ⟨(e0.mod.nolimit.keeps old).keeps x.toInCall.keep, codeAny_func (wpAny_mono (ht.run [] t (start N vs) H _ J rd) (fun fl t2 got => ?_) fun _ _ got => got)⟩
    cases fl with
    | ret u => obtain ⟨v, σ2, H2, J2, r2, q2⟩ := got; exact ⟨v, H2, J2.os, J2.bare, J2.base, J2.hok, r2, q2⟩
    | next => obtain ⟨σ2, H2, J2, q2⟩ := got; exact ⟨V.non, H2, J2.os, J2.bare, J2.base, J2.hok, rfl, q2⟩
    | brk =>
      obtain ⟨_, _, _, z⟩ := got
      exact False.elim z
    | cont =>
      obtain ⟨_, _, _, z⟩ := got
      exact False.elim z
end
/-! ### calls of such defs -/
section
variable {X : Cx} {CX : CXT} {k : Nat} {f : Addr} {fd : FuncData} {ps : List Str} {sp : Sp} {dvs : List V} {ds : List Value} {E : XK} {x : Str} {e : Expr} {es : List Expr} {t : TA} {p pos : Pos}
theorem run_fnG {pins : List (Addr × Obj)} {σ : L2.St} {H : Hp} {s : Shared} {Q : VK} {us : List Value} {vs : List V} (F : FnG X.prog X.w X.K X.mg X.base CX k f fd ps sp) (hr : Room k X.A) (gd : X.A.guards = some []) (hb : Binds X.K fd ps ds) (hd : Vals dvs ds) (hx : Passes CX X E)
    (I : Inv X pins σ H s) (r : Vals vs us) (h : sp (vs ++ dvs) H Q E) : wpAny (model X.prog X.w) X.A (call (.ref f) us) (EP X pins σ Q) X.xe s := by
  have rr := r.append hd
  refine wpAny_call (codeAny_mono (F.run X.A X.stack s H ⟨us, []⟩ (us ++ ds) (vs ++ dvs) Q E hr gd I.env0 (hb s us I.kIn (rr.length.symm.trans (F.len _ _ _ _ h))) rr h) fun res s2 got => ?_)
  match res, got with
  | .error er, got => exact hx pins σ H s er s2 I got
  | .ok (.ret u), got => exact I.after got
  | .ok .next, got => exact False.elim got
  | .ok .brk, got => exact False.elim got
  | .ok .cont, got => exact False.elim got
theorem pe_callG (F : FnG X.prog X.w X.K X.mg X.base CX k f fd ps sp) (hr : Room k X.A) (gd : X.A.guards = some []) (hg : Gl X x) (hm : X.mg x = some (.ref f)) (hk : PySem.W.keepIn X.K (.ref f) = true) (hb : Binds X.K fd ps ds) (hd : Vals dvs ds) (hx : Passes CX X E)
    (ha : PA X (e :: es) t) (hdb : (x == ("__debug__" : Str)) = false := by decide) (he : starEach (e :: es) X.env = (false, eval e X.env) :: starEach es X.env := by rfl) (hpl : (backTo pos (starEach es X.env)).any (·.1) = false := by rfl) :
    PE X (.Call (.Name x p) (e :: es) [] pos) (tCall sp dvs E t) :=
  ⟨fun pins s σ H Q I h => wpAny_Call_Name_kw (ld_glob I hg hm (PySem.W.callWith_K (h₀ := X.base) I.ok.mod.kin hk (thn (ha.run pos pins s σ H _ I h) fun us s1 ⟨vs, H1, I1, r, q⟩ => ⟨I1.kIn, run_fnG F hr gd hb hd hx I1 r q⟩) he hpl) hdb)⟩
theorem pe_callG0 (F : FnG X.prog X.w X.K X.mg X.base CX k f fd ps sp) (hr : Room k X.A) (gd : X.A.guards = some []) (hg : Gl X x) (hm : X.mg x = some (.ref f)) (hk : PySem.W.keepIn X.K (.ref f) = true) (hb : Binds X.K fd ps ds) (hd : Vals dvs ds) (hx : Passes CX X E)
    (hdb : (x == ("__debug__" : Str)) = false := by decide) : PE X (.Call (.Name x p) [] [] pos) (tCall sp dvs E tNil) :=
  ⟨fun pins s σ H Q I h => wpAny_Call_Name_kw (ld_glob I hg hm (PySem.W.callWith_K0 I.kIn hk (run_fnG (us := []) F hr gd hb hd hx I .nil h)) hdb)⟩
end
/-- such a def of the text, by the module's name of it -/
structure CalG (P : Program) (w : World) (K : PySem.W.Frag) (mg : Str → Option Value) (base : Heap) (CX : CXT) (x : Str) (k : Nat) (ps : List Str) (sp : Sp) : Prop where
  ex : ∃ (f : Addr) (fd : FuncData), FnG P w K mg base CX k f fd ps sp ∧ Binds K fd ps [] ∧ mg x = some (.ref f) ∧ PySem.W.keepIn K (.ref f) = true
/-! ### the end -/
section
variable {P : Program} {w : World} {K : PySem.W.Frag} {mg mb : Str → Option Value} {CX : CXT} {k : Nat} {fa a : Addr} {cs : List (Addr × Addr)} {fd : FuncData} {x : Str} {sp : Sp} {g : Shared} {vs : List Value} {ns : List Int}
/-- what is tracked when the law is called: the script, unless it is written, and the tables -/
def H0 (K : PySem.W.Frag) (a : Addr) (ob : Obj) (xs : List V) (T : List Addr) : Hp := fun b => if b ∈ T then some (.tbl #[]) else if b = a ∧ K.lookup a = none then some (.frz ob (.lst xs)) else none
theorem H0_cases {ob : Obj} {xs : List V} {T : List Addr} {b : Addr} {u : HO} (e : H0 K a ob xs T b = some u) : (b ∈ T ∧ u = .tbl #[]) ∨ (b ∉ T ∧ b = a ∧ K.lookup a = none ∧ u = .frz ob (.lst xs)) := by
  unfold H0 at e
  by_cases h : b ∈ T
  · rw [if_pos h] at e
    exact .inl ⟨h, (Option.some.inj e).symm⟩
  · rw [if_neg h] at e
    by_cases h2 : b = a ∧ K.lookup a = none
    · rw [if_pos h2] at e
      exact .inr ⟨h, h2.1, h2.2, (Option.some.inj e).symm⟩
    · rw [if_neg h2] at e
      cases e
theorem law_callG (KX : K.In g.heap) (hns : g.heap.Ns mainGlobals mg) (hb : g.heap.Ns builtinsNs mb) (hbb : ∀ y : Str, y ≠ "__name__" → mb y = bootBuiltins y) (lim : g.heap.NoLimit) (gens : g.gens = #[])
    (hT : ∀ p ∈ cs, g.heap.get? p.2 = some { cls := .none, data := .fields #[] }) (nT : ∀ p ∈ cs, K.lookup p.2 = none) (hC : ∀ p ∈ cs, PySem.W.CodeHd g.heap p.1 p.2)
    (bm : ∃ (bm : Addr) (ob : Obj), mg "__builtins__" = some (.ref bm) ∧ bm ≠ builtinsNs ∧ g.heap.get? bm = some ob ∧ ob.cls = .type "module" ∧ ob.dict = some builtinsNs ∧ ob.data = .plain)
    (ha : g.heap.get? a = some { cls := .type "list", data := .seq vs.toArray }) (hi : IntsAre vs ns) (hl : ns.length ≤ sizeLine) (room : Room k callerA)
    (F : ∀ base : Heap, K.In base → base.Ns mainGlobals mg → (∀ p ∈ cs, TabB base mg p.1 p.2) → FnG P w K mg base CX k fa fd [x] sp) (bind : ∀ (s : Shared) (u : Value), BindsTo s fd ⟨[u], []⟩ [(x, u)])
    (asked : ∀ H : Hp, (∀ p ∈ cs, H p.2 = some (.tbl #[])) → SqL K H a (ns.map V.int) → sp [.ref a] H (fun v _ => v = .bl true) fun _ _ _ => False)
    (noX : ∀ H e s2, CX [] H g (fun _ _ _ => False) e s2 → False) :
    codeAny (model P w) callerA (.call (.ref fa) ⟨[.ref a], []⟩) (fun r s2 => r = .ok (.ret (.bool true)) ∧ OldK g.heap s2.heap ∧ s2.os = g.os ∧ AllBare s2.gens) g := by
  have rv := vals_ints hi
  have lv := hi.length
  generalize hTs : cs.map (·.2) = T
  have tabAt : ∀ b ∈ T, g.heap.get? b = some { cls := .none, data := .fields #[] } ∧ K.lookup b = none := fun b m => by
    rw [← hTs] at m
    obtain ⟨p, hp, rfl⟩ := List.mem_map.mp m
    exact ⟨hT p hp, nT p hp⟩
  have inT : ∀ p ∈ cs, p.2 ∈ T := fun p hp => hTs ▸ List.mem_map.mpr ⟨p, hp, rfl⟩
  have aT : a ∉ T := fun m => by
    have z := (tabAt a m).1
    rw [ha] at z
    cases z
  generalize hH : H0 K a { cls := .type "list", data := .seq vs.toArray } (ns.map V.int) T = H
  have cse : ∀ {b : Addr} {u : HO}, H b = some u → (b ∈ T ∧ u = .tbl #[]) ∨ (b ∉ T ∧ b = a ∧ K.lookup a = none ∧ u = .frz { cls := .type "list", data := .seq vs.toArray } (.lst (ns.map V.int))) := fun e => H0_cases (by rw [hH]; exact e)
  have tbl : ∀ p ∈ cs, H p.2 = some (.tbl #[]) := fun p hp => by
    rw [← hH]
    exact if_pos (inT p hp)
  have lsz : (ns.map V.int).length ≤ sizeLine := by rw [List.length_map]; exact hl
  have ok : HOk P w H g.heap := fun b u e => by
    rcases cse e with ⟨m, rfl⟩ | ⟨_, rfl, _, rfl⟩
    · exact (tabAt b m).1
    · exact ⟨ha, lsz, vs, _, rv, ha⟩
  have sq : SqL K H a (ns.map V.int) := by
    cases kl : K.lookup a with
    | none =>
      refine .inl (.inr ⟨{ cls := .type "list", data := .seq vs.toArray }, ?_⟩)
      rw [← hH]
      exact (if_neg aT).trans (if_pos ⟨rfl, kl⟩)
    | some o =>
      have z := KX a o kl
      rw [ha] at z
      cases z
      exact .inr ⟨_, vs.toArray, _, kl, rfl, rfl, rfl, by rw [List.size_toArray, lv]; exact hl, by simpa using rv⟩
  -- what is neither a table nor the script stands in the base
  have un : ∀ {b : Addr} {o : Obj}, g.heap.get? b = some o → (∀ its n, o.data ≠ .seq its n) → o.data ≠ .fields #[] → H b = none := fun {b o} e n1 n2 => by
    cases q : H b with
    | none => rfl
    | some u =>
      rcases cse q with ⟨m, _⟩ | ⟨_, rfl, _, _⟩
      · rw [(tabAt b m).1] at e
        cases e
        exact absurd rfl n2
      · rw [ha] at e
        cases e
        exact absurd rfl (n1 _ _)
  have unD : ∀ {b : Addr} {o : Obj} {es : Array DictEntry} {ep : Nat}, g.heap.get? b = some o → o.data = .dict es ep → H b = none := fun e d => un e (fun its n z => by rw [d] at z; cases z) fun z => by rw [d] at z; cases z
  have nsB : ∀ {b : Addr} {m : Str → Option Value}, g.heap.Ns b m → (hidT g.heap H).Ns b m := fun ⟨o, es, ep, e, d, r⟩ => ⟨o, es, ep, hidT_get e (unD e d), d, r⟩
  have kB : K.In (hidT g.heap H) := fun b o e => hidT_get (KX b o e) (by
    cases q : H b with
    | none => rfl
    | some u =>
      rcases cse q with ⟨m, _⟩ | ⟨_, rfl, z, _⟩
      · rw [(tabAt b m).2] at e
        cases e
      · rw [z] at e
        cases e)
  have md : L2.Mod K mg (hidT g.heap H) := ⟨kB, nsB hns, ⟨mb, nsB hb, hbb⟩, by
    obtain ⟨mc, h1, h2⟩ := lim
    exact ⟨mc, nsB h1, h2⟩⟩
  have tb : ∀ p ∈ cs, TabB (hidT g.heap H) mg p.1 p.2 := fun p hp => by
    have tp := hT p hp
    have gG : mainGlobals ≠ p.2 := fun z => by
      obtain ⟨o, es, ep, e, d, _⟩ := hns
      rw [z, tp] at e
      cases e
      cases d
    refine ⟨?_, ?_, gG⟩
    · obtain ⟨o, us, file, tf, flags, tg, inF, text, tt, e1, r1, r2, r3, r4, r5, r6, r7, r8, ne⟩ := hC p hp
      have e2 : H p.1 = none := un e1 (fun its n z => by rw [r2] at z; cases z) fun z => by
        rw [r2] at z
        cases z
        simp at r3
      exact ⟨o, us, file, tf, flags, tg, inF, text, tt, hidT_get e1 e2, r1, r2, r3, r4, r5, r6, r7, r8, ne⟩
    · obtain ⟨bmA, ob, b1, b2, b3, b4, b5, b6⟩ := bm
      have nG : bmA ≠ mainGlobals := fun z => by
        obtain ⟨o, es, ep, e, d, _⟩ := hns
        rw [z, e] at b3
        cases b3
        rw [d] at b6
        cases b6
      have nP : bmA ≠ p.2 := fun z => by
        rw [z, tp] at b3
        cases b3
        cases b6
      exact ⟨bmA, ob, b1, b2, nG, nP, hidT_get b3 (un b3 (fun its n z => by rw [b6] at z; cases z) fun z => by rw [b6] at z; cases z), b4, b5, b6⟩
  have en : Env0 P w K mg (hidT g.heap H) callerA [] g H := ⟨rfl, md, fun b o e => of_hidT e, Nat.le_of_eq (hidT_size _ _), trivial, fun b m => absurd (show b ∈ ([] : List Addr) from m) (by simp), ok, .of_eq gens⟩
  refine codeAny_mono ((F _ kB (nsB hns) tb).run callerA [] g H ⟨[.ref a], []⟩ [.ref a] [.ref a] _ _ room rfl en (bind g (.ref a)) (.cons rfl .nil) (asked H tbl sq)) fun res s2 got => ?_
  match res, got with
  | .error er, got => exact (noX H er s2 got).elim
  | .ok .next, got => exact False.elim got
  | .ok .brk, got => exact False.elim got
  | .ok .cont, got => exact False.elim got
  | .ok (.ret u), ⟨v, H2, os, bare, kept, ok2, ru, (q : v = .bl true)⟩ =>
    subst q
    obtain rfl : u = Value.bool true := ru
    have key : ∀ b o, b ∉ T → g.heap.get? b = some o → s2.heap.get? b = some o := fun b o nb e => by
      cases q : H b with
      | none => exact kept.keep b o e q (fun m => absurd (show b ∈ ([] : List Addr) from m) (by simp)) (by simp)
      | some u =>
        rcases cse q with ⟨m, _⟩ | ⟨_, rfl, _, rfl⟩
        · exact absurd m nb
        · obtain ⟨z, _⟩ := ok2 b _ (kept.frzs b _ _ q)
          rw [ha] at e
          cases e
          exact z
    refine ⟨rfl, ⟨fun b o e => ?_, fun b o e => ?_⟩, os, bare⟩
    · by_cases m : b ∈ T
      · rw [← hTs] at m
        obtain ⟨p, hp, rfl⟩ := List.mem_map.mp m
        obtain ⟨more, z⟩ := kept.tbls p.2 #[] (tbl p hp)
        rw [hT p hp] at e
        cases e
        exact .inr (.inl ⟨((hC p hp).tab (hT p hp)).isCodeTable, rfl, #[], more, rfl, ok2 p.2 _ z⟩)
      · exact .inl (key b o m e)
    · by_cases m : b ∈ T
      · rw [← hTs] at m
        obtain ⟨p, hp, rfl⟩ := List.mem_map.mp m
        obtain ⟨more, z⟩ := kept.tbls p.2 #[] (tbl p hp)
        exact ⟨_, ok2 p.2 _ z⟩
      · exact ⟨o, key b o m e⟩
end
/-- a law by the promise of its def -/
def LawG (l : PySem.W.OpenLaw) (w : World) (K : PySem.W.Frag) (CX : CXT) (k n : Nat) (x : Str) (mg : Str → Option Value) (fa : Addr) (h : Heap) : Prop :=
  ∃ (fd : FuncData) (cs : List (Addr × Addr)) (sp : Sp), (∀ p ∈ cs, h.get? p.2 = some { cls := .none, data := .fields #[] } ∧ K.lookup p.2 = none ∧ PySem.W.CodeHd h p.1 p.2) ∧ (∀ (s : Shared) (u : Value), BindsTo s fd ⟨[u], []⟩ [(x, u)]) ∧
    (∀ (H : Hp) (a : Addr) (ns : List Int), ns.length ≤ n → (∀ p ∈ cs, H p.2 = some (.tbl #[])) → SqL K H a (ns.map V.int) → sp [.ref a] H (fun v _ => v = .bl true) fun _ _ _ => False) ∧
    ∀ base : Heap, K.In base → base.Ns mainGlobals mg → (∀ p ∈ cs, TabB base mg p.1 p.2) → FnG l.prog w K mg base CX k fa fd [x] sp
theorem walk_G {l : PySem.W.OpenLaw} {n k : Nat} {q : Program} {loose : List Str} {XP : (Str → Option Value) → Heap → Prop} {YP : World → Heap → Prop} {d : DefRec} {CX : World → CXT} {x : Str}
    (most : l.most = some n) (n2 : n ≤ sizeLine) (plain : d.params.defaults = []) (room : Room k callerA)
    (F : ∀ (w : World) (mg : Str → Option Value) (fa : Addr) (h : Heap), YP w h → h.Ns mainGlobals mg → mg d.name = some (.ref fa) → ∃ K : PySem.W.Frag, K.In h ∧ LawG l w K (CX w) k n x mg fa h)
    (noX : ∀ (w : World) (H : Hp) (s : Shared) (e : Value) (s2 : Shared), CX w [] H s (fun _ _ _ => False) e s2 → False) :
    PySem.W.WalkO q loose XP YP l.row.toRowW d [] (fun f vs => PySem.call f vs) := by
  refine Att.attach_callB most plain fun w s0 g mg mb fa o pm cd doc a vs ns G Y ho hd hcd hmg hobj hints hlen hbits hg => ?_
  obtain ⟨K, KX, fd, cs, sp, hT, hb, asked, hF⟩ := F w mg fa _ Y G.T.g hmg
  exact law_callG KX G.T.g G.T.b G.T.builtins G.T.nolimit hg (fun p hp => (hT p hp).1) (fun p hp => (hT p hp).2.1) (fun p hp => (hT p hp).2.2) G.T.bmain hobj hints (Nat.le_trans hlen n2) room hF hb (fun H hH hS => asked H a ns hlen hH hS) fun H e s2 => noX w H g e s2
end GD
set_option Elab.async false
set_option linter.all false
set_option maxRecDepth 100000
set_option maxHeartbeats 4000000
namespace RZ
open PySem PySem.Spec PyProof.Rows L2 CM LamX
/-! ### what a value shows -/
mutual
inductive Shw (H : Hp) : V → PyData → Prop
  | non : Shw H .non .none
  | bl (b : Bool) : Shw H (.bl b) (.bool b)
  | int (i : Int) : Shw H (.int i) (.int i)
  | str (z : Str) : Shw H (.str z) (.str z)
  | lst {a : Addr} {xs : List V} {ds : List PyData} : H a = some (.lst xs) → ShwAll H xs ds → Shw H (.ref a) (.list ds)
  | tup {a : Addr} {xs : List V} {ds : List PyData} : H a = some (.tup xs) → ShwAll H xs ds → Shw H (.ref a) (.tuple ds)
inductive ShwAll (H : Hp) : List V → List PyData → Prop
  | nil : ShwAll H [] []
  | cons {v : V} {vs : List V} {d : PyData} {ds : List PyData} : Shw H v d → ShwAll H vs ds → ShwAll H (v :: vs) (d :: ds)
end
mutual
theorem Shw.noDict {H : Hp} : ∀ {v : V} {d : PyData}, Shw H v d → d.hasDict = false
  | _, _, .non => by simp only [PyData.hasDict]
  | _, _, .bl _ => by simp only [PyData.hasDict]
  | _, _, .int _ => by simp only [PyData.hasDict]
  | _, _, .str _ => by simp only [PyData.hasDict]
  | _, _, .lst _ h => by
    simp only [PyData.hasDict]
    exact h.noDict
  | _, _, .tup _ h => by
    simp only [PyData.hasDict]
    exact h.noDict
theorem ShwAll.noDict {H : Hp} : ∀ {vs : List V} {ds : List PyData}, ShwAll H vs ds → PyData.hasDictAll ds = false
  | _, _, .nil => by simp only [PyData.hasDictAll]
  | _, _, .cons h t => by simp only [PyData.hasDictAll, h.noDict, t.noDict, Bool.or_self]
end
mutual
theorem Shw.reads {P : Program} {w : World} {H : Hp} {h : Heap} (ok : HOk P w H h) : ∀ {v : V} {d : PyData}, Shw H v d → ∀ {u : Value}, RelV v u → ∃ as, Reads h u d as
  | _, _, .non, u, r => by
    obtain rfl : u = Value.none := r
    exact ⟨_, .none⟩
  | _, _, .bl b, u, r => by
    obtain rfl : u = Value.bool b := r
    exact ⟨_, .bool b⟩
  | _, _, .int i, u, r => by
    obtain ⟨t, rfl⟩ := r
    exact ⟨_, .int i t⟩
  | _, _, .str z, u, r => by
    obtain ⟨t, rfl⟩ := r
    exact ⟨_, .str z t⟩
  | _, _, .lst (a := a) e hs, u, r => by
    obtain rfl : u = Value.ref a := r
    obtain ⟨_, its, n, rv, g⟩ := (show ObjOk P w H h a (.lst _) from ok a _ e)
    obtain ⟨as, ra⟩ := hs.reads ok rv
    exact ⟨_, .list g rfl rfl (by simpa using ra)⟩
  | _, _, .tup (a := a) e hs, u, r => by
    obtain rfl : u = Value.ref a := r
    obtain ⟨_, its, rv, o, g, hc, n, hd⟩ := (show ObjOk P w H h a (.tup _) from ok a _ e)
    obtain ⟨as, ra⟩ := hs.reads ok rv
    exact ⟨_, .tuple g hc hd (by simpa using ra)⟩
theorem ShwAll.reads {P : Program} {w : World} {H : Hp} {h : Heap} (ok : HOk P w H h) : ∀ {vs : List V} {ds : List PyData}, ShwAll H vs ds → ∀ {us : List Value}, Vals vs us → ∃ as, ReadsAll h us ds as
  | _, _, .nil, _, .nil => ⟨_, .nil⟩
  | _, _, .cons h1 t1, _, .cons r1 r2 => by
    obtain ⟨a1, e1⟩ := h1.reads ok r1
    obtain ⟨a2, e2⟩ := t1.reads ok r2
    exact ⟨_, .cons e1 e2⟩
end
/-- what repr tells of it -/
def Says (H : Hp) (v : V) (d : PyData) : Prop := Shw H v d ∨ ∃ a, v = .ref a ∧ H a = some (.dK []) ∧ d = .dict []
section
variable {X : Cx}
theorem call_reprD (gd : X.A.guards = some []) (hu : X.A.units + 90 < cLine) : CallR X (.builtin "repr") (fun xs H Q => ∃ v d, xs = [v] ∧ Says H v d ∧ d.showable = true ∧ d.depth ≤ 80 ∧ d.shown.length ≤ sizeLine ∧ Q (.str d.shown) H) := by
  intro pins s σ H xs us Q I r h
  obtain ⟨v, d, rfl, hs, hz, hd, hl, q⟩ := h
  obtain ⟨u, rfl, ru⟩ : ∃ u, us = [u] ∧ RelV v u := by
    cases r with
    | cons a b =>
      cases b
      exact ⟨_, rfl, a⟩
  obtain ⟨as, ra, hsm⟩ : ∃ as, Reads s.heap u d as ∧ (d.hasDict = true → sysModules ∉ as) := by
    rcases hs with hs | ⟨a, rfl, ha, rfl⟩
    · obtain ⟨as, ra⟩ := hs.reads I.hok ru
      exact ⟨as, ra, PyData.noDict_hsm hs.noDict⟩
    · obtain rfl : u = Value.ref a := ru
      obtain ⟨_, hn, vs, kv, ho⟩ := (show ObjOk X.prog X.w H s.heap a (.dK []) from I.hok a _ ha)
      cases kv
      obtain ⟨o, es, ep, g, hc, hd1, _, he, _⟩ := ho
      refine ⟨_, .dict (as := []) (bs := []) g hc.1 hd1 ?_ ?_, fun _ m => ?_⟩
      · have e0 : es.toList = [] := by
          generalize es.toList = l at he
          cases he
          rfl
        rw [e0]
        exact .nil
      · have e0 : es.toList = [] := by
          generalize es.toList = l at he
          cases he
          rfl
        rw [e0]
        exact .nil
      · have e1 : sysModules = a := by simpa using m
        rw [← e1] at hn
        simp at hn
  have fin : ∀ h' uu tk, (∀ b o, s.heap.get? b = some o → h'.get? b = some o) → EP X pins σ Q (.str d.shown uu) { s with heap := h', toks := tk } := fun h' uu tk k => ⟨.str d.shown, H, I.kept k, ⟨_, rfl⟩, q⟩
  cases ra with
  | none =>
    simp only [PyData.shown] at fin
    exact PySem.P.repr_of_none (fin s.heap _ _ fun _ _ e => e)
  | bool b =>
    simp only [PyData.shown] at fin
    exact PySem.P.repr_of_bool (fin s.heap _ _ fun _ _ e => e)
  | int i t =>
    simp only [PyData.shown] at fin
    exact PySem.P.repr_of_int (by simpa [PyData.showable] using hz) (fin s.heap _ _ fun _ _ e => e)
  | str x t =>
    simp only [PyData.shown] at fin
    exact PySem.P.repr_of_str (fin s.heap _ _ fun _ _ e => e) (by simpa only [PyData.shown] using hl)
  | list h1 h2 h3 h4 => exact repr_of_reads' (.list h1 h2 h3 h4) hz hsm gd (by omega) (fun _ _ e => e) (fun h' uu tk k => fin h' uu tk k) hl
  | tuple h1 h2 h3 h4 => exact repr_of_reads' (.tuple h1 h2 h3 h4) hz hsm gd (by omega) (fun _ _ e => e) (fun h' uu tk k => fin h' uu tk k) hl
  | dict h1 h2 h3 h4 h5 => exact repr_of_reads' (.dict h1 h2 h3 h4 h5) hz hsm gd (by omega) (fun _ _ e => e) (fun h' uu tk k => fin h' uu tk k) hl
/-! ### C(e, ..) in a try: __init__ may raise -/
def tMakeS (C : Addr) (sp : Sp) (E : L2.St → XK) (ta : TA) : TE := fun σ H Q => ta σ H fun vs H1 => ∀ x dx, H1 x = none → H1 dx = none → dx ≠ x → sp (.ref x :: vs) (upd (upd H1 dx (.own x)) x (.ins C dx [])) (fun v H2 => v = .non ∧ Q (.ref x) H2) (E σ)
end
section
variable {X : Cx} {CX : CXT} {k : Nat} {f C : Addr} {fd : FuncData} {ps : List Str} {sp : Sp} {E : L2.St → XK} {x : Str} {p pos : Pos} {e : Expr} {es : List Expr} {t : TA}
theorem pe_makeS (M : Mk X.K C f) (F : FnOk X.prog X.w X.K X.mg X.base CX k f fd ps sp) (hr : Room (k + 1) X.A) (hg : Gl X x) (hm : X.mg x = some (.ref C)) (hb : Binds X.K fd ps []) (hx : ∀ σ, PassesAt CX X σ (E σ)) (ha : PA X (e :: es) t)
    (hdb : (x == ("__debug__" : Str)) = false := by decide) (he : starEach (e :: es) X.env = (false, eval e X.env) :: starEach es X.env := by rfl) (hpl : (backTo pos (starEach es X.env)).any (·.1) = false := by rfl) :
    PE X (.Call (.Name x p) (e :: es) [] pos) (tMakeS C sp E t) := by
  refine ⟨fun pins s σ H Q I h => ?_⟩
  refine wpAny_Call_Name_kw (ld_glob I hg hm ?_ hdb)
  refine PySem.W.callWith_K (h₀ := X.base) I.ok.mod.kin M.kp (thn (ha.run pos pins s σ H _ I h) fun us s1 ⟨vs, H1, I1, r, q⟩ => ⟨I1.kIn, ?_⟩) he hpl
  have hq := q (s1.heap.objs.size + 1) s1.heap.objs.size (I1.hok.fresh (Nat.le_succ _)) (I1.hok.fresh (Nat.le_refl _)) (Nat.ne_of_lt (Nat.lt_succ_self _))
  have I2 := Inv.made (C := C) I1
  have r2 : Vals (V.ref (s1.heap.objs.size + 1) :: vs) (Value.ref (s1.heap.objs.size + 1) :: us) := .cons rfl r
  have hl : (Value.ref (s1.heap.objs.size + 1) :: us ++ []).length = ps.length := by
    have e := r2.length
    rw [F.len _ _ _ _ hq] at e
    rw [List.append_nil]
    exact e.symm
  have bb := hb _ (Value.ref (s1.heap.objs.size + 1) :: us) I2.kIn hl
  rw [List.append_nil] at bb
  refine wpAny_call (make_map (f := f) I1.kIn M.makes M.init (beq_iff_eq.mp M.fn) (codeAny_mono (F.run _ X.stack _ _ ⟨Value.ref (s1.heap.objs.size + 1) :: us, []⟩ (Value.ref (s1.heap.objs.size + 1) :: us) _ _ (E σ) (hr.make C us [])
    (I2.env0.make C us []) bb r2 hq) fun r s' hq' => ?_))
  cases r with
  | error e => exact hx σ pins _ _ e s' I2 hq'
  | ok fl =>
    cases fl with
    | ret u =>
      obtain ⟨v, H', I3, rv, ev, q3⟩ := I2.after hq'
      subst ev
      exact ⟨rv, ⟨V.ref (s1.heap.objs.size + 1), H', I3, rfl, q3⟩⟩
    | next => exact False.elim hq'
    | brk => exact False.elim hq'
    | cont => exact False.elim hq'
end
end RZ
set_option Elab.async false
set_option linter.all false
set_option maxRecDepth 100000
set_option maxHeartbeats 4000000
namespace SU
open PySem PySem.Spec PySem.Calls PyProof.Rows L2 CM LamX NdefX ClX
/-- what stands of a method of the class at C whose text says super().m(..), D the class of that text, f2 the def above -/
structure SupF (P : Program) (K : PySem.W.Frag) (C D f f2 : Addr) (m : Str) (F : NF) (fd : FuncData) : Prop where
  ex : ∃ (oc : Value) (od : Option Addr) (doc pm ct : Value) (osl : Array (Option Value)) (cc : Addr) (ccl : Value) (cdd : Option Addr) (vs : Array Value) (file : Str) (tf : Tok) (ccs : Array (Option Value)) (cl : Value) (cld : Option Addr) (csl : Array (Option Value)) (cdD cd : ClassData),
    fd = F.fd doc pm ct ∧ K.lookup f = some ⟨oc, od, .func (F.fd doc pm ct), osl⟩ ∧ F.cl = [(("__class__" : Str), cc)] ∧ PySem.W.codeIn K (.ref F.c) F.qual = true ∧ K.lookup F.c = some ⟨ccl, cdd, .fields vs, ccs⟩ ∧ vs[2]? = some (.str file tf) ∧ ((P.main.file : Str) == file) = true ∧
    K.lookup cc = some ⟨cl, cld, .cell (some (.ref D)), csl⟩ ∧ PySem.W.clsIn K D = some cdD ∧ PySem.W.mroIn K C (.ref D) = some true ∧ PySem.W.clsIn K C = some cd ∧ PySem.W.alongIn K m ((cd.mro.dropWhile (· != .ref D)).drop 1) = some (some (.ref f2)) ∧
    PySem.W.typeIn K (.ref f2) = some (.type "function") ∧ PySem.W.nsIn K cStatics "thirdparty.any" = some none ∧ PySem.W.fnIn K f2 = true
section
variable {P : Program} {w : World} {K : PySem.W.Frag} {mg : Str → Option Value} {base : Heap} {CX : CXT} {k : Nat}
theorem fnR_of {f : Addr} {fd : FuncData} {ps : List Str} {sp : Sp} (F : FnOk P w K mg base CX k f fd ps sp) (hb : Binds K fd ps []) : FnR P w K mg base CX k f sp := fun A outer s H us vs Q E hr e0 r h => by
  have hl : us.length = ps.length := by rw [← r.length]; exact F.len _ _ _ _ h
  have b := hb s us (e0.mod.kin.keeps fun b o e => (e0.bs b o e).1) (by rw [List.append_nil]; exact hl)
  rw [List.append_nil] at b
  exact F.run A outer s H ⟨us, []⟩ us vs Q E hr e0 b r h
def spSup (N ps : List Str) (C : Addr) (t : TA) (sp : Sp) : Sp := fun vs H Q E => vs.length = ps.length ∧ ∃ a dx fs, vs[0]? = some (.ref a) ∧ H a = some (.ins C dx fs) ∧ t (startF N vs [none]) H (fun ws H1 => sp (.ref a :: ws) H1 Q E)
theorem ok_super {C D f f2 : Addr} {m : Str} {F : NF} {fd : FuncData} {N ps ps' : List Str} {sp : Sp} {t : TA} {ar : Arg} {p0 p1 apos pos rp : Pos} {e : Expr} {es : List Expr} (S : NScope N ps ["__class__"] F.scope) (Z : SupF P K C D f f2 m F fd)
    (hps : ps = ar.arg :: ps') (hp : (F.params.posonlyargs ++ F.params.args).head? = some ar) (hks : F.scope.names.lookup ("super" : Str) = some .globalImplicit)
    (hbody : F.body = [.Return (some (.Call (.Attribute (.Call (.Name "super" p0) [] [] p1) m apos) (e :: es) [] pos)) rp])
    (htop : (P.main.scope.names.lookup ("super" : Str)).isSome = false) (msup : mg "super" = none) (hn : (m == ("__class__" : Str)) = false) (G : FnR P w K mg base CX k f2 sp)
    (ha : ∀ (g : Addr) (A : Around) (outer : List Env) (s : Shared) (H : Hp) (E : XK), PA (ncx CX P w K mg base N F g A outer s H E) (e :: es) t) (hx : ∀ (g : Addr) (A : Around) (outer : List Env) (s : Shared) (H : Hp) (E : XK), Passes CX (ncx CX P w K mg base N F g A outer s H E) E)
    (hst : ∀ env : Env, starEach (e :: es) env = (false, eval e env) :: starEach es env) (hpl : ∀ env : Env, (backTo pos (starEach es env)).any (·.1) = false)
    {pl : Env → Sem Bool} (hev : ∀ env : Env, eval (.Call (.Attribute (.Call (.Name "super" p0) [] [] p1) m apos) (e :: es) [] pos) env = (do
      let ov ← attributeBase (.Call (.Name "super" p0) [] [] p1) m env (eval (.Call (.Name "super" p0) [] [] p1) env)
      standAt apos.atName
      let (f, first) ← holding [ov] (getMethod ov m (pl env))
      callWith pos f first (backTo pos (starEach (e :: es) env)) [])) :
    FnOk P w K mg base CX (k + 1) f fd ps (spSup N ps C t sp) := by
  obtain ⟨oc, od, doc, pm, ct, osl, cc, ccl, cdd, cvs, file, tf, ccs, cl, cld, csl, cdD, cd, rfl, lk, hcl, hcd, hcode, hvs, hfile, hcell, hD, hsub, hC, hal, hty, hno, hfn⟩ := Z.ex
  refine ⟨fun vs H Q E h => h.1, fun A outer s H args us vs Q E hr e0 bt r h => ?_⟩
  obtain ⟨hl, a, dx, fs, h0, hi, hq⟩ := h
  have old : ∀ b o, base.get? b = some o → s.heap.get? b = some o := fun b o e => (e0.bs b o e).1
  have X0 : K.In s.heap := e0.mod.kin.keeps old
  have hH : ∀ {b : Addr} {o : Obj}, K.lookup b = some o → H b = none := fun {b o} e => (e0.bs b o (e0.mod.kin b o e)).2
  have Cl : CellsAt F.cl ["__class__"] [none] s.heap H := by
    refine ⟨rfl, fun y c z => ?_, fun x y c z1 z2 => ?_, fun i y z => ?_⟩
    · rw [hcl] at z
      have e1 : cc = c := by
        simp only [List.lookup] at z
        split at z
        · exact Option.some.inj z
        · cases z
      subst e1
      exact ⟨hH hcell, _, _, X0 _ _ hcell, rfl⟩
    · rw [hcl] at z1 z2
      simp only [List.lookup] at z1 z2
      split at z1
      · rename_i q1
        split at z2
        · rename_i q2
          rw [beq_iff_eq.mp q1, beq_iff_eq.mp q2]
        · cases z2
      · cases z1
    · cases i with
      | zero =>
        have e1 : "__class__" = y := Option.some.inj z
        subst e1
        exact ⟨cc, by rw [hcl]; rfl, fun v q => by cases q⟩
      | succ i => cases z
  refine PySem.ks_codeAny_call_defAt (fd := F.fd doc pm ct) (body := F.body) (binds := ps.zip us) hr.depth (X0 _ _ lk) rfl (e0.mod.nolimit.keeps old) (PySem.W.codeRec_of X0 hcd) rfl bt S.nocell (fun y hy => S.par _ (List.of_mem_zip (show (y.1, y.2) ∈ ps.zip us from hy)).1) (fun h₁ hns kp => ?_) S.co S.gen S.kind
  have I : Inv (ncx CX P w K mg base N F f A outer s H E) [] (startF N vs [none]) H { s with heap := h₁, toks := s.toks + (ps.zip us).length } := inv_startN S hr.hd e0 hl r Cl hns kp
  have hEnv : PySem.callEnv (F.fd doc pm ct) s.heap.objs.size f = envF F f s.heap.objs.size := rfl
  rw [hEnv]
  generalize hs1 : ({ s with heap := h₁, toks := s.toks + (ps.zip us).length } : Shared) = s1 at I ⊢
  have hs1h : s1.heap = h₁ := by rw [← hs1]
  rw [hbody]
  refine PySem.ks_wpAt_execs_cons (PySem.ks_wpAt_Return_some (PySem.ks_wpAt_MethodCall (pl := pl (envF F f s.heap.objs.size)) ?_ (hev _)))
  have lk1 := I.kIn _ _ lk
  have hk : (envF F f s.heap.objs.size).scope.kind = .function := S.kind
  have hfr : F.scope.names.lookup ("__class__" : Str) = some .free := S.frk _ (List.mem_singleton.mpr rfl)
  refine PySem.ks_wpAt_super_base (env := envF F f s.heap.objs.size) hks hfr hn rfl lk1 rfl hp rfl (I.kIn _ _ hcode) rfl hvs hfile htop ?_
  obtain ⟨mb, hmb, hbb⟩ := I.mod.blt
  refine PySem.W.ks_loadName_global hk hks (loadGlobal_builtin (env := envF F f s.heap.objs.size) (I.mod.glob.keeps I.bk) msup (hmb.keeps I.bk) ((hbb _ (by decide +kernel)).trans (by rfl)) ⟨rfl, ?_⟩)
  refine wpAny_loadName_free hk hfr (by rw [show (envF F f s.heap.objs.size).cells = F.cl from rfl, hcl]; rfl) ⟨_, I.kIn _ _ hcell, rfl⟩ ?_
  obtain ⟨us0, ut, rfl⟩ : ∃ u0 ut, us = u0 :: ut := by
    cases us with
    | nil =>
      have z := r.length
      rw [hl, hps] at z
      cases z
    | cons u0 ut => exact ⟨_, _, rfl⟩
  have ru : us0 = Value.ref a := by
    cases r with
    | cons rv rt =>
      have e1 := Option.some.inj h0
      subst e1
      exact rv
  subst ru
  refine wpAny_loadName_local hk (S.par _ (by rw [hps]; exact List.mem_cons_self)) (hs1h ▸ hns) (v := .ref a) (zip_look (i := 0) ?nd ?p0 rfl) ?_
  case nd =>
    have q := S.nd.sublist (List.take_sublist (ps.length + 1) N)
    rw [show N.take (ps.length + 1) = ps ++ [("__class__" : Str)] from S.pre] at q
    exact (List.nodup_append.mp q).1
  case p0 => rw [hps]; rfl
  have X1 : K.In s1.heap := I.kIn
  obtain ⟨hh, g, dr, tk, os⟩ := s1
  obtain ⟨oD, hD1, hD2⟩ : ∃ oD, hh.get? D = some oD ∧ oD.data = .cls cdD := by
    unfold PySem.W.clsIn at hD
    split at hD
    · rename_i c d cd' sl ho
      cases hD
      exact ⟨_, X1 _ _ ho, rfl⟩
    · cases hD
  obtain ⟨mA, O, _⟩ := ins_get I.hok hi
  obtain ⟨odi, J, _⟩ := O.look
  refine PySem.ks_wpAny_isType_cls hD1 hD2 ⟨rfl, ?_⟩
  refine PySem.ks_wpAny_call_super hD1 hD2 J.at_ J.cls (fun c e => by cases e) (PySem.W.looks_mroIn X1 hsub) (fun h' eso k => ?_)
  have I1 : Inv (ncx CX P w K mg base N F f A outer s H E) [] (startF N vs [none]) H ⟨h', g, dr, tk, os⟩ := I.kept (t' := tk) k
  have X2 : K.In h' := I1.kIn
  obtain ⟨of, hof, hofc⟩ : ∃ of, h'.get? f2 = some of ∧ of.cls = .type "function" := by
    have ht' : (K.lookup f2).map (·.cls) = some (.type "function") := hty
    cases z : K.lookup f2 with
    | none => rw [z] at ht'; cases ht'
    | some of => rw [z] at ht'; exact ⟨of, X2 _ _ z, Option.some.inj ht'⟩
  obtain ⟨mA1, O1, _⟩ := ins_get I1.hok hi
  obtain ⟨odi1, J1, _⟩ := O1.look
  refine PySem.ks_wpAny_getMethod_super eso (PySem.W.looks_opaque X2 hno) (l₀ := cd.mro) (fun A Q E s k q => wpAny_bind ((PySem.W.looks_clsIn X2 hC) A _ E s k (wpAny_pure q))) rfl X2 hal hof hofc (PySem.W.ks_ne X2 J1 hC) hn ?_
  have I2 := met_new (g := f2) (C := a) I1
  have hb2 : (ncx CX P w K mg base N F f A outer s H E).base.get? h'.objs.size = none := base_none I1 (Nat.le_refl _)
  refine wpAny_mono (callwith_cm (X := ncx CX P w K mg base N F f A outer s H E) I2 hb2 hfn (thn ((ha f A outer s H E).run pos _ _ _ _ _ I2 hq) fun ws s3 ⟨zs, H2, I3, rv, q2⟩ => ⟨⟨pin_at I3, I3.kIn⟩, run_cm G (hr.deeper _) (hx f A outer s H E) I3 rv q2⟩) (hst _) (hpl _)) (fun u s' hs => ?_) fun e s' hs => hs
  obtain ⟨v, H', J, rv, qv⟩ := hs
  exact ⟨v, H', J.os, J.bare, J.base, J.hok, rv, qv⟩
end
end SU
set_option Elab.async false
set_option linter.all false
set_option maxRecDepth 100000
set_option maxHeartbeats 4000000
namespace SU
open PySem PySem.Spec PySem.Calls PyProof.Rows L2 CM LamX NdefX ClX
/-- super().m(x), alone in the text: the name, the method, the argument -/
def supSt : List Stmt → Option (Str × Str × Str)
  | [.Return (some (.Call (.Attribute (.Call (.Name s _) [] [] _) m p) [.Name x _] [] q)) _] => if p.endLine == q.line then some (s, m, x) else none
  | _ => none
theorem supSt_ok {b : List Stmt} {s m x : Str} (h : supSt b = some (s, m, x)) : ∃ p0 p1 p2 p3 p4 p5 : Pos, b = [.Return (some (.Call (.Attribute (.Call (.Name s p0) [] [] p1) m p2) [.Name x p3] [] p4)) p5] ∧ (p2.endLine == p4.line) = true := by
  unfold supSt at h
  split at h
  · split at h
    · rename_i q
      cases h
      exact ⟨_, _, _, _, _, _, rfl, q⟩
    · cases h
  · cases h
theorem sup_ev {p0 p1 p2 p3 p4 : Pos} {m x : Str} (hl : (p2.endLine == p4.line) = true) (env : Env) : eval (.Call (.Attribute (.Call (.Name "super" p0) [] [] p1) m p2) [.Name x p3] [] p4) env = (do
      let ov ← attributeBase (.Call (.Name "super" p0) [] [] p1) m env (eval (.Call (.Name "super" p0) [] [] p1) env)
      standAt p2.atName
      let (f, first) ← holding [ov] (getMethod ov m (do return (← importBound (.Call (.Name "super" p0) [] [] p1) env).getD true))
      callWith p4 f first (backTo p4 (starEach [.Name x p3] env)) []) := by
  have hpos : ∀ o : Expr, methodCallPos true o env p2 p4 = pure p4 := fun o => by
    unfold methodCallPos
    simp [hl]
  conv => lhs; unfold eval
  show (do
      let ov ← attributeBase (.Call (.Name "super" p0) [] [] p1) m env (eval (.Call (.Name "super" p0) [] [] p1) env)
      standAt p2.atName
      let (f, first) ← holding [ov] (calleeOf true (.Call (.Name "super" p0) [] [] p1) env ov m)
      let callPos ← methodCallPos true (.Call (.Name "super" p0) [] [] p1) env p2 p4
      callWith callPos f first (backTo p4 (starEach [.Name x p3] env)) (backToKw p4 (keywordEach [] env))) = _
  simp only [hpos]
  rfl
def supAr (p : Arguments) : Option (Str × Str) := match p with
  | ⟨[], [⟨a, none, _⟩, ⟨b, none, _⟩], none, [], [], none, []⟩ => some (a, b)
  | _ => none
theorem supAr_ok {p : Arguments} {a b : Str} (h : supAr p = some (a, b)) : ∃ q0 q1 : Pos, p = ⟨[], [⟨a, none, q0⟩, ⟨b, none, q1⟩], none, [], [], none, []⟩ := by
  unfold supAr at h
  split at h
  · cases h
    exact ⟨_, _, rfl⟩
  · cases h
def fnAt (K : PySem.W.Frag) (f : Addr) : Option FuncData := match K.lookup f with
  | some ⟨_, _, .func fd, _⟩ => some fd
  | _ => none
theorem fnAt_ok {K : PySem.W.Frag} {f : Addr} {fd : FuncData} (h : fnAt K f = some fd) : ∃ oc od osl, K.lookup f = some ⟨oc, od, .func fd, osl⟩ := by
  unfold fnAt at h
  split at h
  · rename_i e
    cases h
    exact ⟨_, _, _, e⟩
  · cases h
def fileAt (K : PySem.W.Frag) (c : Addr) : Option Str := match K.lookup c with
  | some ⟨_, _, .fields vs, _⟩ => (match (vs[2]? : Option Value) with
    | some (.str z _) => some z
    | _ => none)
  | _ => none
theorem fileAt_ok {K : PySem.W.Frag} {c : Addr} {z : Str} (h : fileAt K c = some z) : ∃ oc od vs osl t, K.lookup c = some ⟨oc, od, .fields vs, osl⟩ ∧ vs[2]? = some (.str z t) := by
  unfold fileAt at h
  split at h
  · rename_i e
    split at h
    · rename_i e2
      cases h
      exact ⟨_, _, _, _, _, e, e2⟩
    · cases h
  · cases h
def cellAt (K : PySem.W.Frag) (c : Addr) : Option Addr := match K.lookup c with
  | some ⟨_, _, .cell (some (.ref D)), _⟩ => some D
  | _ => none
theorem cellAt_ok {K : PySem.W.Frag} {c D : Addr} (h : cellAt K c = some D) : ∃ oc od osl, K.lookup c = some ⟨oc, od, .cell (some (.ref D)), osl⟩ := by
  unfold cellAt at h
  split at h
  · rename_i e
    cases h
    exact ⟨_, _, _, e⟩
  · cases h
/-- how the def ends: its cell, its code object, what else must be nothing -/
def supEnd (fd : FuncData) : Option (Addr × Addr) := match fd with
  | ⟨_, _, _, _, _, g, [(x, cc)], .none, .none, _, _, none, .ref c, _, b⟩ => if decide (x = ("__class__" : Str)) && (decide (g = mainGlobals) && decide (b = builtinsNs)) then some (cc, c) else none
  | _ => none
def bodyOf (fd : FuncData) : List Stmt := match fd.body with
  | .stmts b => b
  | _ => []
theorem supEnd_ok {fd : FuncData} {cc c : Addr} (h : supEnd fd = some (cc, c)) (hb : bodyOf fd ≠ []) : ∃ doc pm ct, fd = PySem.W.fnX fd.name fd.qualname fd.params (bodyOf fd) fd.scope [(("__class__" : Str), cc)] .none .none doc pm none (.ref c) ct := by
  unfold supEnd at h
  split at h
  · split at h
    · rename_i q
      simp only [Bool.and_eq_true, decide_eq_true_eq] at q
      obtain ⟨rfl, rfl, rfl⟩ := q
      cases h
      rename_i bd _ _ _ _
      unfold bodyOf at hb ⊢
      first
        | (cases bd with
          | stmts b => exact ⟨_, _, _, rfl⟩
          | _ => exact absurd rfl hb)
    · cases h
  · cases h
/-- the whole word: C's own m(self, x) says super().m(x), D is the class of the text, f2 the def that is meant -/
def supB (F0 : Str) (K : PySem.W.Frag) (C D f2 : Addr) (m x : Str) : Bool := match fnAt K (He.ma K C m) with
  | some fd => (match supEnd fd with
    | some (cc, c) => decide (supSt (bodyOf fd) = some (("super" : Str), m, x)) && (decide (supAr fd.params = some (("self" : Str), x)) && (nscB ["self", x, "__class__"] ["self", x] ["__class__"] fd.scope && (decide (fd.scope.names.lookup ("super" : Str) = some .globalImplicit) &&
      (PySem.W.codeIn K (.ref c) fd.qualname && (decide (fileAt K c = some F0) && (decide (cellAt K cc = some D) && ((PySem.W.clsIn K D).isSome && (decide (PySem.W.mroIn K C (.ref D) = some true) && ((match PySem.W.clsIn K C with
        | some cd => decide (PySem.W.alongIn K m ((cd.mro.dropWhile (· != .ref D)).drop 1) = some (some (.ref f2)))
        | none => false) && (decide (PySem.W.typeIn K (.ref f2) = some (.type "function")) && (decide (PySem.W.nsIn K cStatics "thirdparty.any" = some none) && PySem.W.fnIn K f2)))))))))))
    | none => false)
  | none => false
structure SupOk (F0 : Str) (P : Program) : Prop where
  file : ((P.main.file : Str) == F0) = true
  top : (P.main.scope.names.lookup ("super" : Str)).isSome = false
section
variable {P : Program} {w : World} {K : PySem.W.Frag} {mg : Str → Option Value} {base : Heap} {CX : CXT} {k : Nat}
theorem supB_ok {F0 : Str} {C D f2 : Addr} {m x : Str} (h : supB F0 K C D f2 m x = true) (O : SupOk F0 P) : ∃ (F : NF) (fd : FuncData) (p0 p1 p2 p3 p4 p5 q0 q1 : Pos), SupF P K C D (He.ma K C m) f2 m F fd ∧
    F.body = [.Return (some (.Call (.Attribute (.Call (.Name "super" p0) [] [] p1) m p2) [.Name x p3] [] p4)) p5] ∧ (p2.endLine == p4.line) = true ∧ F.params = ⟨[], [⟨"self", none, q0⟩, ⟨x, none, q1⟩], none, [], [], none, []⟩ ∧ NScope ["self", x, "__class__"] ["self", x] ["__class__"] F.scope ∧ F.scope.names.lookup ("super" : Str) = some .globalImplicit := by
  unfold supB at h
  split at h
  · rename_i fd e
    split at h
    · rename_i cc c e2
      simp only [Bool.and_eq_true, decide_eq_true_eq] at h
      obtain ⟨h1, h2, h3, h4, h5, h6, h7, h8, h9, h10, h11, h12, h13⟩ := h
      obtain ⟨p0, p1, p2, p3, p4, p5, eb, el⟩ := supSt_ok h1
      obtain ⟨q0, q1, ep⟩ := supAr_ok h2
      obtain ⟨doc, pm, ct, ef⟩ := supEnd_ok e2 (by rw [eb]; exact List.cons_ne_nil _ _)
      obtain ⟨oc, od, osl, lk⟩ := fnAt_ok e
      obtain ⟨ccl, cdd, vs, ccs, tf, lc, hv⟩ := fileAt_ok h6
      obtain ⟨cl, cld, csl, lcell⟩ := cellAt_ok h7
      obtain ⟨cdD, hD⟩ := Option.isSome_iff_exists.mp h8
      split at h10
      · rename_i cd hC
        have h10 := of_decide_eq_true h10
        refine ⟨⟨fd.name, fd.qualname, fd.params, bodyOf fd, fd.scope, [("__class__", cc)], c⟩, fd, p0, p1, p2, p3, p4, p5, q0, q1, ⟨oc, od, doc, pm, ct, osl, cc, ccl, cdd, vs, F0, tf, ccs, cl, cld, csl, cdD, cd, ef, ?_, rfl, h5, lc, hv, O.file, lcell, hD, h9, hC, h10, h11, h12, h13⟩, eb, el, ep, nscope_by h3, h4⟩
        rw [lk]
        exact congrArg some (congrArg (fun z => (⟨oc, od, .func z, osl⟩ : Obj)) ef)
      · cases h10
    · cases h
  · cases h
end
section
variable {P : Program} {w : World} {K : PySem.W.Frag} {mg : Str → Option Value} {base : Heap} {k : Nat}
/-- sides(self, labels), as the class above tells them -/
def spSides (C : Addr) (sp : Sp) : Sp := fun vs H Q E => ∃ a v dx fs, vs = [.ref a, v] ∧ H a = some (.ins C dx fs) ∧ sp [.ref a, v] H Q E
theorem ok_supSides {F0 : Str} {C D f2 : Addr} {fd2 : FuncData} {sp : Sp} (h : supB F0 K C D f2 "sides" "labels" = true) (O : SupOk F0 P) (msup : mg "super" = none) (G : FnOk P w K mg base CX0 k f2 fd2 ["self", "labels"] sp) (hb2 : Binds K fd2 ["self", "labels"] []) :
    ∃ fd, FnOk P w K mg base CX0 (k + 1) (He.ma K C "sides") fd ["self", "labels"] (spSides C sp) ∧ Binds K fd ["self", "labels"] [] := by
  obtain ⟨F, fd, p0, p1, p2, p3, p4, p5, q0, q1, Z, hb, he, hp, S, hs⟩ := supB_ok h O
  refine ⟨fd, FnOk.imp (ok_super (t := tCons (tVar 1) tNil) (ps' := ["labels"]) S Z rfl (by rw [hp]; rfl) hs hb O.top msup (by decide +kernel) (fnR_of G hb2) (fun g A outer s H E => pa_cons (pe_var (i := 1) rfl (.inl (S.par _ (by decide +kernel)))) pa_nil) (fun _ _ _ _ _ _ => pass0) (fun _ => rfl) (fun _ => rfl) (sup_ev he)) (fun vs H Q E hh => ?_), ?_⟩
  · obtain ⟨a, v, dx, fs, rfl, hi, q⟩ := hh
    exact ⟨rfl, a, dx, fs, rfl, hi, v, rfl, q⟩
  · obtain ⟨oc, od, doc, pm, ct, osl, cc, ccl, cdd, cvs, file, tf, ccs, cl, cld, csl, cdD, cd, rfl, lk, _⟩ := Z.ex
    refine Binds.all fun us hl => ?_
    match us, hl with
    | [u0, u1], _ =>
      obtain ⟨nm, qual, params, body, scope, cl, c⟩ := F
      dsimp only at hp
      subst hp
      rfl
end
end SU
set_option Elab.async false
set_option linter.all false
set_option maxRecDepth 100000
set_option maxHeartbeats 4000000
namespace PR
open PySem PySem.Spec PySem.Calls PyProof.Rows L2 CM SU
/-- return x.f -/
def getSt : List Stmt → Option (Str × Str)
  | [.Return (some (.Attribute (.Name x _) f _)) _] => some (x, f)
  | _ => none
theorem getSt_ok {b : List Stmt} {x f : Str} (h : getSt b = some (x, f)) : ∃ p1 p2 p3 : Pos, b = [.Return (some (.Attribute (.Name x p1) f p2)) p3] := by
  unfold getSt at h
  split at h
  · cases h
    exact ⟨_, _, _, rfl⟩
  · cases h
def oneAr (p : Arguments) : Option Str := match p with
  | ⟨[], [⟨a, none, _⟩], none, [], [], none, []⟩ => some a
  | _ => none
theorem oneAr_ok {p : Arguments} {a : Str} (h : oneAr p = some a) : ∃ q0 : Pos, p = ⟨[], [⟨a, none, q0⟩], none, [], [], none, []⟩ := by
  unfold oneAr at h
  split at h
  · cases h
    exact ⟨_, rfl⟩
  · cases h
def flatEnd (fd : FuncData) : Bool := match fd with
  | ⟨_, _, _, _, _, g, [], .none, .none, _, _, _, _, _, b⟩ => decide (g = mainGlobals) && decide (b = builtinsNs)
  | _ => false
theorem flatEnd_ok {fd : FuncData} (h : flatEnd fd = true) (hb : bodyOf fd ≠ []) : ∃ doc pm an ct, fd = PySem.W.fnOf fd.name fd.qualname fd.params (bodyOf fd) fd.scope .none .none doc pm an fd.code ct := by
  unfold flatEnd at h
  split at h
  · simp only [Bool.and_eq_true, decide_eq_true_eq] at h
    obtain ⟨rfl, rfl⟩ := h
    rename_i bd _ _ _ _ _ _
    unfold bodyOf at hb ⊢
    first
      | (cases bd with
        | stmts b => exact ⟨_, _, _, _, rfl⟩
        | _ => exact absurd rfl hb)
  · cases h
def fscB (N ps : List Str) (sc : Scope) : Bool := decide (sc.kind = .function) && (!sc.isCoroutine && (!sc.isGenerator && (decide N.Nodup && (decide (N.take ps.length = ps) && (ps.all (fun x => decide (sc.names.lookup x = some .local)) && sc.names.all (fun y => !decide (y.2 = .free)))))))
theorem fscB_ok {N ps : List Str} {sc : Scope} (h : fscB N ps sc = true) : FnScope N ps sc := by
  unfold fscB at h
  simp only [Bool.and_eq_true, Bool.not_eq_true', decide_eq_true_eq, List.all_eq_true, decide_eq_false_iff_not] at h
  obtain ⟨h1, h2, h3, h4, h5, h6, h7⟩ := h
  exact ⟨h1, h2, h3, h4, h5, fun x hx => .inl (h6 x hx), h7⟩
/-- the class at C has f as a property whose getter returns self.g -/
def propB (K : PySem.W.Frag) (C : Addr) (f g : Str) : Bool := match PySem.W.findIn K (.ref C) f with
  | some (some (.ref p)) => He.eqO (PySem.W.specialIn K (.ref p) "__get__") (some (some (.builtin "property.__get__"))) && (decide (PySem.W.takesIn K (.ref p) = some true) && (match PySem.W.recIn K p "property" with
    | some (.ref q :: _) => (match fnAt K q with
      | some fd => decide (getSt (bodyOf fd) = some (("self" : Str), g)) && (decide (oneAr fd.params = some ("self" : Str)) && (flatEnd fd && (fscB ["self"] ["self"] fd.scope && PySem.W.codeIn K fd.code fd.qualname)))
      | none => false)
    | _ => false))
  | _ => false
section
variable {P : Program} {w : World} {K : PySem.W.Frag} {mg : Str → Option Value} {base : Heap} {CX : CXT}
theorem propB_ok {C : Addr} {f g : Str} (h : propB K C f g = true) (c : Cls K C) (n : NoAttr K C g) : ∃ (p q : Addr) (fd : FuncData), PropOf K C f p q ∧ FnOk P w K mg base CX 1 q fd ["self"] (getSp C g) ∧ Binds K fd ["self"] [] := by
  unfold propB at h
  split at h
  · rename_i p e
    obtain ⟨h1, h⟩ := He.ba h
    obtain ⟨h2, h⟩ := He.ba h
    split at h
    · rename_i q rest e2
      split at h
      · rename_i fd e3
        simp only [Bool.and_eq_true, decide_eq_true_eq] at h
        obtain ⟨h3, h4, h5, h6, h7⟩ := h
        obtain ⟨p1, p2, p3, eb⟩ := getSt_ok h3
        obtain ⟨q0, ep⟩ := oneAr_ok h4
        obtain ⟨doc, pm, an, ct, ef⟩ := flatEnd_ok h5 (by rw [eb]; exact List.cons_ne_nil _ _)
        obtain ⟨oc, od, osl, lk⟩ := fnAt_ok e3
        rw [ef] at lk
        refine ⟨p, q, _, ⟨e, He.eqO_ok h1, of_decide_eq_true (by simpa using h2), ⟨rest, e2⟩⟩, fn_getter lk h7 (fscB_ok h6) rfl eb c n, ?_⟩
        refine Binds.all fun us hl => ?_
        match us, hl with
        | [u0], _ =>
          rw [ep]
          rfl
      · cases h
    · cases h
  · cases h
end
end PR
set_option Elab.async false
set_option linter.all false
set_option maxRecDepth 100000
set_option maxHeartbeats 4000000
namespace BI
open PySem PySem.Spec PySem.Calls PyProof.Rows L2 CM
/-! ### t[::-1], a tuple -/
section
variable {prog : Program} {w : World} {A : Around} {E : Value → Shared → Prop} {s : Shared}
theorem adjust_rev (n : Nat) : Builtin.Slice.sliceAdjust none none (-1) (n : Int) = ((n : Int) - 1, -1) := by
  first
  | rfl
  | (unfold Builtin.Slice.sliceAdjust; simp)
theorem places_rev (n : Nat) : Builtin.Slice.slicePlaces ((n : Int) - 1) (-1) (-1) = n := by
  unfold Builtin.Slice.slicePlaces
  rw [if_neg (by decide)]
  split
  · rw [show (-(-1) : Int) = 1 by decide, Int.ediv_one]
    omega
  · omega
theorem pick_rev (xs : Array Value) : ((List.range xs.size).filterMap fun (k : Nat) => xs[(((xs.size : Int) - 1) + (k : Int) * -1).toNat]?).toArray = xs.toList.reverse.toArray := by
  have e : (fun (k : Nat) => xs[(((xs.size : Int) - 1) + (k : Int) * -1).toNat]?) = (fun k : Nat => xs[k]?) ∘ fun k : Nat => xs.size - 1 - k := by
    funext k
    show xs[_]? = xs[xs.size - 1 - k]?
    have : (((xs.size : Int) - 1) + (k : Int) * -1).toNat = xs.size - 1 - k := by omega
    rw [this]
  rw [e, ← List.filterMap_map, PySem.W.krv_range, List.filterMap_reverse, PySem.W.krv_all]
theorem sliceApplied_rev {sl : Addr} {vl vu vs : Value} {n : Nat} {Q : Int × Int × Nat → Shared → Prop} (hs : s.heap.IsSliceOf sl vl vu vs) (pl : IsPart vl none) (pu : IsPart vu none) (ps : IsPart vs (some (-1)))
    (h : Q ((n : Int) - 1, -1, n) s) : wpAny (model prog w) A (Builtin.Slice.sliceApplied (.ref sl) (pure (n : Int))) Q E s := by
  obtain ⟨os, hos, hcs, hds⟩ := id hs
  unfold Builtin.Slice.sliceApplied Builtin.Slice.sliceFields
  refine wpAny_bind (wpAny_bind (wpAny_field hos hds (x := vl) rfl (wpAny_bind (wpAny_field hos hds (x := vu) rfl (wpAny_bind (wpAny_field hos hds (x := vs) rfl (wpAny_pure ?_)))))))
  refine wpAny_bind (HT.slicePart_ ps ?_)
  show wpAny _ _ (if ((-1 : Int) == 0) = true then _ else _) _ _ s
  rw [if_neg (by decide)]
  refine wpAny_bind (HT.slicePart_ pl (wpAny_bind (HT.slicePart_ pu (wpAny_bind (wpAny_pure ?_)))))
  show wpAny _ _ (match Builtin.Slice.sliceAdjust none none (-1) (n : Int) with | (lo, hi) => pure (lo, (-1 : Int), Builtin.Slice.slicePlaces lo hi (-1))) _ _ s
  rw [adjust_rev n]
  show wpAny _ _ (pure ((n : Int) - 1, (-1 : Int), Builtin.Slice.slicePlaces ((n : Int) - 1) (-1) (-1))) _ _ s
  rw [places_rev]
  exact wpAny_pure h
theorem getItem_tuple_rev {t sl : Addr} {items : Array Value} {vl vu vs : Value} {Q : Value → Shared → Prop} (ht : IsTup s.heap t items) (hs : s.heap.IsSliceOf sl vl vu vs) (pl : IsPart vl none) (pu : IsPart vu none) (ps : IsPart vs (some (-1)))
    (h : Q (.ref s.heap.objs.size) { s with heap := s.heap.push { cls := .type "tuple", data := .seq items.toList.reverse.toArray } }) (hsz : items.size ≤ sizeLine) : wpAny (model prog w) A (getItem (.ref t) (.ref sl)) Q E s := by
  have htake : sizeOk (.seq items.toList.reverse.toArray) := by
    show items.toList.reverse.toArray.size ≤ sizeLine
    rw [List.size_toArray, List.length_reverse, Array.length_toList]
    exact hsz
  obtain ⟨os, hos, hcs, hds⟩ := id hs
  have hTs : s.TypeIs (.ref sl) "slice" := ⟨os, hos, hcs⟩
  unfold getItem
  try with_reducible refine wpAny_holding ?_
  first | refine wpAny_bind (wpAny_pure ?_) | skip
  refine wpAny_bind (wpAny_sequenceKey ht.typeIs (by decide) ?_)
  refine wpAny_bind (wpAny_callSpecial?_slot (name := Str.ofString "__getitem__") ht.typeIs PyProof.Rows.slot_tuple_getitem
    (wpAny_call_entry PyProof.Rows.slot_tuple_getitem ht.typeIs entry_tuple_getitem ?_ (args_tuple_getitem _ _)))
  show wpAny _ _ (Builtin.Tuple.tupleItemsOf (.ref t) >>= _) _ _ s
  refine wpAny_bind (tupleItemsOf_ ht ?_)
  refine wpAny_bind (wpAny_typeOf hTs ?_)
  rw [if_pos (by decide)]
  refine wpAny_bind (sliceApplied_rev hs pl pu ps ?_)
  have hno : ¬ ((((items.size : Int) - 1) == 0 && (-1 : Int) == 1 && items.size == items.size) = true) := by
    intro q
    rw [Bool.and_eq_true, Bool.and_eq_true] at q
    exact absurd q.1.2 (by decide)
  show wpAny _ _ (if (((items.size : Int) - 1) == 0 && (-1 : Int) == 1 && items.size == items.size) = true then _ else _) _ _ s
  rw [if_neg hno, pick_rev]
  first
    | exact wpAny_bind (m := Builtin.Tuple.tupleExact _) (wpAny_newObj_type (wpAny_pure ⟨_, rfl, wpAny_pure h⟩) htake)
    | exact wpAny_bind (m := Builtin.Tuple.tupleExact _) (wpAny_newObj_type (wpAny_bind (wpAny_pure (wpAny_pure ⟨_, rfl, wpAny_pure h⟩))) htake)
    | exact wpAny_bind (wpAny_bind (m := Builtin.Tuple.tupleExact _) (wpAny_newObj_type (wpAny_pure (wpAny_pure ⟨_, rfl, wpAny_pure h⟩)) htake))
    | exact wpAny_bind (wpAny_bind (m := Builtin.Tuple.tupleExact _) (wpAny_newObj_type (wpAny_pure ⟨_, rfl, wpAny_pure h⟩) htake))
end
section
variable {X : Cx}
def tRevT (K : PySem.W.Frag) (te : TE) : TE := fun σ H Q => te σ H fun x H1 => ∃ a xs, x = .ref a ∧ SqT K H1 a xs ∧ ∀ p, H1 p = none → Q (.ref p) (upd H1 p (.tup xs.reverse))
theorem pe_revT {e : Expr} {te : TE} {k : Nat} {p1 p2 p3 pos : Pos} (he : PE X e te) : PE X (.Subscript e (.Slice none none (some (.UnaryOp .USub (.Constant (.int 1) k p1) p2)) p3) pos) (tRevT X.K te) := by
  refine ⟨fun pins s σ H Q I h => ?_⟩
  refine Subscript_ (thn (he.run pins s σ H _ I h) fun v s1 ⟨x, H1, I1, r1, q1⟩ => ?_)
  obtain ⟨a, xs, ex, hx, q⟩ := q1
  subst ex
  cases r1
  have hst : PO X (some (.UnaryOp .USub (.Constant (.int 1) k p1) p2)) (tPart (tUn (rU fun i => .int (-i)) (tC (.int 1)))) := po_some (pe_un un_neg pe_int)
  refine wpAny_Slice (thn (po_none.run pins s1 σ H1 (fun o H2 => o = none ∧ H2 = H1) I1 ⟨rfl, rfl⟩) fun vl s2 ⟨l, H2, I2, pl, el, e2⟩ => ?_)
  subst el e2
  refine thn (po_none.run pins s2 σ H2 (fun o H3 => o = none ∧ H3 = H2) I2 ⟨rfl, rfl⟩) fun vu s3 ⟨u, H3, I3, pu, eu, e3⟩ => ?_
  subst eu e3
  refine thn (hst.run pins s3 σ H3 (fun o H4 => o = some (-1) ∧ H4 = H3) I3 ⟨1, rfl, -1, rfl, rfl, rfl⟩) fun vs s4 ⟨o, H4, I4, ps, eo, e4⟩ => ?_
  subst eo e4
  have I5 : Inv X pins σ H4 { s4 with heap := s4.heap.push { cls := .type "slice", data := .fields #[vl, vu, vs] } } := I4.kept (t' := s4.toks) fun b ob q => Heap.get?_push_of_some _ q
  obtain ⟨its, r, ht, hz⟩ := I5.tuple hx
  have hlen := r.length
  show wpAny (model X.prog X.w) X.A (subscriptTail e (.Slice none none (some (.UnaryOp .USub (.Constant (.int 1) k p1) p2)) p3) (.ref a) (.ref s4.heap.objs.size)) (EP X pins σ Q) X.xe { s4 with heap := s4.heap.push { cls := .type "slice", data := .fields #[vl, vu, vs] } }
  refine tail_any (ops := [.ref a, .ref s4.heap.objs.size]) ht.typeIs (PyProof.Rows.slot_tuple_getitem.lookup) ?_ (by with_unfolding_all rfl)
  refine getItem_tuple_rev ht (Heap.IsSliceOf.new _ vl vu vs) pl pu ps ?_ (by rw [List.size_toArray]; omega)
  refine ⟨.ref _, _, I5.laid (t' := s4.toks) (o := .tup xs.reverse) (fun b ob q => Heap.get?_push_of_some _ q) (Nat.le_refl _) ?_, rfl, q _ (I5.hok.fresh (Nat.le_refl _))⟩
  exact ⟨by rw [List.length_reverse]; exact hz, _, r.reverse, IsTup.new _ _⟩
/-! ### | & ^ of naturals -/
theorem bitNot_not (x : Int) : Builtin.bitNot (Builtin.bitNot x) = x := by
  unfold Builtin.bitNot
  omega
theorem bitAnd_nat (a b : Nat) : Builtin.bitAnd (a : Int) (b : Int) = ((a &&& b : Nat) : Int) := by
  unfold Builtin.bitAnd
  rw [decide_eq_true (Int.natCast_nonneg a), decide_eq_true (Int.natCast_nonneg b)]
  simp
theorem bitOr_nat (a b : Nat) : Builtin.bitOr (a : Int) (b : Int) = ((a ||| b : Nat) : Int) := by
  have h : ∀ n : Nat, ¬ (0 : Int) ≤ Builtin.bitNot (n : Int) := fun n => by
    unfold Builtin.bitNot
    omega
  unfold Builtin.bitOr Builtin.bitAnd
  rw [decide_eq_false (h a), decide_eq_false (h b)]
  simp only [bitNot_not]
  simp
def rN2 (f : Nat → Nat → V) : R2 := fun x y H Q => ∃ a b : Nat, x = .int (a : Int) ∧ y = .int (b : Int) ∧ Q (f a b) H
theorem op_orN : OpR X (binaryOp .BitOr) (rN2 fun a b => .int ((a ||| b : Nat) : Int)) := by
  intro pns s σ H x y v u Q I rx ry h
  obtain ⟨a, b, rfl, rfl, q⟩ := h
  exact op_or pns s σ H _ _ v u Q I rx ry ⟨_, _, rfl, rfl, by dsimp only; rw [bitOr_nat]; exact q⟩
theorem op_andN : OpR X (binaryOp .BitAnd) (rN2 fun a b => .int ((a &&& b : Nat) : Int)) := by
  intro pns s σ H x y v u Q I rx ry h
  obtain ⟨a, b, rfl, rfl, q⟩ := h
  exact op_and pns s σ H _ _ v u Q I rx ry ⟨_, _, rfl, rfl, by dsimp only; rw [bitAnd_nat]; exact q⟩
/-- a ^ b where a has no bit that b lacks -/
def rXor : R2 := fun x y H Q => ∃ a b c : Nat, x = .int (a : Int) ∧ y = .int (b : Int) ∧ a ||| b = b ∧ a &&& b = a ∧ b = a + c ∧ Q (.int (c : Int)) H
theorem op_xorN : OpR X (binaryOp .BitXor) rXor := by
  intro pns s σ H x y v u Q I rx ry h
  obtain ⟨a, b, c, rfl, rfl, h1, h2, h3, q⟩ := h
  refine op_xor pns s σ H _ _ v u Q I rx ry ⟨_, _, rfl, rfl, ?_⟩
  have e : Builtin.bitXor (a : Int) (b : Int) = (c : Int) := by
    unfold Builtin.bitXor
    rw [bitOr_nat, bitAnd_nat, h1, h2]
    omega
  dsimp only
  rw [e]
  exact q
end
section
variable {X : Cx} {K : PySem.W.Frag}
theorem op_inK (hK : X.K = K := by rfl) : OpR X (compareOp .In) (rIn K false) := by
  subst hK
  exact op_in_seq
theorem op_notInK (hK : X.K = K := by rfl) : OpR X (compareOp .NotIn) (rIn K true) := by
  subst hK
  exact op_notIn_seq
theorem op_neNilK (hu : X.A.units + 64 < cLine) (hK : X.K = K := by rfl) : OpR X (compareOp .NotEq) (rNeNil K) := by
  subst hK
  exact op_neNil hu
end
theorem pi_tupK {X : Cx} {K : PySem.W.Frag} {tg l : Expr} {tl : TE} (hl : PE X l tl) (hK : X.K = K := by rfl) : PI X tg l (iTup K tl) := by
  subst hK
  exact pi_tup hl
theorem pi_listK {X : Cx} {K : PySem.W.Frag} {tg l : Expr} {tl : TE} (hl : PE X l tl) (hK : X.K = K := by rfl) : PI X tg l (iList K tl) := by
  subst hK
  exact pi_list hl
/-- the scope of a list comprehension; the value of a def that only returns -/
def lcSc : Expr → Scope
  | .ListComp _ _ sc _ => sc
  | _ => { kind := .module, names := [], isGenerator := false, isCoroutine := false, more := [] }
def ret0 (st : Stmt) : Expr := match defBody st with
  | .Return (some e) _ :: _ => e
  | _ => .Name "" ⟨0, 0, 0, 0⟩
theorem seqT {K : PySem.W.Frag} {H H' : Hp} {a : Addr} {xs : List V} (e : Same H H') (h : SqT K H a xs) : SqT K H' a xs := by
  rcases h with (h | ⟨o, h⟩) | h
  · exact .inl (.inl (e _ _ h))
  · exact .inl (.inr ⟨o, e _ _ h⟩)
  · exact .inr h
/-! ### masks -/
def mk (f : Nat → Bool) : Nat → Nat
  | 0 => 0
  | w + 1 => mk f w + if f w then 2 ^ w else 0
theorem mk_lt (f : Nat → Bool) : ∀ w, mk f w < 2 ^ w
  | 0 => Nat.one_pos
  | w + 1 => by
    have h := mk_lt f w
    rw [Nat.pow_succ]
    unfold mk
    split <;> omega
theorem mk_bit (f : Nat → Bool) (k : Nat) : ∀ w, (mk f w).testBit k = (decide (k < w) && f k)
  | 0 => by simp [mk]
  | w + 1 => by
    have ih := mk_bit f k w
    have h := mk_lt f w
    unfold mk
    by_cases hw : f w = true
    · rw [if_pos hw, Nat.add_comm]
      by_cases e : k = w
      · subst e
        rw [Nat.testBit_two_pow_add_eq, Nat.testBit_lt_two_pow h, hw]
        simp
      · rcases Nat.lt_or_gt_of_ne e with g | g
        · rw [Nat.testBit_two_pow_add_gt g, ih]
          simp [show k < w + 1 by omega, g]
        · have e2 : ¬ k < w + 1 := by omega
          rw [Nat.testBit_lt_two_pow (Nat.lt_of_lt_of_le (show 2 ^ w + mk f w < 2 ^ (w + 1) by rw [Nat.pow_succ]; omega) (Nat.pow_le_pow_right (by decide) (show w + 1 ≤ k by omega)))]
          simp [e2]
    · rw [if_neg hw, Nat.add_zero, ih]
      by_cases e : k = w
      · subst e
        simp [hw]
      · simp [show (k < w) ↔ (k < w + 1) by omega]
theorem mk_ext {f g : Nat → Bool} : ∀ {w : Nat}, (∀ k, k < w → f k = g k) → mk f w = mk g w
  | 0, _ => rfl
  | w + 1, h => by
    unfold mk
    rw [mk_ext fun k hk => h k (by omega), h w (by omega)]
theorem mk_or (f g : Nat → Bool) (w : Nat) : mk f w ||| mk g w = mk (fun k => f k || g k) w := by
  apply Nat.eq_of_testBit_eq
  intro k
  rw [Nat.testBit_or, mk_bit, mk_bit, mk_bit]
  cases decide (k < w) <;> simp
theorem mk_and (f g : Nat → Bool) (w : Nat) : mk f w &&& mk g w = mk (fun k => f k && g k) w := by
  apply Nat.eq_of_testBit_eq
  intro k
  rw [Nat.testBit_and, mk_bit, mk_bit, mk_bit]
  cases decide (k < w) <;> simp
theorem mk_put {f : Nat → Bool} {w j : Nat} (hj : j < w) : mk f w ||| 2 ^ j = mk (fun k => f k || decide (k = j)) w := by
  apply Nat.eq_of_testBit_eq
  intro k
  rw [Nat.testBit_or, mk_bit, mk_bit, Nat.testBit_two_pow]
  by_cases e : j = k
  · subst e
    simp [hj]
  · simp [e, Ne.symm e]
theorem mk_none {w : Nat} : mk (fun _ => false) w = 0 := by
  induction w with
  | zero => rfl
  | succ w ih =>
    unfold mk
    rw [ih]
    rfl
/-- the part that g has more -/
theorem mk_more {f g : Nat → Bool} (h : ∀ k, f k = true → g k = true) : ∀ w, mk g w = mk f w + mk (fun k => g k && !f k) w
  | 0 => rfl
  | w + 1 => by
    have ih := mk_more h w
    unfold mk
    rw [ih]
    cases hf : f w with
    | true =>
      rw [h w hf]
      simp
      omega
    | false =>
      cases hg : g w <;> simp <;> omega
theorem mk_eq {f g : Nat → Bool} {w : Nat} : mk f w = mk g w ↔ ∀ k, k < w → f k = g k := by
  refine ⟨fun e k hk => ?_, mk_ext⟩
  have z := congrArg (fun n : Nat => n.testBit k) e
  simpa [mk_bit, hk] using z
/-! ### how many -/
def cnt (f : Nat → Bool) (w : Nat) : Nat := ((List.range w).filter f).length
theorem cnt_succ (f : Nat → Bool) (w : Nat) : cnt f (w + 1) = cnt f w + if f w then 1 else 0 := by
  unfold cnt
  rw [List.range_succ, List.filter_append, List.length_append]
  by_cases h : f w = true
  · rw [if_pos h, List.filter_cons_of_pos (p := f) h]
    rfl
  · rw [if_neg h, List.filter_cons_of_neg (p := f) h]
    rfl
theorem cnt_ext {f g : Nat → Bool} : ∀ {w : Nat}, (∀ k, k < w → f k = g k) → cnt f w = cnt g w
  | 0, _ => rfl
  | w + 1, h => by rw [cnt_succ, cnt_succ, cnt_ext fun k hk => h k (by omega), h w (by omega)]
theorem cnt_more {f g : Nat → Bool} (h : ∀ k, f k = true → g k = true) : ∀ w, cnt g w = cnt f w + cnt (fun k => g k && !f k) w
  | 0 => rfl
  | w + 1 => by
    have ih := cnt_more h w
    rw [cnt_succ, cnt_succ, cnt_succ, ih]
    cases hf : f w with
    | true =>
      rw [h w hf]
      simp
      omega
    | false =>
      cases hg : g w <;> simp <;> omega
theorem cnt_up {f : Nat → Bool} {w : Nat} (h : ∀ k, w ≤ k → f k = false) : ∀ d, cnt f (w + d) = cnt f w
  | 0 => rfl
  | d + 1 => by
    rw [← Nat.add_assoc, cnt_succ, cnt_up h d, h (w + d) (by omega)]
    rfl
theorem cnt_le {f : Nat → Bool} {w v : Nat} (hw : ∀ k, w ≤ k → f k = false) (hv : ∀ k, v ≤ k → f k = false) : cnt f w = cnt f v := by
  rcases Nat.le_total w v with h | h
  · have z := cnt_up hw (v - w)
    rw [show w + (v - w) = v by omega] at z
    exact z.symm
  · have z := cnt_up hv (w - v)
    rw [show v + (w - v) = w by omega] at z
    exact z
/-- the bits of a mask, counted by any length that is enough -/
theorem cnt_mk {f : Nat → Bool} {w L : Nat} (hL : mk f w < 2 ^ L) : cnt (fun k => (mk f w).testBit k) L = cnt f w := by
  rw [cnt_le (w := L) (v := w) (fun k hk => Nat.testBit_lt_two_pow (Nat.lt_of_lt_of_le hL (Nat.pow_le_pow_right (by decide) hk))) fun k hk => by rw [mk_bit, decide_eq_false (by omega)]; rfl]
  exact cnt_ext fun k hk => by rw [mk_bit, decide_eq_true hk]; rfl
/-- a mask as a sum -/
theorem mk_sum (f : Nat → Bool) : ∀ w, (((List.range w).filter f).map fun k => 2 ^ k).sum = mk f w
  | 0 => rfl
  | w + 1 => by
    rw [List.range_succ, List.filter_append, List.map_append, List.sum_append, mk_sum f w]
    show _ = mk f w + if f w then 2 ^ w else 0
    by_cases h : f w = true
    · rw [if_pos h, List.filter_cons_of_pos (p := f) h]
      simp
    · rw [if_neg h, List.filter_cons_of_neg (p := f) h]
      simp
end BI
set_option Elab.async false
set_option linter.all false
set_option maxRecDepth 100000
set_option maxHeartbeats 4000000
namespace OX
open PySem PySem.Spec PyProof.Rows L2 CM
def oexB (K : PySem.W.Frag) (C : Addr) : Bool := (match K.lookup C with
    | some ⟨.type "type", _, .cls cd, sl⟩ => (match cd.mro, sl.toList with
      | .ref C' :: bm, [_, _, _, _, some (.builtin n), _] => decide (C' = C) && (decide (n = "ValueError.__new__") && (!cd.hasDel && (cd.hasDict && PySem.HandSPX.refsVE bm)))
      | _, _ => false)
    | _ => false) && (He.eqO (PySem.W.findIn K (.ref C) "__setattr__") (some (some (.builtin "object.__setattr__"))) && (decide (PySem.W.subIn K (.ref C) (.type "BaseException") = some true) &&
      (decide (PySem.W.typeIn K (.ref C) = some (.type "type")) && PySem.W.keepIn K (.ref C))))
theorem oexB_ok {K : PySem.W.Frag} {C : Addr} (h : oexB K C = true) : OexC K C := by
  obtain ⟨h1, h⟩ := He.ba h
  obtain ⟨h2, h⟩ := He.ba h
  obtain ⟨h3, h⟩ := He.ba h
  obtain ⟨h4, h5⟩ := He.ba h
  refine ⟨?_, He.eqO_ok h2, of_decide_eq_true h3, of_decide_eq_true h4, h5⟩
  split at h1
  · rename_i dd cd sl ho
    split at h1
    · rename_i C' bm k0 k1 k2 k3 n k5 hm hs
      obtain ⟨g1, h1⟩ := He.ba h1
      obtain ⟨g2, h1⟩ := He.ba h1
      obtain ⟨g3, h1⟩ := He.ba h1
      obtain ⟨g4, g5⟩ := He.ba h1
      obtain ⟨nm, bs, mro, ns, qn, hd, sn, sb, ab, col, del⟩ := cd
      dsimp only at hm g3 g4
      subst hm g4
      obtain rfl : C' = C := of_decide_eq_true g1
      obtain rfl : n = "ValueError.__new__" := of_decide_eq_true g2
      obtain rfl : del = false := by
        cases del
        · rfl
        · cases g3
      obtain rfl : sl = #[k0, k1, k2, k3, some (.builtin "ValueError.__new__"), k5] := by
        rw [← Array.toArray_toList (xs := sl), hs]
      exact ⟨_, _, _, _, _, _, _, _, _, _, _, _, _, _, _, ho, g5⟩
    · cases h1
  · cases h1
/-- an own error whose __init__ stores its one argument as f -/
def errB (K : PySem.W.Frag) (C : Addr) (f : Str) : Bool := oexB K C && (He.eqO (PySem.W.findIn K (.ref C) "__init__") (some (some (.ref (He.ma K C "__init__")))) && (decide (PySem.W.typeIn K (.ref (He.ma K C "__init__")) = some (.type "function")) &&
  (He.eqO (PySem.W.findIn K (.ref C) f) (some none) && (xfB K C && decide (PySem.W.exmOne K (.ref C) (.ref C) = some true)))))
structure ErrOk (K : PySem.W.Frag) (C : Addr) (f : Str) : Prop where
  ox : OexC K C
  iC : PySem.W.findIn K (.ref C) "__init__" = some (some (.ref (He.ma K C "__init__")))
  tI : PySem.W.typeIn K (.ref (He.ma K C "__init__")) = some (.type "function")
  no : PySem.W.findIn K (.ref C) f = some none
  xf : XfC K C
  te : PySem.W.exmOne K (.ref C) (.ref C) = some true
theorem errB_ok {K : PySem.W.Frag} {C : Addr} {f : Str} (h : errB K C f = true) : ErrOk K C f := by
  obtain ⟨h1, h⟩ := He.ba h
  obtain ⟨h2, h⟩ := He.ba h
  obtain ⟨h3, h⟩ := He.ba h
  obtain ⟨h4, h⟩ := He.ba h
  obtain ⟨h5, h6⟩ := He.ba h
  exact ⟨oexB_ok h1, He.eqO_ok h2, of_decide_eq_true h3, He.eqO_ok h4, xfB_ok h5, of_decide_eq_true h6⟩
/-! ### what the names reach, and the interpreter's own statics -/
def reachY (g : Addr → Option Obj) (n : Nat) : PySem.W.Frag := He.frT g (He.asD g n ++ [cStatics, sysModules])
def obsY (n : Nat) (fa : List He.Fa) (fn : List He.DefD) (ex : PySem.W.Frag → Bool) (g : Addr → Option Obj) : He.AlX :=
  (He.obsT fa fn [] (reachY g n), ex (reachY g n))
theorem saysY {n : Nat} {fa : List He.Fa} {fn : List He.DefD} {ex : PySem.W.Frag → Bool} {w : World} {h : Heap} (e : obsY n fa fn ex h.get? = He.valX fn [] w) : He.SaysX fa fn [] [] ex w h (reachY h.get? n) where
  t := congrArg Prod.fst e
  more := congrArg Prod.snd e
  hd := fun _ z => absurd z List.not_mem_nil
  out := fun _ z => absurd z List.not_mem_nil
  empty := fun _ z => absurd z List.not_mem_nil
def hookY (n : Nat) (fa : List He.Fa) (fn : List He.DefD) (ex : PySem.W.Frag → Bool) : PySem.W.Hook where
  α := He.AlX
  obs s := obsY n fa fn ex s.heap.get?
  val w := He.valX fn [] w
  says w h := ∃ K : PySem.W.Frag, K.In h ∧ He.SaysX fa fn [] [] ex w h K
  of _ s e := ⟨reachY s.heap.get? n, He.frT_in, saysY e⟩
  keeps _ _ _ z k := by
    obtain ⟨K, hK, c⟩ := z
    refine ⟨K, hK.keeps k, ?_⟩
    exact { t := c.t, more := c.more, hd := c.hd, out := c.out, empty := fun _ z => absurd z List.not_mem_nil }
theorem obsY_eq {n : Nat} {fa : List He.Fa} {fn : List He.DefD} {ex : PySem.W.Frag → Bool} {g : Addr → Option Obj} {s : Shared} (h : ∀ a, g a = s.heap.get? a) : obsY n fa fn ex g = (hookY n fa fn ex).obs s := by
  rw [show g = s.heap.get? from funext h]
  rfl
end OX
set_option Elab.async false
set_option linter.all false
set_option maxRecDepth 100000
set_option maxHeartbeats 4000000
namespace DN
open PySem PySem.Spec PyProof.Rows L2 CM
/-! ### keys: None, ints, texts, tuples of such -/
abbrev NK := NestedKey
mutual
inductive KeyV (H : Hp) : NK → V → Prop
  | non : KeyV H .none .non
  | int (i : Int) : KeyV H (.num i) (.int i)
  | str (z : Str) : KeyV H (.text z) (.str z)
  | tup {a : Addr} {ks : List NK} {vs : List V} : H a = some (.tup vs) → KeysV H ks vs → KeyV H (.tup ks) (.ref a)
inductive KeysV (H : Hp) : List NK → List V → Prop
  | nil : KeysV H [] []
  | cons {k : NK} {v : V} {ks : List NK} {vs : List V} : KeyV H k v → KeysV H ks vs → KeysV H (k :: ks) (v :: vs)
end
mutual
theorem KeyV.same {H H' : Hp} (s : ∀ a xs, H a = some (.tup xs) → H' a = some (.tup xs)) : ∀ {k : NK} {v : V}, KeyV H k v → KeyV H' k v
  | _, _, .non => .non
  | _, _, .int i => .int i
  | _, _, .str z => .str z
  | _, _, .tup e h => .tup (s _ _ e) (h.same s)
theorem KeysV.same {H H' : Hp} (s : ∀ a xs, H a = some (.tup xs) → H' a = some (.tup xs)) : ∀ {ks : List NK} {vs : List V}, KeysV H ks vs → KeysV H' ks vs
  | _, _, .nil => .nil
  | _, _, .cons h t => .cons (h.same s) (t.same s)
end
mutual
theorem KeyV.is {P : Program} {w : World} {H : Hp} {h : Heap} (ok : HOk P w H h) : ∀ {k : NK} {v : V}, KeyV H k v → ∀ {u : Value}, RelV v u → NestedIs h k u
  | _, _, .non, u, r => by
    obtain rfl : u = Value.none := r
    exact .none
  | _, _, .int i, u, r => by
    obtain ⟨t, rfl⟩ := r
    exact .int i t
  | _, _, .str z, u, r => by
    obtain ⟨t, rfl⟩ := r
    exact .text z t
  | _, _, .tup (a := a) e hs, u, r => by
    obtain rfl : u = Value.ref a := r
    obtain ⟨_, its, rv, o, g, hc, n, hd⟩ := (show ObjOk P w H h a (.tup _) from ok a _ e)
    exact .tup g hc hd (by simpa using hs.is ok rv)
theorem KeysV.is {P : Program} {w : World} {H : Hp} {h : Heap} (ok : HOk P w H h) : ∀ {ks : List NK} {vs : List V}, KeysV H ks vs → ∀ {us : List Value}, Vals vs us → NestedAll h ks us
  | _, _, .nil, _, .nil => .nil
  | _, _, .cons h1 t1, _, .cons r1 r2 => .cons (h1.is ok r1) (t1.is ok r2)
end
mutual
theorem KeyV.inj {H : Hp} : ∀ {k j : NK} {v : V}, KeyV H k v → KeyV H j v → k = j
  | _, _, _, .non, .non => rfl
  | _, _, _, .int _, .int _ => rfl
  | _, _, _, .str _, .str _ => rfl
  | _, _, _, .tup e h, .tup e2 h2 => by
    rw [e] at e2
    cases e2
    rw [h.inj h2]
theorem KeysV.inj {H : Hp} : ∀ {ks js : List NK} {vs : List V}, KeysV H ks vs → KeysV H js vs → ks = js
  | _, _, _, .nil, .nil => rfl
  | _, _, _, .cons a b, .cons c d => by rw [a.inj c, b.inj d]
end
/-! ### the dict -/
abbrev Ent := NK × Addr × V
/-- its entries, told by values: the keys' own addresses are kept -/
def dn (P : Program) (w : World) (d : Addr) (xs : List Ent) : HO := .ext fun h => ∃ us : List Value, Vals (xs.map (·.2.2)) us ∧ xs.length ≤ sizeLine ∧ (d == sysModules) = false ∧ (xs.map (·.1)).Nodup ∧
  ∃ o es ep, h.get? d = some o ∧ o.ExactDict ∧ o.data = .dict es ep ∧ es.toList = ((xs.zip us).map fun p => (p.1.1, p.1.2.1, p.2)).map (entryOfKey (nestedKind P w))
/-- at d: a dict of these keys and values, in their order -/
def Dct (P : Program) (w : World) (H : Hp) (d : Addr) (xs : List Ent) : Prop := H d = some (dn P w d xs) ∧ ∀ x ∈ xs, KeyV H x.1 (.ref x.2.1) ∧ x.1.depth ≤ 8
theorem Dct.mono {P : Program} {w : World} {H H' : Hp} {d : Addr} {xs : List Ent} (h : Dct P w H d xs) (e : H' d = some (dn P w d xs)) (s : ∀ a ys, H a = some (.tup ys) → H' a = some (.tup ys)) : Dct P w H' d xs := ⟨e, fun x hx => ⟨(h.2 x hx).1.same s, (h.2 x hx).2⟩⟩
theorem Dct.same {P : Program} {w : World} {H H' : Hp} {d : Addr} {xs : List Ent} (h : Dct P w H d xs) (s : Same H H') : Dct P w H' d xs := h.mono (s _ _ h.1) fun a ys e => s a _ e
theorem dn_ne {P : Program} {w : World} {d : Addr} {xs : List Ent} {ys : List V} : dn P w d xs ≠ .tup ys := fun z => by
  unfold dn at z
  cases z
/-- what the library wants of it -/
theorem Dct.keyed {P : Program} {w : World} {H : Hp} {h : Heap} {d : Addr} {xs : List Ent} (ok : HOk P w H h) (D : Dct P w H d xs) : ∃ zs : List (NK × Addr × Value), h.DictOfH (nestedKind P w) d zs ∧ Paired (fun x z => x.1 = z.1 ∧ x.2.1 = z.2.1 ∧ RelV x.2.2 z.2.2) xs zs ∧ xs.length ≤ sizeLine ∧ (d == sysModules) = false := by
  obtain ⟨⟨us, r, hl, hs, nd, o, es, ep, g, ex, hd, he⟩, _⟩ := (show ObjOk P w H h d (dn P w d xs) from ok d _ D.1)
  have pr : ∀ {xs : List Ent} {us : List Value}, Vals (xs.map (·.2.2)) us → Paired (fun x z => x.1 = z.1 ∧ x.2.1 = z.2.1 ∧ RelV x.2.2 z.2.2) xs ((xs.zip us).map fun p => (p.1.1, p.1.2.1, p.2)) := by
    intro xs
    induction xs with
    | nil =>
      intro us r
      exact .nil
    | cons x xs ih =>
      intro us r
      cases r with
      | cons a b => exact .cons ⟨rfl, rfl, a⟩ (ih b)
  have keys : ∀ {xs : List Ent} {us : List Value}, Vals (xs.map (·.2.2)) us → ((xs.zip us).map fun p => (p.1.1, p.1.2.1, p.2)).map (·.1) = xs.map (·.1) := by
    intro xs
    induction xs with
    | nil =>
      intro us r
      rfl
    | cons x xs ih =>
      intro us r
      cases r with
      | cons a b =>
        rw [List.zip_cons_cons, List.map_cons, List.map_cons, List.map_cons, ih b]
  refine ⟨_, ⟨o, es, ep, g, ex, hd, he, fun z hz => ?_, by rw [keys r]; exact nd⟩, pr r, hl, hs⟩
  obtain ⟨p, hp, rfl⟩ := List.mem_map.mp hz
  have hx := (List.of_mem_zip (a := p.1) (b := p.2) hp).1
  exact ⟨(D.2 p.1 hx).1.is ok rfl, (D.2 p.1 hx).2⟩
/-- the value at a key -/
def at_ (xs : List Ent) (k : NK) : Option V := (xs.find? fun x => decide (x.1 = k)).map (·.2.2)
theorem at_rel : ∀ {xs : List Ent} {zs : List (NK × Addr × Value)} (k : NK), Paired (fun x z => x.1 = z.1 ∧ x.2.1 = z.2.1 ∧ RelV x.2.2 z.2.2) xs zs → RelO (at_ xs k) ((atKey zs k).map (·.2))
  | _, _, k, .nil => trivial
  | x :: xs, z :: zs, k, .cons h t => by
    have ih := at_rel k t
    unfold at_ atKey at ih ⊢
    rw [List.find?_cons, List.find?_cons, ← h.1]
    by_cases e : x.1 = k
    · rw [decide_eq_true e]
      exact h.2.2
    · rw [decide_eq_false e]
      exact ih
/-! ### made, changed -/
def putE (xs : List Ent) (k : NK) (a : Addr) (v : V) : List Ent := if (at_ xs k).isSome then xs.map fun x => if x.1 = k then (x.1, x.2.1, v) else x else xs ++ [(k, a, v)]
def dropE (xs : List Ent) (k : NK) : List Ent := xs.filter fun x => decide (x.1 ≠ k)
abbrev Alike : List Ent → List (NK × Addr × Value) → Prop := Paired fun x z => x.1 = z.1 ∧ x.2.1 = z.2.1 ∧ RelV x.2.2 z.2.2
theorem Alike.len {xs : List Ent} {zs : List (NK × Addr × Value)} (p : Alike xs zs) : xs.length = zs.length := Paired.length p
theorem Alike.vals : ∀ {xs : List Ent} {zs : List (NK × Addr × Value)}, Alike xs zs → Vals (xs.map (·.2.2)) (zs.map (·.2.2))
  | _, _, .nil => .nil
  | _, _, .cons h t => .cons h.2.2 (Alike.vals t)
theorem Alike.zip : ∀ {xs : List Ent} {zs : List (NK × Addr × Value)}, Alike xs zs → ((xs.zip (zs.map (·.2.2))).map fun p => (p.1.1, p.1.2.1, p.2)) = zs
  | _, _, .nil => rfl
  | x :: xs, (k, a, v) :: zs, .cons h t => by
    rw [List.map_cons, List.zip_cons_cons, List.map_cons, Alike.zip t]
    obtain ⟨h1, h2, _⟩ := h
    dsimp only at h1 h2 ⊢
    rw [h1, h2]
theorem Alike.keys : ∀ {xs : List Ent} {zs : List (NK × Addr × Value)}, Alike xs zs → xs.map (·.1) = zs.map (·.1)
  | _, _, .nil => rfl
  | _, _, .cons h t => by rw [List.map_cons, List.map_cons, Alike.keys t, h.1]
theorem dn_ok {P : Program} {w : World} {H : Hp} {h : Heap} {d : Addr} {xs : List Ent} {zs : List (NK × Addr × Value)} (m : h.DictOfH (nestedKind P w) d zs) (p : Alike xs zs) (hl : xs.length ≤ sizeLine) (hs : (d == sysModules) = false) : ObjOk P w H h d (dn P w d xs) := by
  obtain ⟨o, es, ep, g, ex, hd, he, _, nd⟩ := m
  refine ⟨⟨zs.map (·.2.2), p.vals, hl, hs, by rw [p.keys]; exact nd, o, es, ep, g, ex, hd, by rw [p.zip]; exact he⟩, ⟨o, g⟩, fun h1 h2 φ k => ?_⟩
  obtain ⟨us, r, hl, hs, nd, o, es, ep, g, rest⟩ := φ
  exact ⟨us, r, hl, hs, nd, o, es, ep, k _ g, rest⟩
theorem Alike.puts {k : NK} {v : V} {u : Value} (r : RelV v u) : ∀ {xs : List Ent} {zs : List (NK × Addr × Value)}, Alike xs zs → Alike (xs.map fun x => if x.1 = k then (x.1, x.2.1, v) else x) (zs.map (putAt k u))
  | _, _, .nil => .nil
  | x :: xs, z :: zs, .cons h t => by
    rw [List.map_cons, List.map_cons]
    refine .cons ?_ (Alike.puts r t)
    unfold putAt
    obtain ⟨h1, h2, h3⟩ := h
    by_cases e : x.1 = k
    · rw [if_pos e, if_pos (h1 ▸ e)]
      exact ⟨h1, h2, r⟩
    · rw [if_neg e, if_neg (h1 ▸ e)]
      exact ⟨h1, h2, h3⟩
theorem Alike.more {k : NK} {a : Addr} {v : V} {u : Value} (r : RelV v u) : ∀ {xs : List Ent} {zs : List (NK × Addr × Value)}, Alike xs zs → Alike (xs ++ [(k, a, v)]) (zs ++ [(k, a, u)])
  | _, _, .nil => .cons ⟨rfl, rfl, r⟩ .nil
  | _, _, .cons h t => .cons h (Alike.more r t)
theorem Alike.put {xs : List Ent} {zs : List (NK × Addr × Value)} (p : Alike xs zs) (k : NK) (a : Addr) {v : V} {u : Value} (r : RelV v u) : Alike (putE xs k a v) (storedH zs k a u) := by
  have e : (at_ xs k).isSome = (atKey zs k).isSome := by
    have z := at_rel k p
    cases h1 : at_ xs k <;> cases h2 : atKey zs k <;> rw [h1, h2] at z <;> first | rfl | exact z.elim
  unfold putE storedH
  rw [e]
  split
  · exact Alike.puts r p
  · exact Alike.more r p
theorem Alike.drop {xs : List Ent} {zs : List (NK × Addr × Value)} (p : Alike xs zs) (k : NK) : Alike (dropE xs k) (withoutH zs k) := by
  unfold dropE withoutH
  induction p with
  | nil => exact .nil
  | @cons x z xs zs h t ih =>
    rw [List.filter_cons, List.filter_cons, ← h.1]
    split
    · exact .cons h ih
    · exact ih
theorem len_put (xs : List Ent) (k : NK) (a : Addr) (v : V) : (putE xs k a v).length ≤ xs.length + 1 := by
  unfold putE
  split
  · rw [List.length_map]
    omega
  · rw [List.length_append]
    exact Nat.le_refl _
theorem len_drop (xs : List Ent) (k : NK) : (dropE xs k).length ≤ xs.length := List.length_filter_le _ _
section
variable {X : Cx} {pins : List (Addr × Obj)} {σ : L2.St} {H : Hp} {s : Shared} {d a : Addr} {xs : List Ent} {k : NK}
theorem key_is (I : Inv X pins σ H s) (hk : KeyV H k (.ref a)) (hd : k.depth ≤ 8) : (nestedKind X.prog X.w).is s.heap k a := ⟨hk.is I.hok rfl, hd⟩
theorem room_in (hu : X.A.units + 40 < cLine) : (nestedKind X.prog X.w).room X.A.in1 := by
  show X.A.units + 1 + 8 < cLine
  omega
def rInN (P : Program) (w : World) (neg : Bool) : R2 := fun x y H Q => ∃ (a d : Addr) (xs : List Ent) (k : NK), x = .ref a ∧ y = .ref d ∧ Dct P w H d xs ∧ KeyV H k (.ref a) ∧ k.depth ≤ 8 ∧ Q (.bl (if neg then !(at_ xs k).isSome else (at_ xs k).isSome)) H
theorem some_rel {xs : List Ent} {zs : List (NK × Addr × Value)} (k : NK) (p : Alike xs zs) : (atKey zs k).isSome = (at_ xs k).isSome := by
  have z := at_rel k p
  cases h1 : at_ xs k <;> cases h2 : atKey zs k <;> rw [h1, h2] at z <;> first | rfl | exact z.elim
theorem op_inN {P : Program} {w : World} (hu : X.A.units + 40 < cLine) (hP : X.prog = P := by rfl) (hw : X.w = w := by rfl) : OpR X (compareOp .In) (rInN P w false) := by
  subst hP hw
  intro pns s σ H x y v u Q I rx ry h
  obtain ⟨a, d, xs, k, rfl, rfl, D, hk, hd, q⟩ := h
  cases (show v = Value.ref a from rx)
  cases (show u = Value.ref d from ry)
  obtain ⟨zs, m, p, hl, hs⟩ := D.keyed I.hok
  refine wpAny_in_heap (room_in hu) (key_is I hk hd) hs m ⟨.bl _, H, I.tok _, rfl, ?_⟩
  rw [some_rel k p]
  exact q
theorem op_notInN {P : Program} {w : World} (hu : X.A.units + 40 < cLine) (hP : X.prog = P := by rfl) (hw : X.w = w := by rfl) : OpR X (compareOp .NotIn) (rInN P w true) := by
  subst hP hw
  intro pns s σ H x y v u Q I rx ry h
  obtain ⟨a, d, xs, k, rfl, rfl, D, hk, hd, q⟩ := h
  cases (show v = Value.ref a from rx)
  cases (show u = Value.ref d from ry)
  obtain ⟨zs, m, p, hl, hs⟩ := D.keyed I.hok
  refine PyProof.Rows.wpAny_notIn_heap (room_in hu) (key_is I hk hd) hs m ⟨.bl _, H, I.tok _, rfl, ?_⟩
  rw [some_rel k p]
  exact q
/-- d[k] = v -/
def rSetN (P : Program) (w : World) : TSet := fun o i v H Q => ∃ (d a : Addr) (xs : List Ent) (k : NK), o = .ref d ∧ i = .ref a ∧ Dct P w H d xs ∧ KeyV H k (.ref a) ∧ k.depth ≤ 8 ∧ xs.length < 1000 ∧ Q (upd H d (dn P w d (putE xs k a v)))
theorem set_dictN (hu : X.A.units + 40 < cLine) : PSet X (rSetN X.prog X.w) := by
  intro pins s σ H o i v ov iv u Q I ro ri rv h
  obtain ⟨d, a, xs, k, rfl, rfl, D, hk, hd, hz, q⟩ := h
  cases (show ov = Value.ref d from ro)
  cases (show iv = Value.ref a from ri)
  obtain ⟨zs, m, p, hl, hs⟩ := D.keyed I.hok
  refine wpAny_setItem_heap (room_in hu) (key_is I hk hd) m (fun h' m' sb => ?_) (by rw [← Alike.len p]; exact hl)
  have hz2 := len_put xs k a v
  refine ⟨_, I.write (x := d) (e := d) (o := dn X.prog X.w d (putE xs k a v)) (by rw [D.1]; exact True.intro) (.inl rfl) (fun b o hb e => (sb.2 b hb).trans e) ?_ (dn_ok m' (Alike.put p k a rv) (Nat.le_trans hz2 (by rw [sizeLine_eq]; omega)) hs), q⟩
  obtain ⟨o, _, _, g, _⟩ := m'
  exact ⟨o, g⟩
/-- del d[k], there -/
def sDelN (P : Program) (w : World) (td ty : TE) : TS := fun D σ H => td σ H fun x H1 => ty σ H1 fun y H2 => ∃ (d a : Addr) (xs : List Ent) (k : NK), x = .ref d ∧ y = .ref a ∧ Dct P w H2 d xs ∧ KeyV H2 k (.ref a) ∧ k.depth ≤ 8 ∧ (at_ xs k).isSome = true ∧ D.nx σ (upd H2 d (dn P w d (dropE xs k)))
theorem ps_delN {o i : Expr} {td ty : TE} {tpos pos : Pos} (hu : X.A.units + 40 < cLine) (ho : PE X o td) (hi : PE X i ty) : PS X (.Delete [.Subscript o i tpos] pos) (sDelN X.prog X.w td ty) := by
  refine ⟨fun pins s σ H D I h => ?_⟩
  refine wpAny_Delete (wpAny_deleteEach_cons (wpAny_delete_Subscript (thn (ho.run pins s σ H _ I h) fun u s1 hh => ?_)))
  obtain ⟨x, H1, I1, rx, q1⟩ := hh
  refine thn (hi.run pins s1 σ H1 _ I1 q1) fun iv s2 hh => ?_
  obtain ⟨y, H2, I2, ry, d, a, xs, k, rfl, rfl, Dc, hk, hd, l, q2⟩ := hh
  cases (show u = Value.ref d from rx)
  cases (show iv = Value.ref a from ry)
  obtain ⟨zs, m, p, hl, hs⟩ := Dc.keyed I2.hok
  obtain ⟨pp, hp⟩ := Option.isSome_iff_exists.mp ((some_rel k p).trans l)
  refine wpAny_delItem_heap (room_in hu) (key_is I2 hk hd) hs m hp (fun h' m' sb => wpAny_deleteEach_nil ⟨σ, _, ?_, q2⟩) (by rw [← Alike.len p]; exact hl)
  refine I2.write (x := d) (e := d) (o := dn X.prog X.w d (dropE xs k)) (by rw [Dc.1]; exact True.intro) (.inl rfl) (fun b o hb e => (sb.2 b hb).trans e) ?_ (dn_ok m' (Alike.drop p k) (Nat.le_trans (len_drop xs k) hl) hs)
  obtain ⟨o, _, _, g, _⟩ := m'
  exact ⟨o, g⟩
end
end DN
set_option Elab.async false
set_option linter.all false
set_option maxRecDepth 100000
set_option maxHeartbeats 4000000
namespace DN
open PySem PySem.Spec PyProof.Rows L2 CM
section
variable {X : Cx} {pins : List (Addr × Obj)} {σ : L2.St} {H : Hp} {s : Shared}
theorem at_none {xs : List Ent} {zs : List (NK × Addr × Value)} {k : NK} (p : Alike xs zs) (h : at_ xs k = none) : atKey zs k = none := by
  have z := at_rel k p
  rw [h] at z
  cases e : atKey zs k with
  | none => rfl
  | some q =>
    rw [e] at z
    exact z.elim
theorem at_some {xs : List Ent} {zs : List (NK × Addr × Value)} {k : NK} {v : V} (p : Alike xs zs) (h : at_ xs k = some v) : ∃ q, atKey zs k = some q ∧ RelV v q.2 := by
  have z := at_rel k p
  rw [h] at z
  cases e : atKey zs k with
  | none =>
    rw [e] at z
    exact z.elim
  | some q =>
    rw [e] at z
    exact ⟨q, rfl, z⟩
/-- {} -/
def tDNewN (P : Program) (w : World) : TE := fun _ H Q => ∀ p, H p = none → Q (.ref p) (upd H p (dn P w p []))
theorem pe_dnewN {pos : Pos} : PE X (.Dict [] [] pos) (tDNewN X.prog X.w) := ⟨fun pins s σ H Q I h => by
  refine wpAny_Dict_empty ?_
  have big := I.big
  have m : (s.heap.push { cls := .type "dict", data := .dict #[] }).DictOfH (nestedKind X.prog X.w) s.heap.objs.size [] := Heap.DictOfH.new s.heap
  have ok : ObjOk X.prog X.w (upd H s.heap.objs.size (dn X.prog X.w s.heap.objs.size [])) (s.heap.push { cls := .type "dict", data := .dict #[] }) s.heap.objs.size (dn X.prog X.w s.heap.objs.size []) :=
    dn_ok (xs := []) m .nil (Nat.zero_le _) (beq_eq_false_iff_ne.mpr (Nat.ne_of_gt I.big))
  exact ⟨.ref s.heap.objs.size, _, I.laid (a := s.heap.objs.size) (o := dn X.prog X.w s.heap.objs.size []) (t' := s.toks) (fun _ _ q => Heap.get?_push_of_some _ q) (Nat.le_refl _) ok, rfl, h _ (I.hok.fresh (Nat.le_refl _))⟩⟩
/-- d.get(k, x) -/
def rGetN (P : Program) (w : World) : V → List V → Hp → VK → Prop := fun o xs H Q => ∃ (d a : Addr) (es : List Ent) (k : NK) (x : V), o = .ref d ∧ xs = [.ref a, x] ∧ Dct P w H d es ∧ KeyV H k (.ref a) ∧ k.depth ≤ 8 ∧ Q ((at_ es k).getD x) H
theorem mt_getN {P : Program} {w : World} (hu : X.A.units + 40 < cLine) (hP : X.prog = P := by rfl) (hw : X.w = w := by rfl) : MtR X "dict.get" (rGetN P w) := by
  subst hP hw
  intro pins s σ H o xs v us Q I ro rx h
  obtain ⟨d, a, es, k, x, rfl, rfl, D, hk, hd, q⟩ := h
  cases (show v = Value.ref d from ro)
  obtain ⟨u1, u2, rfl, r1, r2⟩ := vals2 rx
  cases (show u1 = Value.ref a from r1)
  obtain ⟨zs, m, p, hl, hs⟩ := D.keyed I.hok
  refine getOr_keyed (room_in hu) (key_is I hk hd) hs ⟨zs, m, rfl⟩ ?_
  rw [valueAt_pairsH]
  cases e : at_ es k with
  | none =>
    rw [at_none p e]
    rw [e] at q
    exact ⟨x, H, I.tok _, r2, q⟩
  | some v =>
    obtain ⟨q', e2, rr⟩ := at_some p e
    rw [e2]
    rw [e] at q
    exact ⟨v, H, I.tok _, rr, q⟩
/-- len(d) -/
def rLenN (P : Program) (w : World) : List V → Hp → VK → Prop := fun xs H Q => ∃ (d : Addr) (es : List Ent), xs = [.ref d] ∧ Dct P w H d es ∧ Q (.int (es.length : Nat)) H
theorem cr_lenN {P : Program} {w : World} (hP : X.prog = P := by rfl) (hw : X.w = w := by rfl) : CallR X (.builtin "len") (rLenN P w) := by
  subst hP hw
  intro pins s σ H vs us Q I r h
  obtain ⟨d, es, rfl, D, q⟩ := h
  rw [Vals.ref1 r]
  obtain ⟨zs, m, p, hl, hs⟩ := D.keyed I.hok
  have e : es.length = zs.length := Alike.len p
  refine call_len_dictH hs m (by rw [← e]; rw [sizeLine_eq] at hl; omega) ?_
  exact ⟨.int (es.length : Nat), H, I.tok _, ⟨_, by rw [e]⟩, q⟩
/-- d.pop(k, x) -/
def rPopN (P : Program) (w : World) : V → List V → Hp → VK → Prop := fun o xs H Q => ∃ (d a : Addr) (es : List Ent) (k : NK) (x : V), o = .ref d ∧ xs = [.ref a, x] ∧ Dct P w H d es ∧ KeyV H k (.ref a) ∧ k.depth ≤ 8 ∧
  (at_ es k = none → Q x H) ∧ (∀ v, at_ es k = some v → Q v (upd H d (dn P w d (dropE es k))))
theorem mt_popN {P : Program} {w : World} (hu : X.A.units + 40 < cLine) (hP : X.prog = P := by rfl) (hw : X.w = w := by rfl) : MtR X "dict.pop" (rPopN P w) := by
  subst hP hw
  intro pins s σ H o xs v us Q I ro rx h
  obtain ⟨d, a, es, k, x, rfl, rfl, D, hk, hd, q1, q2⟩ := h
  cases (show v = Value.ref d from ro)
  obtain ⟨u1, u2, rfl, r1, r2⟩ := vals2 rx
  cases (show u1 = Value.ref a from r1)
  obtain ⟨zs, m, p, hl, hs⟩ := D.keyed I.hok
  cases e : at_ es k with
  | none => exact call_pop_default_heap (room_in hu) (key_is I hk hd) hs m (at_none p e) (fun tk => ⟨x, H, I.tok _, r2, q1 e⟩) (by rw [← Alike.len p]; exact hl)
  | some v =>
    obtain ⟨q', e2, rr⟩ := at_some p e
    refine call_pop_heap (.inr ⟨u2, rfl⟩) (F.args_dict_pop_3 _ _ _) (room_in hu) (key_is I hk hd) hs m e2 (fun h' m' sb => ?_) (by rw [← Alike.len p]; exact hl)
    refine ⟨v, _, I.write (x := d) (e := d) (o := dn X.prog X.w d (dropE es k)) (by rw [D.1]; exact True.intro) (.inl rfl) (fun b o hb e => (sb.2 b hb).trans e) ?_ (dn_ok m' (Alike.drop p k) (Nat.le_trans (len_drop es k) hl) hs), rr, q2 v e⟩
    obtain ⟨o, _, _, g, _⟩ := m'
    exact ⟨o, g⟩
end
end DN
set_option Elab.async false
set_option linter.all false
set_option maxRecDepth 100000
set_option maxHeartbeats 4000000
namespace OP
open PySem PySem.Spec PyProof.Rows L2 CM
/-! ### what a class says of an operator: its def nm at g -/
structure Own (K : PySem.W.Frag) (C : Addr) (nm : Str) (g : Addr) : Prop where
  at_ : PySem.W.findIn K (.ref C) nm = some (some (.ref g))
  fn : PySem.W.isFn K (.ref g) = true
  fi : PySem.W.fnIn K g = true
section
variable {X : Cx} {CX : CXT} {pins : List (Addr × Obj)} {σ : L2.St} {H : Hp} {s : Shared} {a C dx g : Addr} {fs : List (Str × V)} {nm : Str} {k : Nat} {sp : Sp} {E : XK}
theorem inst_of (I : Inv X pins σ H s) (h : H a = some (.ins C dx fs)) : ∃ ox od, PySem.W.InstAt s.heap a ox C od ∧ ox.data = .plain := StX.insC_at I (.inr ⟨dx, fs, h⟩)
/-- the def is called -/
theorem run_own {Q : VK} {us : List Value} {vs : List V} (F : FnR X.prog X.w X.K X.mg X.base CX k g sp) (hr : Room k X.A) (hx : Passes CX X E) (I : Inv X pins σ H s) (r : Vals vs us) (h : sp (.ref a :: vs) H Q E) :
    wpAny (model X.prog X.w) X.A (call (.ref g) (.ref a :: us)) (EP X pins σ Q) X.xe s :=
  wpAny_mono (wpAny_call (run_fnR (us := .ref a :: us) (vs := .ref a :: vs) F hr hx I (.cons rfl r) h)) (fun _ _ z => z) fun _ _ z => z
theorem run_own1 {Q : VK} {us : List Value} {vs : List V} (F : FnR X.prog X.w X.K X.mg X.base CX k g sp) (hr : Room (k + 1) X.A) (hx : Passes CX X E) (I : Inv X pins σ H s) (r : Vals vs us) (h : sp (.ref a :: vs) H Q E) :
    wpAny (model X.prog X.w) X.A.in1 (call (.ref g) (.ref a :: us)) (EP X pins σ Q) X.xe s :=
  wpAny_mono (wpAny_call (SlX.run_at (us := .ref a :: us) (ws := .ref a :: vs) F hr.in1 I.env0.in1 hx I (.cons rfl r) h)) (fun _ _ z => z) fun _ _ z => z
/-- o[i], o an instance of C -/
def tIxO (C : Addr) (sp : Sp) (E : XK) (ta ti : TE) : TE := fun σ H Q => ta σ H fun x H1 => ti σ H1 fun y H2 => ∃ a dx fs, x = .ref a ∧ H2 a = some (.ins C dx fs) ∧ sp [x, y] H2 Q E
theorem pe_ixO {value slice : Expr} {pos : Pos} {ta ti : TE} (o : Own X.K C "__getitem__" g) (F : FnR X.prog X.w X.K X.mg X.base CX k g sp) (hr : Room (k + 1) X.A) (hx : Passes CX X E) (ha : PE X value ta) (hi : PE X slice ti)
    (hsl : ∀ x i : Value, subscripted slice true x i = runValue (.builtin "lifetime.subscript" ⟨[x, i], []⟩) := by intro _ _; rfl) : PE X (.Subscript value slice pos) (tIxO C sp E ta ti) := by
  refine ⟨fun pins s σ H Q I h => ?_⟩
  refine Subscript_ (thn (ha.run pins s σ H _ I h) fun u s1 ⟨x, H1, I1, rx, q⟩ => thn (hi.run pins s1 σ H1 _ I1 q) fun iv s2 ⟨y, H2, I2, ry, a, dx, fs, ex, hins, q2⟩ => ?_)
  subst ex
  obtain rfl : u = Value.ref a := rx
  obtain ⟨ox, od, J, hd⟩ := inst_of I2 hins
  obtain ⟨m, hF⟩ := I2.fr
  exact PySem.W.sub_K hF I2.ok.mod.kin J o.at_ o.fi o.fn (run_own1 F hr hx I2 (.cons ry .nil) q2) (hsl _ _)
/-- o[i] = v -/
def rSetO (C : Addr) (sp : Sp) (E : XK) : TSet := fun o i v H Q => ∃ a dx fs, o = .ref a ∧ H a = some (.ins C dx fs) ∧ sp [o, i, v] H (fun _ H' => Q H') E
theorem set_own (o : Own X.K C "__setitem__" g) (hq : PySem.W.noSeq X.K C = true) (F : FnR X.prog X.w X.K X.mg X.base CX k g sp) (hr : Room k X.A) (hx : Passes CX X E) : PSet X (rSetO C sp E) := by
  intro pins s σ H x i v ov iv u Q I ro ri rv h
  obtain ⟨a, dx, fs, rfl, hins, q⟩ := h
  cases (show ov = Value.ref a from ro)
  obtain ⟨ox, od, J, hd⟩ := inst_of I hins
  obtain ⟨m, hF⟩ := I.fr
  refine PySem.W.ksp_setItem hF I.ok.mod.kin J hq o.at_ o.fn (wpAny_mono (run_own F hr hx I (.cons ri (.cons rv .nil)) q) (fun w s' z => ?_) fun _ _ z => z)
  obtain ⟨_, H', I', _, q'⟩ := z
  exact ⟨H', I', q'⟩
/-- v in o -/
def rInO (C : Addr) (neg : Bool) (sp : Sp) (E : XK) : R2 := fun x y H Q => ∃ a dx fs, y = .ref a ∧ H a = some (.ins C dx fs) ∧ sp [y, x] H (fun r H' => ∃ b, r = .bl b ∧ Q (.bl (if neg then !b else b)) H') E
theorem contains_own {Q : Bool → Shared → Prop} {c x : Value} {v : V} (o : Own X.K C "__contains__" g) (F : FnR X.prog X.w X.K X.mg X.base CX k g sp) (hr : Room k X.A) (hx : Passes CX X E) (I : Inv X pins σ H s) (hins : H a = some (.ins C dx fs)) (r : RelV v x)
    {q : Bool → Hp → Prop} (h : sp [.ref a, v] H (fun r H' => ∃ b, r = .bl b ∧ q b H') E) (fin : ∀ b H' s', Inv X pins σ H' s' → q b H' → Q b s') : wpAny (model X.prog X.w) X.A (contains (.ref a) x) Q X.xe s := by
  obtain ⟨ox, od, J, hd⟩ := inst_of I hins
  have sp1 : PySem.W.Looks (model X.prog X.w) s.heap (specialOf (.ref a) "__contains__") (some (.ref g)) := J.type.andThen (PySem.W.looks_findIn I.kIn o.at_)
  unfold contains
  refine wpAny_holding ?_
  have e0 : stdlibNamesSay? (.ref a) x = Option.none := by
    unfold stdlibNamesSay?
    rfl
  rw [e0]
  refine wpAny_bind (sp1.here ?_)
  have n1 : ¬ ((some (Value.ref g) == some Value.none) = true) := fun z => by cases (Option.some.inj (beq_iff_eq.mp z))
  have n2 : ¬ ((Value.ref g == Value.none) = true) := fun z => by cases (beq_iff_eq.mp z)
  rw [if_neg n1]
  refine wpAny_bind (m := callSpecialUnlessNone? _ _ _ _) ?_
  unfold callSpecialUnlessNone?
  refine wpAny_bind (sp1.here ?_)
  dsimp only
  refine wpAny_holding (wpAny_bind ((PySem.W.bind_fn I.kIn _ (beq_iff_eq.mp o.fn)).here ?_))
  dsimp only
  rw [if_neg n2]
  refine wpAny_bind (wpAny_mono (run_own F hr hx I (.cons r .nil) h) (fun w s' z => ?_) fun _ _ z => z)
  obtain ⟨_, H', I', rw, b, rfl, q'⟩ := z
  cases (show w = Value.bool b from rw)
  refine wpAny_pure ?_
  dsimp only
  unfold truthy
  exact wpAny_pure (fin b H' s' I' q')
theorem op_inO (o : Own X.K C "__contains__" g) (F : FnR X.prog X.w X.K X.mg X.base CX k g sp) (hr : Room k X.A) (hx : Passes CX X E) : OpR X (compareOp .In) (rInO C false sp E) := by
  intro pns s σ H x y v u Q I rx ry h
  obtain ⟨a, dx, fs, rfl, hins, q⟩ := h
  cases (show u = Value.ref a from ry)
  show wpAny _ _ (contains (.ref a) v >>= fun b => pure (Value.bool b)) _ _ _
  refine wpAny_bind (contains_own (c := .ref a) (q := fun b H' => Q (.bl b) H') o F hr hx I hins rx q fun b H' s' I' q' => wpAny_pure ?_)
  exact ⟨.bl b, H', I', rfl, q'⟩
theorem op_notInO (o : Own X.K C "__contains__" g) (F : FnR X.prog X.w X.K X.mg X.base CX k g sp) (hr : Room k X.A) (hx : Passes CX X E) : OpR X (compareOp .NotIn) (rInO C true sp E) := by
  intro pns s σ H x y v u Q I rx ry h
  obtain ⟨a, dx, fs, rfl, hins, q⟩ := h
  cases (show u = Value.ref a from ry)
  show wpAny _ _ (contains (.ref a) v >>= fun b => pure (Value.bool !b)) _ _ _
  refine wpAny_bind (contains_own (c := .ref a) (q := fun b H' => Q (.bl !b) H') o F hr hx I hins rx q fun b H' s' I' q' => wpAny_pure ?_)
  exact ⟨.bl !b, H', I', rfl, q'⟩
/-- len(o) -/
def rLenO (C : Addr) (sp : Sp) (E : XK) : List V → Hp → VK → Prop := fun xs H Q => ∃ a dx fs, xs = [V.ref a] ∧ H a = some (.ins C dx fs) ∧ sp [.ref a] H (fun r H' => ∃ n : Nat, r = .int n ∧ n < 2 ^ 60 ∧ Q (.int n) H') E
theorem cr_lenO (o : Own X.K C "__len__" g) (F : FnR X.prog X.w X.K X.mg X.base CX k g sp) (hr : Room (k + 1) X.A) (hx : Passes CX X E) : CallR X (.builtin "len") (rLenO C sp E) := by
  intro pins s σ H vs us Q I r h
  obtain ⟨a, dx, fs, rfl, hins, q⟩ := h
  rw [Vals.ref1 r]
  obtain ⟨ox, od, J, hd⟩ := inst_of I hins
  refine Calls.call_function_entry kind_len plain_len entry_len (args_len1 _) ?_
  unfold Builtin.«len»
  refine wpAny_bind (m := oneArg "len" _) (wpAny_pure ?_)
  refine wpAny_bind (m := callSpecial? (.ref a) (Str.ofString "__len__")) (PySem.W.special_fn I.kIn J o.at_ (beq_iff_eq.mp o.fn) (wpAny_mono (run_own1 F hr hx I .nil q) (fun w s' z => ?_) fun _ _ z => z))
  obtain ⟨_, H', I', rw, n, rfl, hn, q'⟩ := z
  obtain ⟨t, rfl⟩ := (show ∃ t, w = Value.int n t from rw)
  have hn2 : (n : Int) < 2 ^ 63 := by omega
  refine wpAny_bind (wpAny_holding (wpAny_pure ?_))
  refine wpAny_bind (wpAny_letGo ?_)
  show wpAny _ _ (if (n : Int) < 0 then _ else _) _ _ _
  rw [if_neg (by omega)]
  show wpAny _ _ (if (n : Int) ≥ 2 ^ 63 then _ else _) _ _ _
  rw [if_neg (by omega)]
  exact wpAny_bind (wpAny_mkInt (wpAny_pure ⟨_, rfl, ⟨.int n, H', I'.tok _, ⟨_, rfl⟩, q'⟩⟩))
end
end OP
set_option Elab.async false
set_option linter.all false
set_option maxRecDepth 100000
set_option maxHeartbeats 4000000
namespace DN
open PySem PySem.Spec PyProof.Rows L2 CM RZ
/-! ### values by their data: == and != -/
mutual
theorem shw_plain {H : Hp} : ∀ {v : V} {d : PyData}, Shw H v d → d.plain = true
  | _, _, .non => by simp only [PyData.plain]
  | _, _, .bl _ => by simp only [PyData.plain]
  | _, _, .int _ => by simp only [PyData.plain]
  | _, _, .str _ => by simp only [PyData.plain]
  | _, _, .lst _ h => by
    simp only [PyData.plain]
    exact shws_plain h
  | _, _, .tup _ h => by
    simp only [PyData.plain]
    exact shws_plain h
theorem shws_plain {H : Hp} : ∀ {vs : List V} {ds : List PyData}, ShwAll H vs ds → PyData.plainAll ds = true
  | _, _, .nil => by simp only [PyData.plainAll]
  | _, _, .cons h t => by simp only [PyData.plainAll, shw_plain h, shws_plain t, Bool.and_self]
end
mutual
theorem Shw_same {H H' : Hp} (s : Same H H') : ∀ {v : V} {d : PyData}, Shw H v d → Shw H' v d
  | _, _, .non => .non
  | _, _, .bl b => .bl b
  | _, _, .int i => .int i
  | _, _, .str z => .str z
  | _, _, .lst e h => .lst (s _ _ e) (Shws_same s h)
  | _, _, .tup e h => .tup (s _ _ e) (Shws_same s h)
theorem Shws_same {H H' : Hp} (s : Same H H') : ∀ {vs : List V} {ds : List PyData}, ShwAll H vs ds → ShwAll H' vs ds
  | _, _, .nil => .nil
  | _, _, .cons h t => .cons (Shw_same s h) (Shws_same s t)
end
section
variable {X : Cx} {pins : List (Addr × Obj)} {σ : L2.St} {H : Hp} {s : Shared}
def rEqD (ne : Bool) : R2 := fun x y H Q => ∃ dx dy, Shw H x dx ∧ Shw H y dy ∧ dx.depth ≤ 40 ∧ Q (.bl (if ne then !(PyData.eqv dx dy) else PyData.eqv dx dy)) H
theorem op_eqD (hu : X.A.units + 64 < cLine) : OpR X (compareOp .Eq) (rEqD false) := by
  intro pns s σ H x y v u Q I rx ry h
  obtain ⟨dx, dy, sx, sy, hd, q⟩ := h
  obtain ⟨as, ra⟩ := sx.reads I.hok rx
  obtain ⟨bs, rb⟩ := sy.reads I.hok ry
  exact SeqAt.eq_plain ra rb (shw_plain sx) (shw_plain sy) (by omega) ⟨.bl _, H, I, rfl, q⟩
theorem op_neD (hu : X.A.units + 64 < cLine) : OpR X (compareOp .NotEq) (rEqD true) := by
  intro pns s σ H x y v u Q I rx ry h
  obtain ⟨dx, dy, sx, sy, hd, q⟩ := h
  obtain ⟨as, ra⟩ := sx.reads I.hok rx
  obtain ⟨bs, rb⟩ := sy.reads I.hok ry
  exact SeqAt.ne_plain ra rb (shw_plain sx) (shw_plain sy) (by omega) ⟨.bl _, H, I, rfl, q⟩
end
/-! ### list(d), bool(d) -/
section
variable {X : Cx} {pins : List (Addr × Obj)} {σ : L2.St} {H : Hp} {s : Shared}
def keyRefs (es : List Ent) : List V := es.map fun x => V.ref x.2.1
theorem keys_raw {P : Program} {w : World} {h : Heap} {d : Addr} {zs : List (NK × Addr × Value)} (m : h.DictOfH (nestedKind P w) d zs) : ∃ es ep, h.DictRaw d es ep ∧ es.size = zs.length ∧ ∀ i (hi : i < es.size), ∃ z, zs[i]? = some z ∧ es[i].key = .ref z.2.1 := by
  obtain ⟨es, ep, r, hs, hk⟩ := m.raw
  exact ⟨es, ep, r, hs, fun i hi => by
    obtain ⟨y, h1, h2, _⟩ := hk i hi
    exact ⟨y, h1, h2⟩⟩
theorem keyRefs_vals {zs : List (NK × Addr × Value)} : ∀ {es : List Ent} {its : List Value}, Alike es zs → its.length = zs.length → (∀ (i : Nat) (v : Value), its[i]? = some v → ∃ z, zs[i]? = some z ∧ v = .ref z.2.1) → Vals (keyRefs es) its := by
  intro es its p
  unfold keyRefs
  induction p generalizing its with
  | nil =>
    intro hl _
    cases its with
    | nil => exact .nil
    | cons => cases hl
  | @cons x z xs zs h t ih =>
    intro hl hv
    cases its with
    | nil => cases hl
    | cons u us =>
      refine .cons ?_ (ih (Nat.succ.inj hl) fun i v e => hv (i + 1) v e)
      obtain ⟨z', e, e2⟩ := hv 0 u rfl
      cases e
      subst e2
      show Value.ref _ = Value.ref _
      rw [h.2.1]
def rListN (P : Program) (w : World) : List V → Hp → VK → Prop := fun xs H Q => ∃ (d : Addr) (es : List Ent), xs = [.ref d] ∧ Dct P w H d es ∧ ∀ p, H p = none → Q (.ref p) (upd H p (.lst (keyRefs es)))
theorem cr_listN {P : Program} {w : World} (hc : X.calm = true) (hP : X.prog = P := by rfl) (hw : X.w = w := by rfl) : CallR X (.type "list") (rListN P w) := by
  subst hP hw
  intro pins s σ H vs us Q I r h
  obtain ⟨d, es, rfl, D, q⟩ := h
  rw [Vals.ref1 r]
  obtain ⟨zs, m, p, hl, hs⟩ := D.keyed I.hok
  obtain ⟨ees, ep, hr, hsz, hk⟩ := keys_raw m
  have hlen : es.length = zs.length := Alike.len p
  refine PySem.W.kdl_call (KdlSrc.rawDict hs) ?_ hr (by omega) (fun h' tk acc' c' hk' hD hacc => ?_)
  · exact I.ok.hd hc
  · have v1 : Vals (keyRefs es) acc'.toList := keyRefs_vals p (by rw [Array.length_toList, hacc.1, hsz]) fun i v e => by
      obtain ⟨hi, e2⟩ := hacc.2 i v (by rw [← Array.getElem?_toList]; exact e)
      obtain ⟨z, h1, h2⟩ := hk i hi
      exact ⟨z, h1, by rw [e2, h2]⟩
    have ok : ObjOk X.prog X.w (upd H s.heap.objs.size (.lst (keyRefs es))) h' s.heap.objs.size (.lst (keyRefs es)) := ⟨by unfold keyRefs; rw [List.length_map]; exact hl, acc'.toList, c', v1, by rw [Array.toArray_toList]; exact hD⟩
    exact ⟨.ref s.heap.objs.size, _, I.laid (t' := tk) hk' (Nat.le_refl _) ok, rfl, q _ (I.hok.fresh (Nat.le_refl _))⟩
theorem truthyN {prog : Program} {w : World} {A : Around} {E : Value → Shared → Prop} {d : Addr} {zs : List (NK × Addr × Value)} {Q : Bool → Shared → Prop} (hd : (d == sysModules) = false) (hm : s.heap.DictOfH (nestedKind prog w) d zs) (hfit : (zs.length : Int) < 2 ^ 63)
    (h : Q (!zs.isEmpty) { s with toks := s.toks + 1 + 1 }) : wpAny (model prog w) A (truthy (.ref d)) Q E s := by
  have hne : ((zs.length : Int) != 0) = !zs.isEmpty := by cases zs <;> simp <;> omega
  have key : wpAny (model prog w) A (runValue (.builtin "len" ⟨[.ref d], []⟩)) (fun r s' => r = .int zs.length (s.toks + 1) ∧ Q (!zs.isEmpty) s') E s := by
    refine wpAny_runValue (codeAny_builtin entry_len ?_)
    rw [Around.under_plainId plain_len _]
    exact wpAny_mono (wpAny_len_body_dictH (Q := fun r s' => r = .int zs.length (s.toks + 1) ∧ Q (!zs.isEmpty) s') hd hm hfit ⟨rfl, h⟩)
      (fun fin s' h' => by obtain ⟨r, rfl, hq⟩ := h'; exact hq) fun _ _ e => e
  unfold truthy
  first
    | refine wpAny_bind (wpAny_callSpecial?_none (name := Str.ofString "__bool__") hm.typeIs noBool_dict ?_)
    | refine wpAny_bind (wpAny_pure (wpAny_bind (wpAny_callSpecial?_none (name := Str.ofString "__bool__") hm.typeIs noBool_dict ?_)))
  first
    | refine wpAny_bind (wpAny_specialOf (name := Str.ofString "__len__") hm.typeIs F.slot_dict_len.lookup ?_)
    | refine wpAny_bind (wpAny_pure (wpAny_bind (wpAny_specialOf (name := Str.ofString "__len__") hm.typeIs F.slot_dict_len.lookup ?_)))
  first
    | exact wpAny_bind (wpAny_mono key (fun r s' h' => by obtain ⟨rfl, hq⟩ := h'; exact wpAny_pure (hne ▸ hq)) fun _ _ e => e)
    | exact wpAny_bind (wpAny_pure (wpAny_bind (wpAny_mono key (fun r s' h' => by obtain ⟨rfl, hq⟩ := h'; exact wpAny_pure (hne ▸ hq)) fun _ _ e => e)))
/-- bool(v) by the truth of v -/
theorem meets_bool_in {prog : Program} {w : World} (v : Value) : MeetsIn prog w (Builtin.«bool.__new__» ⟨[.type "bool", v], []⟩) (fun A R s => wpAny (model prog w) A.in1 (truthy v) (fun b s' => R (.ok (.ret (.bool b))) s') (fun e s' => R (.error e) s') s) :=
  .of_wp fun A R s hs => by
    obtain ⟨hp, g, d, tk, os⟩ := s
    have f1 := F.conv_sub_bool
    have f2 : wpAny (model prog w) A.in1 (truthy v) (fun b s' => wpAny (model prog w) A.in1 (ret (.bool b)) (fun fin s' => ∃ v, fin = .done (.ret v) ∧ R (.ok (.ret v)) s') (fun e s' => R (.error e) s') s') (fun e s' => R (.error e) s') ⟨hp, g, d, tk, os⟩ :=
      wpAny_mono hs (fun b s' z => wpAny_pure ⟨_, rfl, z⟩) fun _ _ z => z
    unfold Builtin.«bool.__new__»
    repeat (any_goals (first | exact f2 | exact wpAny_bind f2 | assumption | wp_step))
theorem call_bool_of {prog : Program} {w : World} {A : Around} {E : Value → Shared → Prop} {v : Value} {Q : Value → Shared → Prop} (h : wpAny (model prog w) A.in1.in1 (truthy v) (fun b s' => Q (.bool b) s') E s) : wpAny (model prog w) A (call (.type "bool") [v]) Q E s := by
  refine callType_newIn F.called_bool F.newNe_bool (F.typeCall_bool_1 v) (F.newCall_bool_1 v) (fun obj => F.args_object_init_2 obj v) F.entry_bool_new (meets_bool_in v) ?_
  refine wpAny_mono h (fun b s' z => ?_) fun _ _ z => z
  exact ⟨rfl, z⟩
def rBoolN (P : Program) (w : World) : List V → Hp → VK → Prop := fun xs H Q => ∃ (d : Addr) (es : List Ent), xs = [.ref d] ∧ Dct P w H d es ∧ Q (.bl (!es.isEmpty)) H
theorem cr_boolN {P : Program} {w : World} (hP : X.prog = P := by rfl) (hw : X.w = w := by rfl) : CallR X (.type "bool") (rBoolN P w) := by
  subst hP hw
  intro pins s σ H vs us Q I r h
  obtain ⟨d, es, rfl, D, q⟩ := h
  rw [Vals.ref1 r]
  obtain ⟨zs, m, p, hl, hs⟩ := D.keyed I.hok
  have e : es.length = zs.length := Alike.len p
  refine call_bool_of (truthyN hs m (by rw [← e]; rw [sizeLine_eq] at hl; omega) ?_)
  refine ⟨.bl (!es.isEmpty), H, I.tok _, ?_, q⟩
  show Value.bool _ = Value.bool _
  congr 1
  cases es <;> cases zs <;> first | rfl | cases e
/-- d.m(..) -/
def tBMN (P : Program) (w : World) (r : V → List V → Hp → VK → Prop) (to : TE) (t : TA) : TE := fun σ H Q => to σ H fun x H1 => (∃ (d : Addr) (es : List Ent), x = .ref d ∧ Dct P w H1 d es) ∧ t σ H1 fun xs H2 => r x xs H2 Q
theorem pe_bmN {P : Program} {w : World} {o e : Expr} {es : List Expr} {to : TE} {t : TA} {name : Str} {apos cpos : Pos} {id : String} {r : V → List V → Hp → VK → Prop} (pa : PlainAttrs "dict") (slot : Slot "dict" name id) (hty : typeOf (.builtin id) = pure (.type "method_descriptor")) (hm : MtR X id r) (ho : PE X o to) (ha : PA X (e :: es) t)
    (hP : X.prog = P := by rfl) (hw : X.w = w := by rfl)
    (hbase : attributeBase o name X.env (eval o X.env) = eval o X.env := by rfl)
    (hfew : ((backTo cpos (starEach (e :: es) X.env)).all (fun x => !x.1) && (backToKw cpos (keywordEach [] X.env)).all (fun x => x.1.isSome)
      && decide ((e :: es).length + ([] : List Keyword).length + (if ([] : List Keyword).isEmpty then 0 else 1) < 30)) = true := by rfl)
    (hline : (apos.endLine == cpos.line) = true := by rfl) (hs : starEach (e :: es) X.env = (false, eval e X.env) :: starEach es X.env := by rfl) (hplain : (backTo cpos (starEach es X.env)).any (·.1) = false := by rfl) :
    PE X (.Call (.Attribute o name apos) (e :: es) [] cpos) (tBMN P w r to t) := by
  subst hP hw
  refine ⟨fun pins s σ H Q I h => ?_⟩
  refine wpAny_Call_method_late hbase hfew hline rfl (thn (ho.run pins s σ H _ I h) fun v s1 ⟨x, H1, I1, r1, ⟨d, ent, ex, D⟩, q1⟩ => ?_)
  subst ex
  obtain rfl : v = Value.ref d := r1
  obtain ⟨zs, m, p, hl, hsy⟩ := D.keyed I1.hok
  obtain ⟨oo, _, _, g, xx, _⟩ := m
  refine ⟨"dict", id, pa, slot, hty, ⟨oo, g, xx.1⟩, fun a e2 => ?_, ?_⟩
  · cases e2
    exact ⟨oo, g, xx.2.1⟩
  have hA := ha.run cpos pins s1 σ H1 _ I1 q1
  rw [hs] at hA ⊢
  refine Calls.callWith_builtin (by show (false || (backTo cpos (starEach es X.env)).any (·.1)) = false; rw [hplain] <;> rfl) (Calls.evalArgs_plain ?_)
  exact thn hA fun us s2 ⟨vs, H2, I2, r2, q2⟩ => hm pins s2 σ H2 (.ref d) vs (.ref d) us Q I2 rfl r2 q2
end
end DN
set_option Elab.async false
set_option linter.all false
set_option maxRecDepth 100000
set_option maxHeartbeats 4000000
namespace OP
open PySem PySem.Spec PyProof.Rows L2 CM
section
variable {X : Cx} {CX : CXT} {pins : List (Addr × Obj)} {σ : L2.St} {H : Hp} {s : Shared} {a C dx g : Addr} {fs : List (Str × V)} {nm : Str} {k : Nat} {sp : Sp} {E : XK}
theorem Room.in2 (hr : Room (k + 2) X.A) : Room k X.A.in1.in1 := (show Room (k + 1) X.A.in1 from Room.in1 hr).in1
/-- bool(o) -/
theorem truthy_own2 {Q : Bool → Shared → Prop} {q : Bool → Hp → Prop} (o : Own X.K C "__bool__" g) (F : FnR X.prog X.w X.K X.mg X.base CX k g sp) (hr : Room (k + 2) X.A) (hx : Passes CX X E) (I : Inv X pins σ H s) (hins : H a = some (.ins C dx fs))
    (h : sp [.ref a] H (fun r H' => ∃ b, r = .bl b ∧ q b H') E) (fin : ∀ b H' s', Inv X pins σ H' s' → q b H' → Q b s') : wpAny (model X.prog X.w) X.A.in1.in1 (truthy (.ref a)) Q X.xe s := by
  obtain ⟨ox, od, J, hd⟩ := inst_of I hins
  have run : wpAny (model X.prog X.w) X.A.in1.in1 (call (.ref g) [.ref a]) (EP X pins σ fun r H' => ∃ b, r = .bl b ∧ q b H') X.xe s :=
    wpAny_mono (wpAny_call (SlX.run_at (us := [.ref a]) (ws := [.ref a]) F (Room.in2 hr) I.env0.in1.in1 hx I (.cons rfl .nil) h)) (fun _ _ z => z) fun _ _ z => z
  have sp1 : wpAny (model X.prog X.w) X.A.in1.in1 (callSpecial? (.ref a) (Str.ofString "__bool__")) (fun r s' => ∃ b, r = some (.bool b) ∧ Q b s') X.xe s :=
    PySem.W.special_fn I.kIn J o.at_ (beq_iff_eq.mp o.fn) (wpAny_mono run (fun w s' z => by
      obtain ⟨_, H', I', rw, b, rfl, q'⟩ := z
      cases (show w = Value.bool b from rw)
      exact ⟨b, rfl, fin b H' s' I' q'⟩) fun _ _ z => z)
  unfold truthy
  first
    | (refine wpAny_bind (m := callSpecial? (.ref a) (Str.ofString "__bool__")) (wpAny_mono sp1 (fun r s' hr => ?_) fun _ _ y => y))
    | (refine wpAny_bind (wpAny_pure ?_); refine wpAny_bind (m := callSpecial? (.ref a) (Str.ofString "__bool__")) (wpAny_mono sp1 (fun r s' hr => ?_) fun _ _ y => y))
  obtain ⟨b, rfl, hq⟩ := hr
  exact wpAny_pure hq
def rBoolO (C : Addr) (sp : Sp) (E : XK) : List V → Hp → VK → Prop := fun xs H Q => ∃ a dx fs, xs = [V.ref a] ∧ H a = some (.ins C dx fs) ∧ sp [.ref a] H (fun r H' => ∃ b, r = .bl b ∧ Q (.bl b) H') E
theorem cr_boolO (o : Own X.K C "__bool__" g) (F : FnR X.prog X.w X.K X.mg X.base CX k g sp) (hr : Room (k + 2) X.A) (hx : Passes CX X E) : CallR X (.type "bool") (rBoolO C sp E) := by
  intro pins s σ H vs us Q I r h
  obtain ⟨a, dx, fs, rfl, hins, q⟩ := h
  rw [Vals.ref1 r]
  exact DN.call_bool_of (truthy_own2 (q := fun b H' => Q (.bl b) H') o F hr hx I hins q fun b H' s' I' q' => ⟨.bl b, H', I', rfl, q'⟩)
/-- o(k = v, ..) -/
theorem callOK_of {M : Model} {A : Around} {E : Value → Shared → Prop} {s : Shared} {a : Addr} {pos : Pos} {Q : Value → Shared → Prop} {args : List (Bool × Sem Value)} {kws : List (Option Str × Sem Value)} (hplain : (args.any (·.1) || kws.any (·.1.isNone)) = false)
    (h : wpAny M A (evalArgs (.ref a) true args kws) (fun z s₁ => (∃ C ox od, PySem.W.InstAt s₁.heap a ox C od ∧ ox.data = .plain) ∧ wpAny M A (call (.ref a) ([] ++ z.pos) z.kw) Q E s₁) E s) : wpAny M A (callWith pos (.ref a) [] args kws) Q E s := by
  unfold callWith
  refine wpAny_bind (wpAny_holding (wpAny_mono h (fun z s₁ h₁ => wpAny_bind (wpAny_standAt ?_)) fun _ _ y => y))
  obtain ⟨⟨C, ox, od, J, hd⟩, h₁⟩ := h₁
  have L := PySem.W.kco_keeper (M := M) J hd
  simp only [hplain]
  refine wpAny_bind (L.here ?_)
  have tail : ∀ {t : Sem Value}, wpAny M A t Q E s₁ → wpAny M A (t >>= fun r => holding [r] point >>= fun _ => pure r) Q E s₁ :=
    fun ht => wpAny_bind (wpAny_mono ht (fun r s₂ hr => wpAny_bind (wpAny_holding (wpAny_point (wpAny_pure hr)))) fun _ _ y => y)
  exact tail (wpAny_operateT h₁)
def tCallOK (X : Cx) (C : Addr) (m : Nat) (sp : Sp) (gV : List V → List V → List V) (E : XK) (tf : TE) (tk : TA) : TE := fun σ H Q => tf σ H fun y H1 => ∃ a, y = V.ref a ∧ tk σ H1 fun zs H2 => zs.length = m ∧ (∃ dx fs, H2 a = some (.ins C dx fs)) ∧ sp (gV [.ref a] zs) H2 Q E
theorem pe_callOK {fe : Expr} {kws : List Keyword} {pos : Pos} {tf : TE} {tk : TA} {fd : FuncData} {ps ks : List Str} {gg : List Value → List Value → List Value} {gV : List V → List V → List V} (hf : PE X fe tf) (c : StX.CallO X.K C g)
    (F : FnOk X.prog X.w X.K X.mg X.base CX k g fd ps sp) (hb : KBn X.K fd ps 1 ks gg gV) (hr : Room k X.A) (hx : Passes CX X E) (hkw : PK X kws tk) (hall : (backToKw pos (keywordEach kws X.env)).all (·.1.isSome) = true := by rfl)
    (hks : (backToKw pos (keywordEach kws X.env)).filterMap (·.1) = ks := by rfl)
    (ht : eval (.Call fe [] kws pos) X.env = (do callWith pos (← eval fe X.env) [] (backTo pos (starEach [] X.env)) (backToKw pos (keywordEach kws X.env))) := by rfl)
    (hpl : ((backTo pos (starEach [] X.env)).any (·.1) || (backToKw pos (keywordEach kws X.env)).any (·.1.isNone)) = false := by rfl) : PE X (.Call fe [] kws pos) (tCallOK X C ks.length sp gV E tf tk) := by
  refine ⟨fun pins s σ H Q I h => ?_⟩
  rw [ht]
  refine wpAny_bind (thn (hf.run pins s σ H _ I h) fun u s1 ⟨y, H1, I1, ry, a, ey, q⟩ => ?_)
  subst ey
  obtain rfl : u = Value.ref a := ry
  refine callOK_of hpl (evalArgs_kw2_nil hall ?_)
  refine thn (hkw.run pos pins s1 σ H1 _ I1 q) fun ws s2 ⟨zs, H2, I2, rz, l2, ⟨dx, fs, hins⟩, q2⟩ => ?_
  obtain ⟨ox, od, J, hd⟩ := inst_of I2 hins
  refine ⟨⟨C, ox, od, J, hd⟩, ?_⟩
  rw [hks]
  have e2 : ws.length = ks.length := rz.length.symm.trans l2
  refine wpAny_call (PySem.W.kco_code (a := ⟨[], ks.zip ws⟩) I2.kIn J hd c.at_ c.fn c.fi (codeAny_mono (F.run X.A X.stack s2 H2 ⟨[.ref a], ks.zip ws⟩ (gg [.ref a] ws) (gV [.ref a] zs) Q E hr I2.env0 (hb.to s2 [.ref a] ws I2.kIn rfl e2) (hb.rel (vs := [V.ref a]) (us := [Value.ref a]) (.cons rfl .nil) rz) q2) fun r s' hq => ?_))
  cases r with
  | error e => exact hx pins σ H2 s2 e s' I2 hq
  | ok fl =>
    cases fl with
    | ret u => exact I2.after hq
    | next => exact False.elim hq
    | brk => exact False.elim hq
    | cont => exact False.elim hq
/-- keywords that stand for all parameters but the first -/
theorem kbn_all {x qual : Str} {params : Arguments} {body : List Stmt} {scope : Scope} {K : PySem.W.Frag} {f : Addr} {fd : FuncData} {ps ks : List Str} (F : FunD K x qual params body scope [] [] f fd) (n : Nat) (gg : {α : Type} → List α → List α → List α)
    (hrel : ∀ {vs zs : List V} {us ws : List Value}, Vals vs us → Vals zs ws → Vals (gg vs zs) (gg us ws))
    (h : ∀ (kV doc pm : Value) (an : Option Addr) (cdv ct : Value) (us ws : List Value), us.length = n → ws.length = ks.length → bindArgs (PySem.W.fnOf x qual params body scope .none kV doc pm an cdv ct) ⟨us, ks.zip ws⟩ = pure (ps.zip (gg us ws))) : KBn K fd ps n ks (fun us ws => gg us ws) (fun vs zs => gg vs zs) := by
  obtain ⟨oc, od, dV, kV, doc, pm, an, cdv, ct, osl, rfl, lk, hcd, hD, hK⟩ := F.ex
  rcases hD with ⟨_, rfl⟩ | ⟨e, _⟩
  · exact ⟨fun s us ws _ l1 l2 => .of_eq (h kV doc pm an cdv ct us ws l1 l2), fun r1 r2 => hrel r1 r2⟩
  · exact absurd rfl e
/-- o == v, o an instance of C, v of any type that is not below C -/
def rEqO (K : PySem.W.Frag) (C : Addr) (sp : Sp) (E : XK) : R2 := fun x y H Q => ∃ a dx fs t, x = .ref a ∧ H a = some (.ins C dx fs) ∧ TyX K H y t ∧ PySem.W.notFirst K C t = true ∧ sp [x, y] H (fun r H' => ∃ b, r = .bl b ∧ Q (.bl b) H') E
end
end OP
set_option Elab.async false
set_option linter.all false
set_option maxRecDepth 100000
set_option maxHeartbeats 4000000
namespace DN
open PySem PySem.Spec PyProof.Rows L2 CM RZ
/-! ### == and != of two dicts -/
section
variable {prog : Program} {w : World} {K : Type} [DecidableEq K] {knd : HeapKind prog w K} {A : Around} {E : Value → Shared → Prop} {s : Shared}
def hitN (ev : Value → Value → Bool) (kb : List (K × Addr × Value)) (z : K × Addr × Value) : Bool := match atKey kb z.1 with
  | none => false
  | some p => ev z.2.2 p.2
theorem same_pairsN {nm : String} {a b : Addr} {ka kb : List (K × Addr × Value)} {ev : Value → Value → Bool} {Q : Bool → Shared → Prop} (hr : knd.room A) (ha : (a == sysModules) = false) (hb : (b == sysModules) = false)
    (da : s.heap.DictOfH knd a ka) (db : s.heap.DictOfH knd b kb) (hits : ∀ z ∈ ka, ∀ p, atKey kb z.1 = some p → SeqAt.EqAt A s z.2.2 p.2 (ev z.2.2 p.2)) (h : Q (ka.length == kb.length && ka.all (hitN ev kb)) s) :
    wpAny (model prog w) A (Builtin.Dict.samePairs nm a b) Q E s := by
  have da' := da
  have db' := db
  obtain ⟨oa, es, ep, hoa, _, hda, hea, hka, hna⟩ := da
  obtain ⟨ob, es', ep', hob, _, hdb, heb, hkb, hnb⟩ := db
  have hla : es.size = ka.length := size_of_entries hea
  have hlb : es'.size = kb.length := size_of_entries heb
  unfold Builtin.Dict.samePairs Builtin.Dict.showsAll
  rw [if_neg (show ¬ (a == sysModules) = true by rw [ha]; exact Bool.false_ne_true), if_neg (show ¬ (b == sysModules) = true by rw [hb]; exact Bool.false_ne_true)]
  refine wpAny_bind (wpAny_pure (wpAny_bind (wpAny_pure ?_)))
  refine wpAny_bind (wpAny_dictEntries hoa hda ?_)
  dsimp only
  refine wpAny_bind (wpAny_dictEntries hob hdb ?_)
  by_cases hsz : es.size = es'.size
  case neg =>
    rw [if_pos (by simpa using hsz)]
    have hbf : (ka.length == kb.length) = false := by rw [← hla, ← hlb]; simpa using hsz
    rw [hbf, Bool.false_and] at h
    exact wpAny_bind (wpAny_rule (wpAny_pure h))
  case pos =>
    have hbt : (ka.length == kb.length) = true := by rw [← hla, ← hlb]; simpa using hsz
    rw [hbt, Bool.true_and] at h
    rw [if_neg (by rw [hsz]; simp)]
    refine wpAny_bind (wpAny_dictEpoch hoa hda ?_)
    refine wpAny_bind ?_
    rw [Std.Legacy.Range.forIn_eq_forIn_range']
    simp only [Std.Legacy.Range.size, Nat.sub_zero, Nat.add_sub_cancel, Nat.div_one]
    refine wpAny_forIn_list _
      (fun rest q s' => s' = s ∧ q = (none, ()) ∧ ∃ i, rest = List.range' i (es.size - i) ∧ i ≤ es.size ∧ ka.all (hitN ev kb) = (ka.drop i).all (hitN ev kb))
      _ ?_ ?_ _ _ ⟨rfl, rfl, 0, by simp, Nat.zero_le _, rfl⟩
    · rintro x rest q s' ⟨rfl, rfl, i, hr', hi, hpre⟩
      have hlt : i < es.size := by
        rcases Nat.lt_or_ge i es.size with h | h
        · exact h
        · rw [Nat.sub_eq_zero_of_le h] at hr'; simp at hr'
      obtain ⟨rfl, hrest⟩ : x = i ∧ rest = List.range' (i + 1) (es.size - (i + 1)) := by
        have e : es.size - i = (es.size - (i + 1)) + 1 := by omega
        rw [e, List.range'_succ] at hr'
        injection hr' with h1 h2
        exact ⟨h1, h2⟩
      refine wpAny_bind (wpAny_dictEntries hoa hda ?_)
      have hlt' : x < ka.length := by rw [← hla]; exact hlt
      have hx : es[x]? = some (entryOfKey knd ka[x]) := by rw [entry_at hea, List.getElem?_eq_getElem hlt']; rfl
      rw [hx]
      have hdrop : ka.drop x = ka[x] :: ka.drop (x + 1) := List.drop_eq_getElem_cons hlt'
      have hmem : ka[x] ∈ ka := List.getElem_mem hlt'
      show wpAny _ _ (holding [.ref ka[x].2.1, ka[x].2.2] _ >>= _) _ _ _
      refine wpAny_bind (wpAny_holding (wpAny_bind (wpAny_dictFind_heap hr (hka _ hmem) hob hdb heb hkb hnb (fun hn => ?_) fun j p hj => ?_)))
      · have hat : atKey kb ka[x].1 = none := by
          cases e : atKey kb ka[x].1 with
          | none => rfl
          | some p =>
            unfold atKey at e
            cases e2 : kb.find? (fun z => decide (z.1 = ka[x].1)) with
            | none => rw [e2] at e; cases e
            | some z =>
              have hz := List.find?_some e2
              obtain ⟨j, hj, ej⟩ := List.mem_iff_getElem.mp (List.mem_of_find?_eq_some e2)
              exact absurd (show kb[j]? = some (ka[x].1, z.2) by rw [List.getElem?_eq_getElem hj, ej]; rw [← of_decide_eq_true hz]) (hn j z.2)
        have hf : ka.all (hitN ev kb) = false := by
          rw [hpre, hdrop, List.all_cons]
          have : hitN ev kb ka[x] = false := by unfold hitN; rw [hat]
          rw [this, Bool.false_and]
        rw [hf] at h
        refine wpAny_pure ?_
        show wpAny _ _ (if (!false) = true then _ else _) _ _ _
        rw [if_pos (by decide)]
        exact wpAny_pure (wpAny_pure h)
      · have hat : atKey kb ka[x].1 = some p := atKey_of_get hnb hj
        have hjl : es'[j]? = some (entryOfKey knd (ka[x].1, p)) := by rw [entry_at heb, hj]; rfl
        refine wpAny_bind (wpAny_dictEntries hob hdb ?_)
        rw [hjl]
        have he := hits _ hmem p hat
        have hh : hitN ev kb ka[x] = ev ka[x].2.2 p.2 := by unfold hitN; rw [hat]
        refine wpAny_holding (he prog w _ _ ?_)
        cases ee : ev ka[x].2.2 p.2 with
        | false =>
          have hf : ka.all (hitN ev kb) = false := by rw [hpre, hdrop, List.all_cons, hh, ee, Bool.false_and]
          rw [hf] at h
          show wpAny _ _ (if (!false) = true then _ else _) _ _ _
          rw [if_pos (by decide)]
          exact wpAny_pure (wpAny_pure h)
        | true =>
          have hf : ka.all (hitN ev kb) = (ka.drop (x + 1)).all (hitN ev kb) := by rw [hpre, hdrop, List.all_cons, hh, ee, Bool.true_and]
          show wpAny _ _ (if (!true) = true then _ else _) _ _ _
          rw [if_neg (by decide)]
          refine wpAny_bind (wpAny_dictEpoch hoa hda ?_)
          rw [if_neg (by simp)]
          exact wpAny_pure ⟨rfl, rfl, x + 1, hrest, hlt, hf⟩
    · rintro q s' ⟨rfl, rfl, i, hr', hi, hpre⟩
      have hin : i = es.size := by
        rcases Nat.lt_or_ge i es.size with h | h
        · have e : es.size - i = (es.size - (i + 1)) + 1 := by omega
          rw [e, List.range'_succ] at hr'; exact nomatch hr'
        · exact Nat.le_antisymm hi h
      refine wpAny_pure ?_
      rw [hin, hla, List.drop_length, List.all_nil] at hpre
      rw [hpre] at h
      exact h
theorem eq_dictN {a b : Addr} {ka kb : List (K × Addr × Value)} {ev : Value → Value → Bool} {Q : Value → Shared → Prop} (hr : knd.room A.in1) (ha : (a == sysModules) = false) (hb : (b == sysModules) = false)
    (da : s.heap.DictOfH knd a ka) (db : s.heap.DictOfH knd b kb) (hu : A.units < cLine) (hits : ∀ z ∈ ka, ∀ p, atKey kb z.1 = some p → SeqAt.EqAt A.in1 s z.2.2 p.2 (ev z.2.2 p.2)) (h : Q (.bool (ka.length == kb.length && ka.all (hitN ev kb))) s) :
    wpAny (model prog w) A (compareOp .Eq (.ref a) (.ref b)) Q E s := by
  refine wpAny_richCompare_same_room (op := .Eq) da.typeIs db.typeIs PySem.F.slot_dict_eq (wpAny_call_entry PySem.F.slot_dict_eq da.typeIs PySem.F.entry_dict_eq ?_ (PySem.F.args_dict_eq_2 _ _)) hu
  show wpAny _ _ (Builtin.Dict.dictSlotArgs "__eq__" ⟨[.ref a, .ref b], []⟩ >>= _) _ _ s
  refine wpAny_bind ?_
  unfold Builtin.Dict.dictSlotArgs
  refine wpAny_bind (wpAny_notOrdered_dict da.typeIs ?_)
  show wpAny _ _ (pure (Value.ref a, Value.ref b)) _ _ s
  refine wpAny_pure ?_
  refine wpAny_bind (wpAny_isInstance (T := "dict") db.typeIs PySem.F.sub_dict_dict ?_)
  simp only [Bool.not_true, Bool.false_eq_true, if_false]
  refine wpAny_bind (wpAny_pure (wpAny_bind (wpAny_pure ?_)))
  refine wpAny_bind (same_pairsN hr ha hb da db hits ?_)
  refine wpAny_pure ⟨_, rfl, ?_, ?_⟩
  · exact fun x => nomatch x
  · generalize (ka.length == kb.length && ka.all (hitN ev kb)) = r at h
    cases r <;> exact h
theorem ne_dictN {a b : Addr} {ka kb : List (K × Addr × Value)} {ev : Value → Value → Bool} {Q : Value → Shared → Prop} (hr : knd.room A.in1) (ha : (a == sysModules) = false) (hb : (b == sysModules) = false)
    (da : s.heap.DictOfH knd a ka) (db : s.heap.DictOfH knd b kb) (hu : A.units < cLine) (hits : ∀ z ∈ ka, ∀ p, atKey kb z.1 = some p → SeqAt.EqAt A.in1 s z.2.2 p.2 (ev z.2.2 p.2)) (h : Q (.bool (!(ka.length == kb.length && ka.all (hitN ev kb)))) s) :
    wpAny (model prog w) A (compareOp .NotEq (.ref a) (.ref b)) Q E s := by
  refine wpAny_richCompare_same_room (op := .NotEq) da.typeIs db.typeIs PySem.F.slot_dict_ne (wpAny_call_entry PySem.F.slot_dict_ne da.typeIs PySem.F.entry_dict_ne ?_ (PySem.F.args_dict_ne_2 _ _)) hu
  show wpAny _ _ (Builtin.Dict.dictSlotArgs "__ne__" ⟨[.ref a, .ref b], []⟩ >>= _) _ _ s
  refine wpAny_bind ?_
  unfold Builtin.Dict.dictSlotArgs
  refine wpAny_bind (wpAny_notOrdered_dict da.typeIs ?_)
  show wpAny _ _ (pure (Value.ref a, Value.ref b)) _ _ s
  refine wpAny_pure ?_
  refine wpAny_bind (wpAny_isInstance (T := "dict") db.typeIs PySem.F.sub_dict_dict ?_)
  simp only [Bool.not_true, Bool.false_eq_true, if_false]
  refine wpAny_bind (wpAny_pure (wpAny_bind (wpAny_pure ?_)))
  refine wpAny_bind (same_pairsN hr ha hb da db hits ?_)
  refine wpAny_pure ⟨_, rfl, ?_, ?_⟩
  · exact fun x => nomatch x
  · generalize (ka.length == kb.length && ka.all (hitN ev kb)) = r at h
    cases r <;> exact h
end
/-! ### the same by values: flags, ints, texts, None -/
def fl4 : V → Bool
  | .bl _ | .int _ | .str _ | .non => true
  | _ => false
def flD : V → PyData
  | .bl b => .bool b
  | .int i => .int i
  | .str z => .str z
  | _ => .none
def vlD : Value → PyData
  | .bool b => .bool b
  | .int i _ => .int i
  | .str z _ => .str z
  | _ => .none
theorem fl_rel {v : V} {u : Value} {h : Heap} (f : fl4 v = true) (r : RelV v u) : vlD u = flD v ∧ Reads h u (flD v) [] ∧ (flD v).plain = true ∧ (flD v).depth ≤ 1 := by
  cases v with
  | bl b =>
    obtain rfl : u = .bool b := r
    exact ⟨rfl, .bool b, by simp only [flD, PyData.plain], by simp [flD, PyData.depth]⟩
  | int i =>
    obtain ⟨t, rfl⟩ := (show ∃ t, u = Value.int i t from r)
    exact ⟨rfl, .int i t, by simp only [flD, PyData.plain], by simp [flD, PyData.depth]⟩
  | str z =>
    obtain ⟨t, rfl⟩ := (show ∃ t, u = Value.str z t from r)
    exact ⟨rfl, .str z t, by simp only [flD, PyData.plain], by simp [flD, PyData.depth]⟩
  | non =>
    obtain rfl : u = .none := r
    exact ⟨rfl, .none, by simp only [flD, PyData.plain], by simp [flD, PyData.depth]⟩
  | _ => cases f
theorem fl_val {v : V} {u : Value} (f : fl4 v = true) (r : RelV v u) : vlD u = flD v := by
  cases v with
  | bl b =>
    obtain rfl : u = .bool b := r
    rfl
  | int i =>
    obtain ⟨t, rfl⟩ := (show ∃ t, u = Value.int i t from r)
    rfl
  | str z =>
    obtain ⟨t, rfl⟩ := (show ∃ t, u = Value.str z t from r)
    rfl
  | non =>
    obtain rfl : u = .none := r
    rfl
  | _ => cases f
def hitE (ys : List Ent) (x : Ent) : Bool := match at_ ys x.1 with
  | none => false
  | some v => PyData.eqv (flD x.2.2) (flD v)
def eqE (xs ys : List Ent) : Bool := xs.length == ys.length && xs.all (hitE ys)
def FlE (xs ys : List Ent) : Prop := ∀ x ∈ xs, ∀ v, at_ ys x.1 = some v → fl4 x.2.2 = true ∧ fl4 v = true
abbrev evV : Value → Value → Bool := fun u v => PyData.eqv (vlD u) (vlD v)
theorem alike_mem {xs : List Ent} {zs : List (NK × Addr × Value)} (p : Alike xs zs) : ∀ z ∈ zs, ∃ x ∈ xs, x.1 = z.1 ∧ RelV x.2.2 z.2.2 := by
  induction p with
  | nil =>
    intro z hz
    cases hz
  | @cons x z xs zs h t ih =>
    intro y hy
    rcases List.mem_cons.mp hy with rfl | hy
    · exact ⟨x, List.mem_cons_self .., h.1, h.2.2⟩
    · obtain ⟨x', m, r⟩ := ih y hy
      exact ⟨x', List.mem_cons_of_mem _ m, r⟩
theorem all_hits {xs ys : List Ent} {zs zt : List (NK × Addr × Value)} (p : Alike xs zs) (q : Alike ys zt) (f : FlE xs ys) : zs.all (hitN evV zt) = xs.all (hitE ys) := by
  induction p with
  | nil => rfl
  | @cons x z xs zs h t ih =>
    have f2 : FlE xs ys := fun x hx => f x (List.mem_cons_of_mem _ hx)
    rw [List.all_cons, List.all_cons, ih f2]
    congr 1
    unfold hitN hitE
    rw [← h.1]
    cases e : at_ ys x.1 with
    | none => rw [at_none q e]
    | some v =>
      obtain ⟨qq, e2, rr⟩ := at_some q e
      obtain ⟨f3, f4⟩ := f x (List.mem_cons_self ..) v e
      rw [e2]
      show PyData.eqv (vlD z.2.2) (vlD qq.2) = _
      rw [fl_val f3 h.2.2, fl_val f4 rr]
section
variable {X : Cx} {pins : List (Addr × Obj)} {σ : L2.St} {H : Hp} {s : Shared}
theorem hits_of {A : Around} {h : Heap} {xs ys : List Ent} {zs zt : List (NK × Addr × Value)} (p : Alike xs zs) (q : Alike ys zt) (f : FlE xs ys) (hu : A.units + 4 < cLine) : ∀ z ∈ zs, ∀ pp, atKey zt z.1 = some pp → SeqAt.EqAt A s z.2.2 pp.2 (evV z.2.2 pp.2) := by
  intro z hz pp hp
  obtain ⟨x, hx, e1, rx⟩ := alike_mem p z hz
  cases e : at_ ys x.1 with
  | none =>
    rw [← e1, at_none q e] at hp
    cases hp
  | some v =>
    obtain ⟨qq, e2, rr⟩ := at_some q e
    rw [← e1, e2] at hp
    cases hp
    obtain ⟨f3, f4⟩ := f x hx v e
    obtain ⟨a1, a2, a3, a4⟩ := fl_rel (h := s.heap) f3 rx
    obtain ⟨b1, b2, b3, b4⟩ := fl_rel (h := s.heap) f4 rr
    show SeqAt.EqAt A s z.2.2 pp.2 (PyData.eqv (vlD z.2.2) (vlD pp.2))
    rw [a1, b1]
    exact SeqAt.eqAt_plain _ _ A s _ _ _ _ a2 b2 a3 b3 (by omega)
def rEqN (P : Program) (w : World) (ne : Bool) : R2 := fun x y H Q => ∃ (a b : Addr) (xs ys : List Ent), x = .ref a ∧ y = .ref b ∧ Dct P w H a xs ∧ Dct P w H b ys ∧ FlE xs ys ∧ Q (.bl (if ne then !(eqE xs ys) else eqE xs ys)) H
theorem op_eqN {P : Program} {w : World} (hu : X.A.units + 64 < cLine) (hP : X.prog = P := by rfl) (hw : X.w = w := by rfl) : OpR X (compareOp .Eq) (rEqN P w false) := by
  subst hP hw
  intro pns s σ H x y v u Q I rx ry h
  obtain ⟨a, b, xs, ys, rfl, rfl, Da, Db, f, q⟩ := h
  cases (show v = Value.ref a from rx)
  cases (show u = Value.ref b from ry)
  obtain ⟨za, ma, pa, hla, hsa⟩ := Da.keyed I.hok
  obtain ⟨zb, mb, pb, hlb, hsb⟩ := Db.keyed I.hok
  refine eq_dictN (ev := evV) (room_in (by omega)) hsa hsb ma mb (by omega) (hits_of (h := s.heap) pa pb f (by show X.A.units + 1 + 4 < cLine; omega)) ⟨.bl _, H, I, rfl, ?_⟩
  rw [all_hits pa pb f, ← Alike.len pa, ← Alike.len pb]
  exact q
theorem op_neN {P : Program} {w : World} (hu : X.A.units + 64 < cLine) (hP : X.prog = P := by rfl) (hw : X.w = w := by rfl) : OpR X (compareOp .NotEq) (rEqN P w true) := by
  subst hP hw
  intro pns s σ H x y v u Q I rx ry h
  obtain ⟨a, b, xs, ys, rfl, rfl, Da, Db, f, q⟩ := h
  cases (show v = Value.ref a from rx)
  cases (show u = Value.ref b from ry)
  obtain ⟨za, ma, pa, hla, hsa⟩ := Da.keyed I.hok
  obtain ⟨zb, mb, pb, hlb, hsb⟩ := Db.keyed I.hok
  refine ne_dictN (ev := evV) (room_in (by omega)) hsa hsb ma mb (by omega) (hits_of (h := s.heap) pa pb f (by show X.A.units + 1 + 4 < cLine; omega)) ⟨.bl _, H, I, rfl, ?_⟩
  rw [all_hits pa pb f, ← Alike.len pa, ← Alike.len pb]
  exact q
end
end DN
set_option Elab.async false
set_option linter.all false
set_option maxRecDepth 100000
set_option maxHeartbeats 4000000
namespace GR
open PySem PySem.Spec PyProof.Rows L2 CM RZ DN
theorem u40 {n m : Nat} (h : n + 64 < m) : n + 40 < m := by omega
/-! ### plain values -/
def leafB : V → Bool
  | .int _ => true
  | .str _ => true
  | .non => true
  | _ => false
/-- instances of this class are no data -/
structure InsK (K : PySem.W.Frag) (C : Addr) : Prop where
  cl : Cls K C
  ca : PySem.W.findIn K (.ref C) "__class__" = some (some (.builtin "object.__class__"))
  gs : PySem.W.specialIn K (.builtin "object.__class__") "__get__" = some (some (.builtin "getset_descriptor.__get__"))
  tk : PySem.W.takesIn K (.builtin "object.__class__") = some true
  mr : PySem.W.mroIn K C (.type "object") = some true
  ki : PySem.W.kitOne K (.ref C) (.type "int") = some false
  ks : PySem.W.kitOne K (.ref C) (.type "str") = some false
  kt : PySem.W.kitOne K (.ref C) (.type "tuple") = some false
/-- a flag, a list, a dict, an instance -/
def Odd (K : PySem.W.Frag) (H : Hp) (v : V) : Prop := (∃ b, v = .bl b) ∨ (∃ a xs, v = .ref a ∧ H a = some (.lst xs)) ∨ (∃ a kvs, v = .ref a ∧ H a = some (.dK kvs)) ∨ ∃ a C dx fs, v = .ref a ∧ H a = some (.ins C dx fs) ∧ InsK K C
/-- what is_plain_within says of a thing within n levels -/
def PN (K : PySem.W.Frag) (H : Hp) : Nat → V → Bool → Prop
  | 0, v, b => (leafB v = true ∧ b = true) ∨ (Odd K H v ∧ b = false) ∨ ∃ a xs, v = .ref a ∧ H a = some (.tup xs) ∧ b = xs.isEmpty
  | n + 1, v, b => (leafB v = true ∧ b = true) ∨ (Odd K H v ∧ b = false) ∨ ∃ a xs, v = .ref a ∧ H a = some (.tup xs) ∧
    ((b = true ∧ ∀ x ∈ xs, PN K H n x true) ∨ (b = false ∧ ∃ (i : Nat) (x : V), xs[i]? = some x ∧ PN K H n x false ∧ ∀ (j : Nat) (y : V), j < i → xs[j]? = some y → PN K H n y true))
theorem PN.leaf {K : PySem.W.Frag} {H : Hp} {v : V} (h : leafB v = true) : ∀ n : Nat, PN K H n v true
  | 0 => .inl ⟨h, rfl⟩
  | _ + 1 => .inl ⟨h, rfl⟩
theorem PN.odd {K : PySem.W.Frag} {H : Hp} {v : V} (h : Odd K H v) : ∀ n : Nat, PN K H n v false
  | 0 => .inr (.inl ⟨h, rfl⟩)
  | _ + 1 => .inr (.inl ⟨h, rfl⟩)
mutual
def dat : NK → PyData
  | .none => .none
  | .num i => .int i
  | .text z => .str z
  | .tup ks => .tuple (dats ks)
def dats : List NK → List PyData
  | [] => []
  | k :: ks => dat k :: dats ks
end
mutual
def plN : Nat → NK → Bool
  | _, .none => true
  | _, .num _ => true
  | _, .text _ => true
  | 0, .tup ks => ks.isEmpty
  | n + 1, .tup ks => plNs n ks
def plNs : Nat → List NK → Bool
  | _, [] => true
  | n, k :: ks => plN n k && plNs n ks
end
mutual
theorem key_shw {H : Hp} : ∀ {k : NK} {v : V}, KeyV H k v → Shw H v (dat k)
  | _, _, .non => by
    rw [dat]
    exact .non
  | _, _, .int i => by
    rw [dat]
    exact .int i
  | _, _, .str z => by
    rw [dat]
    exact .str z
  | _, _, .tup e h => by
    rw [dat]
    exact .tup e (keys_shw h)
theorem keys_shw {H : Hp} : ∀ {ks : List NK} {vs : List V}, KeysV H ks vs → ShwAll H vs (dats ks)
  | _, _, .nil => by
    rw [dats]
    exact .nil
  | _, _, .cons h t => by
    rw [dats]
    exact .cons (key_shw h) (keys_shw t)
end
mutual
theorem dat_depth : ∀ k : NK, (dat k).depth = k.depth
  | .none => by simp only [dat, PyData.depth, NestedKey.depth]
  | .num _ => by simp only [dat, PyData.depth, NestedKey.depth]
  | .text _ => by simp only [dat, PyData.depth, NestedKey.depth]
  | .tup ks => by simp only [dat, PyData.depth, NestedKey.depth, dats_depth ks]
theorem dats_depth : ∀ ks : List NK, PyData.depthAll (dats ks) = NestedKey.depthAll ks
  | [] => by simp only [dats, PyData.depthAll, NestedKey.depthAll]
  | k :: ks => by simp only [dats, PyData.depthAll, NestedKey.depthAll, dat_depth k, dats_depth ks]
end
section
variable {K : PySem.W.Frag}
mutual
theorem pn_key {H : Hp} : ∀ {n : Nat} {k : NK} {v : V}, KeyV H k v → plN n k = true → PN K H n v true
  | n, _, _, .non, _ => .leaf rfl n
  | n, _, _, .int i, _ => .leaf rfl n
  | n, _, _, .str z, _ => .leaf rfl n
  | 0, _, _, .tup (ks := ks) (vs := vs) e h, q => by
    refine .inr (.inr ⟨_, vs, rfl, e, ?_⟩)
    rw [plN] at q
    cases h with
    | nil => rfl
    | cons => cases q
  | n + 1, _, _, .tup (ks := ks) (vs := vs) e h, q => by
    rw [plN] at q
    exact .inr (.inr ⟨_, vs, rfl, e, .inl ⟨rfl, pns_key h q⟩⟩)
theorem pns_key {H : Hp} : ∀ {n : Nat} {ks : List NK} {vs : List V}, KeysV H ks vs → plNs n ks = true → ∀ x ∈ vs, PN K H n x true
  | _, _, _, .nil, _, x, hx => by cases hx
  | n, _, _, .cons h t, q, x, hx => by
    rw [plNs, Bool.and_eq_true] at q
    rcases List.mem_cons.mp hx with e | hx
    · rw [e]
      exact pn_key h q.1
    · exact pns_key t q.2 x hx
end
/-- a plain value -/
structure Pl (H : Hp) (v : V) (k : NK) : Prop where
  key : KeyV H k v
  pl : plN 4 k = true
  dep : k.depth ≤ 6
theorem Pl.same {H H' : Hp} {v : V} {k : NK} (h : Pl H v k) (s : ∀ a xs, H a = some (.tup xs) → H' a = some (.tup xs)) : Pl H' v k := ⟨h.key.same s, h.pl, h.dep⟩
theorem Pl.pn {H : Hp} {v : V} {k : NK} (h : Pl H v k) : PN K H 4 v true := pn_key h.key h.pl
theorem Pl.shw {H : Hp} {v : V} {k : NK} (h : Pl H v k) : Shw H v (dat k) := key_shw h.key
/-- a place: a tuple of two plain values -/
structure Plc (H : Hp) (p : Addr) (k : NK) : Prop where
  ex : ∃ v1 v2 k1 k2, H p = some (.tup [v1, v2]) ∧ Pl H v1 k1 ∧ Pl H v2 k2 ∧ k = .tup [k1, k2]
theorem Plc.key {H : Hp} {p : Addr} {k : NK} (h : Plc H p k) : KeyV H k (.ref p) ∧ k.depth ≤ 8 := by
  obtain ⟨v1, v2, k1, k2, e, h1, h2, rfl⟩ := h.ex
  refine ⟨.tup e (.cons h1.key (.cons h2.key .nil)), ?_⟩
  have a := h1.dep
  have b := h2.dep
  simp only [NestedKey.depth, NestedKey.depthAll]
  omega
theorem Plc.same {H H' : Hp} {p : Addr} {k : NK} (h : Plc H p k) (s : ∀ a xs, H a = some (.tup xs) → H' a = some (.tup xs)) : Plc H' p k := by
  obtain ⟨v1, v2, k1, k2, e, h1, h2, e2⟩ := h.ex
  exact ⟨v1, v2, k1, k2, s _ _ e, h1.same s, h2.same s, e2⟩
/-- a value of a grid: a flag, or a plain value -/
def Wr (H : Hp) : Bool → V → PyData → Prop
  | true, v, d => ∃ b, v = .bl b ∧ d = .bool b
  | false, v, d => ∃ k, Pl H v k ∧ d = dat k
theorem Wr.same {H H' : Hp} {fl : Bool} {v : V} {d : PyData} (h : Wr H fl v d) (s : ∀ a xs, H a = some (.tup xs) → H' a = some (.tup xs)) : Wr H' fl v d := by
  cases fl with
  | true => exact h
  | false =>
    obtain ⟨k, h1, h2⟩ := h
    exact ⟨k, h1.same s, h2⟩
theorem Wr.shw {H : Hp} {fl : Bool} {v : V} {d : PyData} (h : Wr H fl v d) : Shw H v d ∧ d.depth ≤ 6 := by
  cases fl with
  | true =>
    obtain ⟨b, rfl, rfl⟩ := h
    exact ⟨.bl b, by simp only [PyData.depth]; omega⟩
  | false =>
    obtain ⟨k, h1, rfl⟩ := h
    exact ⟨h1.shw, by rw [dat_depth]; exact h1.dep⟩
/-! ### types -/
def tyN : PyData → String
  | .none => "NoneType"
  | .bool _ => "bool"
  | .int _ => "int"
  | .str _ => "str"
  | .list _ => "list"
  | .tuple _ => "tuple"
  | .dict _ => "dict"
theorem shw_ty {H : Hp} {v : V} {d : PyData} (h : Shw H v d) : TyX K H v (.type (tyN d)) := by
  cases h with
  | non => exact .base .non
  | bl b => exact .base (.bl b)
  | int i => exact .base (.int i)
  | str z => exact .base (.str z)
  | lst e _ => exact .base (.lst e)
  | tup e _ => exact .base (.tup e)
theorem kit_bb {a b : String} {r : Bool} (h : L2.kitB a b = some r) : PySem.W.kitOne K (.type a) (.type b) = some r := kit_ty h
theorem Wr.bool {H : Hp} {fl : Bool} {v : V} {d : PyData} (h : Wr H fl v d) : PySem.W.kitOne K (.type (tyN d)) (.type "bool") = some fl := by
  cases fl with
  | true =>
    obtain ⟨b, rfl, rfl⟩ := h
    show PySem.W.kitOne K (.type "bool") (.type "bool") = some true
    exact kit_bb (by decide +kernel)
  | false =>
    obtain ⟨k, h1, rfl⟩ := h
    cases k <;> (simp only [dat, tyN]; exact kit_bb (by decide +kernel))
theorem Wr.tyIn {H : Hp} {fl : Bool} {v : V} {d : PyData} (h : Wr H fl v d) : tyN d ∈ ["bool", "NoneType", "int", "str", "tuple"] := by
  cases fl with
  | true =>
    obtain ⟨b, rfl, rfl⟩ := h
    show "bool" ∈ ["bool", "NoneType", "int", "str", "tuple"]
    decide
  | false =>
    obtain ⟨k, h1, rfl⟩ := h
    cases k <;> (simp only [dat, tyN]; decide)
/-! ### what a dict says, but for the addresses of its keys -/
def kv (x : Ent) : NK × V := (x.1, x.2.2)
theorem at_kv (xs : List Ent) (k : NK) : at_ xs k = ((xs.map kv).find? fun y => decide (y.1 = k)).map (·.2) := by
  unfold at_
  induction xs with
  | nil => rfl
  | cons x r ih =>
    rw [List.map_cons, List.find?_cons, List.find?_cons]
    show (match decide (x.1 = k) with | true => some x | false => r.find? fun x => decide (x.1 = k)).map (fun z : Ent => z.2.2) = (match decide (x.1 = k) with | true => some (kv x) | false => (r.map kv).find? fun y => decide (y.1 = k)).map (fun z : NK × V => z.2)
    cases decide (x.1 = k) with
    | true => rfl
    | false => exact ih
theorem at_congr {xs ys : List Ent} (h : xs.map kv = ys.map kv) (k : NK) : at_ xs k = at_ ys k := by rw [at_kv, at_kv, h]
theorem put_kv {xs ys : List Ent} (h : xs.map kv = ys.map kv) (k : NK) (a b : Addr) (v : V) : (putE xs k a v).map kv = (putE ys k b v).map kv := by
  have g : ∀ zs : List Ent, (zs.map fun x => if x.1 = k then (x.1, x.2.1, v) else x).map kv = (zs.map kv).map fun y => if y.1 = k then (y.1, v) else y := by
    intro zs
    rw [List.map_map, List.map_map]
    refine List.map_congr_left fun x _ => ?_
    show kv (if x.1 = k then (x.1, x.2.1, v) else x) = if x.1 = k then (x.1, v) else kv x
    split <;> rfl
  unfold putE
  rw [at_congr h k]
  split
  · rw [g, g, h]
  · rw [List.map_append, List.map_append, h]
    rfl
theorem drop_kv {xs ys : List Ent} (h : xs.map kv = ys.map kv) (k : NK) : (dropE xs k).map kv = (dropE ys k).map kv := by
  have g : ∀ zs : List Ent, (dropE zs k).map kv = (zs.map kv).filter fun y => decide (y.1 ≠ k) := by
    intro zs
    unfold dropE
    rw [List.filter_map]
    rfl
  rw [g, g, h]
theorem drop_none {xs : List Ent} {k : NK} (h : at_ xs k = none) : dropE xs k = xs := by
  unfold dropE
  rw [List.filter_eq_self]
  intro x hx
  refine decide_eq_true fun e => ?_
  unfold at_ at h
  rw [Option.map_eq_none_iff, List.find?_eq_none] at h
  exact h x hx (decide_eq_true e)
theorem len_kv {xs ys : List Ent} (h : xs.map kv = ys.map kv) : xs.length = ys.length := by
  have e := congrArg List.length h
  rw [List.length_map, List.length_map] at e
  exact e
theorem mem_put {xs : List Ent} {k : NK} {a : Addr} {v : V} {x : Ent} (h : x ∈ putE xs k a v) : (∃ y ∈ xs, y.1 = x.1 ∧ y.2.1 = x.2.1 ∧ (y.2.2 = x.2.2 ∨ x.2.2 = v)) ∨ x = (k, a, v) := by
  unfold putE at h
  split at h
  · obtain ⟨y, hy, e⟩ := List.mem_map.mp h
    refine .inl ⟨y, hy, ?_⟩
    subst e
    split
    · exact ⟨rfl, rfl, .inr rfl⟩
    · exact ⟨rfl, rfl, .inl rfl⟩
  · rcases List.mem_append.mp h with h | h
    · exact .inl ⟨x, h, rfl, rfl, .inl rfl⟩
    · exact .inr (List.mem_singleton.mp h)
theorem mem_drop {xs : List Ent} {k : NK} {x : Ent} (h : x ∈ dropE xs k) : x ∈ xs := (List.mem_filter.mp h).1
/-- a dict behind a store -/
theorem dct_put {P : Program} {w : World} {H : Hp} {d p : Addr} {xs : List Ent} {k : NK} {v : V} (D : Dct P w H d xs) (hk : KeyV H k (.ref p)) (hd : k.depth ≤ 8) : Dct P w (upd H d (dn P w d (putE xs k p v))) d (putE xs k p v) := by
  have s : ∀ a ys, H a = some (.tup ys) → (upd H d (dn P w d (putE xs k p v))) a = some (.tup ys) := fun a ys e => by
    have n : a ≠ d := fun z => by
      rw [z, D.1] at e
      exact dn_ne (Option.some.inj e)
    rw [upd_ne n]
    exact e
  refine ⟨upd_same, fun x hx => ?_⟩
  rcases mem_put hx with ⟨y, hy, e1, e2, _⟩ | rfl
  · obtain ⟨h1, h2⟩ := D.2 y hy
    rw [← e1, ← e2]
    exact ⟨h1.same s, h2⟩
  · exact ⟨hk.same s, hd⟩
theorem dct_drop {P : Program} {w : World} {H : Hp} {d : Addr} {xs : List Ent} {k : NK} (D : Dct P w H d xs) : Dct P w (upd H d (dn P w d (dropE xs k))) d (dropE xs k) := by
  have s : ∀ a ys, H a = some (.tup ys) → (upd H d (dn P w d (dropE xs k))) a = some (.tup ys) := fun a ys e => by
    have n : a ≠ d := fun z => by
      rw [z, D.1] at e
      exact dn_ne (Option.some.inj e)
    rw [upd_ne n]
    exact e
  refine ⟨upd_same, fun x hx => ?_⟩
  obtain ⟨h1, h2⟩ := D.2 x (mem_drop hx)
  exact ⟨h1.same s, h2⟩
/-- the keys as a list: what it shows -/
theorem keys_shown {P : Program} {w : World} {H : Hp} {d : Addr} {xs : List Ent} (D : Dct P w H d xs) : ShwAll H (keyRefs xs) (xs.map fun x => dat x.1) := by
  have h := D.2
  unfold keyRefs
  clear D
  induction xs with
  | nil => exact .nil
  | cons x r ih => exact .cons (key_shw (h x (List.mem_cons_self ..)).1) (ih fun y hy => h y (List.mem_cons_of_mem _ hy))
theorem keys_deep {xs : List Ent} (h : ∀ x ∈ xs, x.1.depth ≤ 8) : PyData.depthAll (xs.map fun x => dat x.1) ≤ 8 := by
  induction xs with
  | nil => simp [PyData.depthAll]
  | cons x r ih =>
    have a := h x (List.mem_cons_self ..)
    have b := ih fun y hy => h y (List.mem_cons_of_mem _ hy)
    rw [List.map_cons, PyData.depthAll, dat_depth]
    omega
theorem keys_same {xs ys : List Ent} (h : xs.map kv = ys.map kv) : (xs.map fun x => dat x.1) = ys.map fun x => dat x.1 := by
  have e : ∀ zs : List Ent, (zs.map fun x => dat x.1) = (zs.map kv).map fun y => dat y.1 := by
    intro zs
    rw [List.map_map]
    rfl
  rw [e, e, h]
theorem eqv_self {H : Hp} {v : V} {d : PyData} (h : Shw H v d) : PyData.eqv d d = true := SeqAt.eqv_refl_plain d (shw_plain h)
/-- a grid at g: its default, its dict -/
def Gd (P : Program) (w : World) (C : Addr) (H : Hp) (g : Addr) (dv : V) (e : Addr) (xs : List Ent) : Prop := (∃ dx, H g = some (.ins C dx [("default", dv), ("entries", .ref e)])) ∧ Dct P w H e xs
theorem Gd.same {P : Program} {w : World} {C g e : Addr} {H H' : Hp} {dv : V} {xs : List Ent} (h : Gd P w C H g dv e xs) (s : Same H H') : Gd P w C H' g dv e xs := let ⟨⟨dx, h1⟩, h2⟩ := h; ⟨⟨dx, s _ _ h1⟩, h2.same s⟩
theorem same_tup {H H' : Hp} (s : Same H H') : ∀ a xs, H a = some (.tup xs) → H' a = some (.tup xs) := fun a xs e => s a _ e
theorem Pl.int {H : Hp} (i : Int) : Pl H (.int i) (.num i) := ⟨.int i, by simp only [plN], by simp only [NestedKey.depth]; omega⟩
theorem Pl.str {H : Hp} (z : Str) : Pl H (.str z) (.text z) := ⟨.str z, by simp only [plN], by simp only [NestedKey.depth]; omega⟩
theorem Pl.non {H : Hp} : Pl H .non .none := ⟨.non, by simp only [plN], by simp only [NestedKey.depth]; omega⟩
theorem kp_tup {a : Addr} {H H' : Hp} {ys : List V} (h : H a = some (.lst ys)) (s : Kp a H H') : ∀ b xs, H b = some (.tup xs) → H' b = some (.tup xs) := fun b xs e => s b _ (fun z => by
  rw [z, h] at e
  cases e) e
/-- all but these objects stay -/
def Kps (S : List Addr) (H H' : Hp) : Prop := ∀ b o, b ∉ S → H b = some o → H' b = some o
theorem Kps.trans {S : List Addr} {H H1 H2 : Hp} (x : Kps S H H1) (y : Kps S H1 H2) : Kps S H H2 := fun b o n e => y b o n (x b o n e)
theorem Kps.mono {S S' : List Addr} {H H' : Hp} (h : Kps S H H') (m : ∀ b ∈ S, b ∈ S') : Kps S' H H' := fun b o n e => h b o (fun z => n (m b z)) e
theorem Kps.same {S : List Addr} {H H' : Hp} (s : Same H H') : Kps S H H' := fun b o _ e => s b o e
theorem Kps.kp {S : List Addr} {a : Addr} {H H' : Hp} (s : Kp a H H') (m : a ∈ S) : Kps S H H' := fun b o n e => s b o (fun z => n (z ▸ m)) e
theorem Kps.upd {S : List Addr} {a : Addr} {H : Hp} {o : HO} (m : a ∈ S) : Kps S H (upd H a o) := fun b u n e => by
  rw [upd_ne (fun z => n (by rw [z]; exact m))]
  exact e
/-- tuples stay -/
def TP (H H' : Hp) : Prop := ∀ a xs, H a = some (.tup xs) → H' a = some (.tup xs)
theorem TP.trans {H H1 H2 : Hp} (x : TP H H1) (y : TP H1 H2) : TP H H2 := fun a xs e => y a xs (x a xs e)
theorem TP.same {H H' : Hp} (s : Same H H') : TP H H' := same_tup s
theorem TP.kp {a : Addr} {H H' : Hp} {ys : List V} (h : H a = some (.lst ys)) (s : Kp a H H') : TP H H' := kp_tup h s
theorem tp_dct {P : Program} {w : World} {H : Hp} {d : Addr} {xs : List Ent} {o : HO} (D : Dct P w H d xs) : TP H (upd H d o) := fun a ys e => by
  have n : a ≠ d := fun z => by
    rw [z, D.1] at e
    exact dn_ne (Option.some.inj e)
  rw [upd_ne n]
  exact e
/-- a grid and the law's own dict of it -/
structure Two (P : Program) (w : World) (C : Addr) (H : Hp) (fl : Bool) (g e c : Addr) (dv : V) (xs ys : List Ent) : Prop where
  gd : Gd P w C H g dv e xs
  dc : Dct P w H c ys
  ne : e ≠ c
  wd : ∃ d, Wr H fl dv d
  vals : ∀ x ∈ xs, ∃ d, Wr H fl x.2.2 d
variable {P : Program} {w : World} {C g e c : Addr} {H H' : Hp} {fl : Bool} {dv : V} {xs ys : List Ent}
theorem dn_ins {d : Addr} {dx : Addr} {fs : List (Str × V)} : dn P w d xs ≠ .ins C dx fs := fun z => by
  unfold dn at z
  cases z
theorem dn_lst {d : Addr} {zs : List V} : dn P w d xs ≠ .lst zs := fun z => by
  unfold dn at z
  cases z
theorem Two.g_e (h : Two P w C H fl g e c dv xs ys) : g ≠ e := fun z => by
  obtain ⟨⟨dx, h1⟩, h2⟩ := h.gd
  rw [z, h2.1] at h1
  exact dn_ins (Option.some.inj h1)
theorem Two.g_c (h : Two P w C H fl g e c dv xs ys) : g ≠ c := fun z => by
  obtain ⟨⟨dx, h1⟩, h2⟩ := h.gd
  rw [z, h.dc.1] at h1
  exact dn_ins (Option.some.inj h1)
theorem Two.keep {S : List Addr} (h : Two P w C H fl g e c dv xs ys) (s : Kps S H H') (t : TP H H') (n1 : g ∉ S) (n2 : e ∉ S) (n3 : c ∉ S) : Two P w C H' fl g e c dv xs ys := by
  obtain ⟨⟨⟨dx, h1⟩, h2⟩, h3, h4, ⟨d, h5⟩, h6⟩ := h
  exact ⟨⟨⟨dx, s _ _ n1 h1⟩, h2.mono (s _ _ n2 h2.1) t⟩, h3.mono (s _ _ n3 h3.1) t, h4, ⟨d, h5.same t⟩, fun x hx => let ⟨d, hd⟩ := h6 x hx; ⟨d, hd.same t⟩⟩
theorem Two.same (h : Two P w C H fl g e c dv xs ys) (s : Same H H') : Two P w C H' fl g e c dv xs ys := h.keep (S := []) (Kps.same s) (same_tup s) (List.not_mem_nil) (List.not_mem_nil) (List.not_mem_nil)
theorem Two.at_lst {a : Addr} {zs : List V} (h : Two P w C H fl g e c dv xs ys) (ha : H a = some (.lst zs)) : g ≠ a ∧ e ≠ a ∧ c ≠ a := by
  obtain ⟨⟨⟨dx, h1⟩, h2⟩, h3, _⟩ := h
  refine ⟨fun z => ?_, fun z => ?_, fun z => ?_⟩
  · rw [z, ha] at h1
    cases h1
  · have := h2.1
    rw [z, ha] at this
    exact dn_lst (Option.some.inj this).symm
  · have := h3.1
    rw [z, ha] at this
    exact dn_lst (Option.some.inj this).symm
theorem Two.kp {a : Addr} {zs : List V} (h : Two P w C H fl g e c dv xs ys) (ha : H a = some (.lst zs)) (s : Kp a H H') : Two P w C H' fl g e c dv xs ys := by
  obtain ⟨n1, n2, n3⟩ := h.at_lst ha
  exact h.keep (S := [a]) (Kps.kp s (List.mem_singleton.mpr rfl)) (kp_tup ha s) (fun z => n1 (List.mem_singleton.mp z)) (fun z => n2 (List.mem_singleton.mp z)) (fun z => n3 (List.mem_singleton.mp z))
theorem Two.put_e {p : Addr} {k : NK} {v : V} {d : PyData} (h : Two P w C H fl g e c dv xs ys) (hk : KeyV H k (.ref p)) (hd : k.depth ≤ 8) (wv : Wr H fl v d) : Two P w C (upd H e (dn P w e (putE xs k p v))) fl g e c dv (putE xs k p v) ys := by
  have t : TP H (upd H e (dn P w e (putE xs k p v))) := tp_dct h.gd.2
  have ge := h.g_e
  obtain ⟨⟨⟨dx, h1⟩, h2⟩, h3, h4, ⟨dd, h5⟩, h6⟩ := h
  refine ⟨⟨⟨dx, by rw [upd_ne ge]; exact h1⟩, dct_put h2 hk hd⟩, h3.mono (by rw [upd_ne (Ne.symm h4)]; exact h3.1) t, h4, ⟨dd, h5.same t⟩, fun x hx => ?_⟩
  rcases mem_put hx with ⟨y, hy, _, _, ev⟩ | rfl
  · rcases ev with ev | ev
    · obtain ⟨d, hd⟩ := h6 y hy
      rw [← ev]
      exact ⟨d, hd.same t⟩
    · rw [ev]
      exact ⟨d, wv.same t⟩
  · exact ⟨d, wv.same t⟩
theorem Two.drop_e {k : NK} (h : Two P w C H fl g e c dv xs ys) : Two P w C (upd H e (dn P w e (dropE xs k))) fl g e c dv (dropE xs k) ys := by
  have t : TP H (upd H e (dn P w e (dropE xs k))) := tp_dct h.gd.2
  have ge := h.g_e
  obtain ⟨⟨⟨dx, h1⟩, h2⟩, h3, h4, ⟨dd, h5⟩, h6⟩ := h
  refine ⟨⟨⟨dx, by rw [upd_ne ge]; exact h1⟩, dct_drop h2⟩, h3.mono (by rw [upd_ne (Ne.symm h4)]; exact h3.1) t, h4, ⟨dd, h5.same t⟩, fun x hx => ?_⟩
  obtain ⟨d, hd⟩ := h6 x (mem_drop hx)
  exact ⟨d, hd.same t⟩
theorem Two.put_c {p : Addr} {k : NK} {v : V} (h : Two P w C H fl g e c dv xs ys) (hk : KeyV H k (.ref p)) (hd : k.depth ≤ 8) : Two P w C (upd H c (dn P w c (putE ys k p v))) fl g e c dv xs (putE ys k p v) := by
  have t : TP H (upd H c (dn P w c (putE ys k p v))) := tp_dct h.dc
  have gc := h.g_c
  obtain ⟨⟨⟨dx, h1⟩, h2⟩, h3, h4, ⟨dd, h5⟩, h6⟩ := h
  exact ⟨⟨⟨dx, by rw [upd_ne gc]; exact h1⟩, h2.mono (by rw [upd_ne h4]; exact h2.1) t⟩, dct_put h3 hk hd, h4, ⟨dd, h5.same t⟩, fun x hx => let ⟨d, hd⟩ := h6 x hx; ⟨d, hd.same t⟩⟩
theorem Two.drop_c {k : NK} (h : Two P w C H fl g e c dv xs ys) : Two P w C (upd H c (dn P w c (dropE ys k))) fl g e c dv xs (dropE ys k) := by
  have t : TP H (upd H c (dn P w c (dropE ys k))) := tp_dct h.dc
  have gc := h.g_c
  obtain ⟨⟨⟨dx, h1⟩, h2⟩, h3, h4, ⟨dd, h5⟩, h6⟩ := h
  exact ⟨⟨⟨dx, by rw [upd_ne gc]; exact h1⟩, h2.mono (by rw [upd_ne h4]; exact h2.1) t⟩, dct_drop h3, h4, ⟨dd, h5.same t⟩, fun x hx => let ⟨d, hd⟩ := h6 x hx; ⟨d, hd.same t⟩⟩
theorem at_mem {k : NK} {u : V} (h : at_ xs k = some u) : ∃ x ∈ xs, x.2.2 = u := by
  unfold at_ at h
  obtain ⟨x, hx, e⟩ := Option.map_eq_some_iff.mp h
  exact ⟨x, List.mem_of_find?_eq_some hx, e⟩
theorem Two.worth (h : Two P w C H fl g e c dv xs ys) (k : NK) : ∃ d, Wr H fl ((at_ xs k).getD dv) d := by
  cases ha : at_ xs k with
  | none => exact h.wd
  | some u =>
    obtain ⟨x, hx, ex⟩ := at_mem ha
    obtain ⟨d, hd⟩ := h.vals x hx
    rw [ex] at hd
    exact ⟨d, hd⟩
/-- a grid that is as its dict, of no more than n -/
def Slt (P : Program) (w : World) (C : Addr) (H : Hp) (n : Nat) (fl : Bool) (g e c : Addr) (dv : V) : Prop := ∃ xs ys, Two P w C H fl g e c dv xs ys ∧ xs.map kv = ys.map kv ∧ xs.length ≤ n
theorem Slt.keep {n : Nat} {S : List Addr} (h : Slt P w C H n fl g e c dv) (s : Kps S H H') (t : TP H H') (n1 : g ∉ S) (n2 : e ∉ S) (n3 : c ∉ S) : Slt P w C H' n fl g e c dv := let ⟨xs, ys, T, h1, h2⟩ := h; ⟨xs, ys, T.keep s t n1 n2 n3, h1, h2⟩
theorem Slt.same {n : Nat} (h : Slt P w C H n fl g e c dv) (s : Same H H') : Slt P w C H' n fl g e c dv := let ⟨xs, ys, T, h1, h2⟩ := h; ⟨xs, ys, T.same s, h1, h2⟩
theorem Slt.kp {n : Nat} {a : Addr} {zs : List V} (h : Slt P w C H n fl g e c dv) (ha : H a = some (.lst zs)) (s : Kp a H H') : Slt P w C H' n fl g e c dv := let ⟨xs, ys, T, h1, h2⟩ := h; ⟨xs, ys, T.kp ha s, h1, h2⟩
theorem Slt.le {n m : Nat} (h : Slt P w C H n fl g e c dv) (l : n ≤ m) : Slt P w C H m fl g e c dv := let ⟨xs, ys, T, h1, h2⟩ := h; ⟨xs, ys, T, h1, Nat.le_trans h2 l⟩
section
variable {X : Cx}
/-- {}, told by P and w -/
theorem pe_dnewP {pos : Pos} (hP : X.prog = P := by rfl) (hw : X.w = w := by rfl) : PE X (.Dict [] [] pos) (tDNewN P w) := by
  subst hP hw
  exact pe_dnewN
end
/-! ### what a class says of its operators, as a Boolean -/
def ownB (K : PySem.W.Frag) (C : Addr) (nm : Str) : Bool := He.eqO (PySem.W.findIn K (.ref C) nm) (some (some (.ref (He.ma K C nm)))) && (PySem.W.isFn K (.ref (He.ma K C nm)) && PySem.W.fnIn K (He.ma K C nm))
theorem ownB_ok {C : Addr} {nm : Str} (h : ownB K C nm = true) : OP.Own K C nm (He.ma K C nm) := by
  obtain ⟨h1, h⟩ := He.ba h
  obtain ⟨h2, h3⟩ := He.ba h
  exact ⟨He.eqO_ok h1, h2, h3⟩
theorem ownB_call {C : Addr} (h : ownB K C "__call__" = true) : StX.CallO K C (He.ma K C "__call__") := by
  obtain ⟨h1, h⟩ := He.ba h
  obtain ⟨h2, h3⟩ := He.ba h
  exact ⟨He.eqO_ok h1, h2, h3⟩
def notB (K : PySem.W.Frag) (C : Addr) : Bool := ["bool", "NoneType", "int", "str", "tuple"].all fun T => decide (PySem.W.kitOne K (.type T) (.ref C) = some false)
theorem notB_ok {C : Addr} (h : notB K C = true) : ∀ T ∈ ["bool", "NoneType", "int", "str", "tuple"], PySem.W.kitOne K (.type T) (.ref C) = some false := fun T hT => of_decide_eq_true (List.all_eq_true.mp h T hT)
/-- every parameter is given -/
theorem raw0 {mg : Str → Option Value} {base : Heap} {k : Nat} {f : Addr} {fd : FuncData} {ps : List Str} {sp : Sp} (G : FnOk P w K mg base CX0 k f fd ps sp) (b : Binds K fd ps []) : FnR P w K mg base CX0 k f sp :=
  (FnOk.raw G b .nil).imp fun vs H Q E h => by
    rw [List.append_nil]
    exact h
end
end GR
set_option Elab.async false
set_option linter.all false
set_option maxRecDepth 100000
set_option maxHeartbeats 4000000
/-! own == and != of instances, against any value; isinstance of dicts by nested keys -/
namespace OP
open PySem PySem.Spec PyProof.Rows L2 CM DN
inductive TyN (P : Program) (w : World) (K : PySem.W.Frag) (H : Hp) : V → Value → Prop where
  | x {v : V} {t : Value} (h : TyX K H v t) : TyN P w K H v t
  | dct {d : Addr} {xs : List Ent} (h : Dct P w H d xs) : TyN P w K H (.ref d) (.type "dict")
theorem TyN.same {P : Program} {w : World} {K : PySem.W.Frag} {H H' : Hp} {v : V} {t : Value} (h : TyX K H' v t) : TyN P w K H' v t := .x h
section
variable {X : Cx} {CX : CXT} {pins : List (Addr × Obj)} {σ : L2.St} {H : Hp} {s : Shared} {C g : Addr} {k : Nat} {sp : Sp} {E : XK}
theorem kit_ofN {P : Program} {w : World} {x : V} {u t : Value} (I : Inv X pins σ H s) (rx : RelV x u) (ty : TyN P w X.K H x t) (hP : X.prog = P := by rfl) (hw : X.w = w := by rfl) : ∃ Pp : Heap → Prop, PySem.W.KitX X.K u t Pp ∧ Pp s.heap ∧ u ≠ .builtin "__main__.__loader__#opaque" := by
  subst hP hw
  cases ty with
  | x h => exact kit_of I rx h
  | @dct d xs D =>
    cases (show u = Value.ref d from rx)
    obtain ⟨⟨us, _, _, _, _, o, es, ep, h1, h2, _⟩, _⟩ := (show ObjOk X.prog X.w H s.heap d (dn X.prog X.w d xs) from I.hok d _ D.1)
    exact ⟨_, PySem.W.kitx_dict, ⟨o, h1, h2.1⟩, fun z => nomatch z⟩
def rIsiN (P : Program) (w : World) (K : PySem.W.Frag) : List V → Hp → VK → Prop := fun xs H Q => ∃ (x c : V) (t u : Value) (b : Bool), xs = [x, c] ∧ ClsV c u ∧ TyN P w K H x t ∧ PySem.W.kitOne K t u = some b ∧ Q (.bl b) H
theorem call_isiN {P : Program} {w : World} (hP : X.prog = P := by rfl) (hw : X.w = w := by rfl) : CallR X (.builtin "isinstance") (rIsiN P w X.K) := by
  subst hP hw
  intro pins s σ H xs us Q I r h
  obtain ⟨x, c, t, u, b, rfl, k, ty, e, q⟩ := h
  obtain ⟨u1, u2, rfl, r1, r2⟩ := vals2 r
  have e2 := k.eq r2
  subst e2
  obtain ⟨Pp, Z, p, hx⟩ := kit_ofN I r1 ty
  exact PySem.W.kia_one Z I.kIn p e hx fun tk => ⟨.bl b, H, I.tok tk, rfl, q⟩
/-- o == v, o an instance of C, v of any type that is not below C -/
def rEqP (P : Program) (w : World) (K : PySem.W.Frag) (C : Addr) (sp : Sp) (E : XK) : R2 := fun x y H Q => ∃ a dx fs t, x = .ref a ∧ H a = some (.ins C dx fs) ∧ TyN P w K H y t ∧ PySem.W.notFirst K C t = true ∧ sp [x, y] H (fun r H' => ∃ b, r = .bl b ∧ Q (.bl b) H') E
theorem op_eqO {P : Program} {w : World} (o : Own X.K C "__eq__" g) (F : FnR X.prog X.w X.K X.mg X.base CX k g sp) (hr : Room k X.A) (hx : Passes CX X E) (hP : X.prog = P := by rfl) (hw : X.w = w := by rfl) : OpR X (compareOp .Eq) (rEqP P w X.K C sp E) := by
  subst hP hw
  intro pins s σ H x y v u Q I rx ry h
  obtain ⟨a, dx, fs, t, rfl, ha, ty, hn, q⟩ := h
  cases (show v = Value.ref a from rx)
  obtain ⟨ox, od, J, _⟩ := inst_of I ha
  obtain ⟨m, hF⟩ := I.fr
  obtain ⟨Pp, Z, p, _⟩ := kit_ofN I ry ty
  show wpAny _ X.A (richCompare .Eq (.ref a) u) _ _ s
  refine PySem.W.cmp_K (op := .Eq) (tb := t) hr.units0 hF I.ok.mod.kin J (Z.ty _ _ I.kIn p) hn o.at_ o.fn ?_
  refine wpAny_mono (wpAny_call (run_fnR (us := [.ref a, u]) (vs := [.ref a, y]) F hr hx I (.cons rfl (.cons ry .nil)) q)) (fun w s' z => ?_) fun _ _ x => x
  obtain ⟨z', H', I', rz, b, ez, qz⟩ := z
  subst ez
  cases rz
  exact ⟨.bl b, H', I', rfl, qz⟩
/-- the same, K told: for comprehensions -/
theorem op_eqOK {P : Program} {w : World} {K : PySem.W.Frag} (o : Own K C "__eq__" g) (F : FnR P w K X.mg X.base CX k g sp) (hr : Room k X.A) (hx : Passes CX X E) (hK : X.K = K := by rfl) (hP : X.prog = P := by rfl) (hw : X.w = w := by rfl) : OpR X (compareOp .Eq) (rEqP P w K C sp E) := by
  subst hP hw hK
  exact op_eqO o F hr hx
end
/-! ### != by the own == -/
section
variable {prog : Program} {w : World} {A : Around} {E : Value → Shared → Prop} {s : Shared} {K : PySem.W.Frag} {x C L f : Addr} {h₀ : Heap} {m : Str → Option Value} {ox : Obj} {od : Option Obj} {b tb : Value}
theorem ne_slot : Slot "object" "__ne__" "object.__ne__" := .of (owner := "object") (n := "__ne__") (by rw [typeLookup_type, builtinLookup_eq_fast]; kernel_rfl) (by decide +kernel) (by decide +kernel) (by decide +kernel) (.inl (by decide +kernel)) (by rw [isSubtype_type]; kernel_rfl)
theorem ifBound_ne {M : Model} {args : List Value} {Q : Option Value → Shared → Prop} (X : K.In s.heap) (I : PySem.W.InstAt s.heap x ox C od) (hs : PySem.W.findIn K (.ref C) "__ne__" = some (some (.builtin "object.__ne__")))
    (h : wpAny M A (call (.builtin "object.__ne__") (.ref x :: args)) (fun v => Q (some v)) E s) : wpAny M A (callSpecialIfBound? (.ref x) "__ne__" args) Q E s := by
  simp only [callSpecialIfBound?, bindSpecialIfBound?]
  refine wpAny_holding (wpAny_bind (wpAny_bind (wpAny_bind (I.type.here ((PySem.W.looks_findIn X hs).here ?_)))))
  simp only [ne_slot.bind]
  refine wpAny_bind (wpAny_askSetting (wpAny_ite ?_))
  have fin : wpAny M A (call (.builtin "object.__ne__") ([.ref x] ++ args) >>= fun v => pure (some v)) Q E s := wpAny_bind (wpAny_mono h (fun v s' h' => wpAny_pure h') fun _ _ h' => h')
  split
  · exact wpAny_bind (wpAny_pure (wpAny_pure fin))
  · exact wpAny_tryCatch (wpAny_bind (wpAny_pure (wpAny_pure fin)))
theorem entry_ne {Q : Fin → Shared → Prop} (X : K.In s.heap) (I : PySem.W.InstAt s.heap x ox C od) (hs : PySem.W.findIn K (.ref C) "__eq__" = some (some (.ref f))) (hf : PySem.W.isFn K (.ref f) = true) (hu : A.units < cLine)
    (hcall : wpAny (model prog w) A (call (.ref f) [.ref x, b]) (fun v s' => ∃ c, v = .bool c ∧ Q (.done (.ret (.bool (!c)))) s') E s) : wpAny (model prog w) A (Builtin.«object.__ne__» ⟨[.ref x, b], []⟩) Q E s := by
  unfold Builtin.«object.__ne__»
  repeat (first
    | with_reducible refine wpAny_cRoomFor hu ?_
    | (refine wpAny_bind (m := callSpecialIfBound? (.ref x) (Str.ofString "__eq__") [b])
        (PySem.W.ifBound_K X I hs hf (wpAny_mono hcall (fun r s' hr => by
          obtain ⟨c, rfl, hq⟩ := hr
          repeat (first | exact hq | exact wpAny_pure hq | exact wpAny_truthy_bool hq | (refine wpAny_bind (m := truthy (.bool _)) (wpAny_truthy_bool ?_)) | wp_step)) fun _ _ e => e)))
    | wp_step)
theorem cmp_ne {Q : Value → Shared → Prop} (hu : A.units + 1 < cLine) (F : PyProof.Rows.Fr h₀ L s.heap m) (X₀ : K.In h₀) (I : PySem.W.InstAt s.heap x ox C od) (hb : PySem.W.Looks (model prog w) s.heap (typeOf b) tb) (hn : PySem.W.notFirst K C tb = true)
    (hs : PySem.W.findIn K (.ref C) "__eq__" = some (some (.ref f))) (hf : PySem.W.isFn K (.ref f) = true) (hne : PySem.W.findIn K (.ref C) "__ne__" = some (some (.builtin "object.__ne__"))) (hm : PySem.W.mroIn K C (.type "object") = some true)
    (h : wpAny (model prog w) A.in1 (call (.ref f) [.ref x, b]) (fun v s' => ∃ c, v = .bool c ∧ Q (.bool (!c)) s') E s) : wpAny (model prog w) A (richCompare .NotEq (.ref x) b) Q E s := by
  have X := X₀.keeps F.keep
  have hu1 : A.in1.units < cLine := by
    have : A.in1.units = A.units + 1 := rfl
    omega
  have one : wpAny (model prog w) A (tryCompare (.ref x) "__ne__" b) (fun r s' => ∃ v, r = some v ∧ Q v s') E s := by
    unfold tryCompare
    refine wpAny_bind (ifBound_ne X I hne (wpAny_call (codeAny_call_builtin ne_slot.plain PySem.F.cmpEntry_ne (PySem.W.check_slot PySem.F.cmpKind_ne PySem.F.cmpSplit_ne (I.type.andThen (PySem.W.looks_mroIn X hm)) (PySem.F.cmpArgs_ne _ _)
      (entry_ne X I hs hf hu1 (wpAny_mono h (fun v s' hv => ?_) fun _ _ e => e))))))
    obtain ⟨c, rfl, hq⟩ := hv
    first | exact ⟨c, rfl, wpAny_pure ⟨_, rfl, hq⟩⟩ | exact ⟨c, rfl, wpAny_pure (wpAny_pure ⟨_, rfl, hq⟩)⟩
  unfold richCompare
  simp only [oneThing_ref]
  refine wpAny_holding (wpAny_bind (wpAny_cRoomFor (Nat.lt_of_succ_lt hu) ?_))
  refine wpAny_bind (I.type.here (wpAny_bind (hb.here ?_)))
  split
  · rename_i q
    have e : PySem.W.subIn K tb (.ref C) = some false := by
      rcases Bool.or_eq_true_iff.mp hn with e | e
      · rw [beq_iff_eq.mp e] at q; simp at q
      · exact beq_iff_eq.mp e
    refine wpAny_bind ((PySem.W.looks_subIn X e).here ?_)
    simp only [Bool.false_eq_true, if_false]
    refine wpAny_bind (wpAny_mono one (fun r s' z => ?_) fun _ _ e => e)
    obtain ⟨v, rfl, hq⟩ := z
    exact wpAny_pure hq
  · refine wpAny_bind (wpAny_pure ?_)
    simp only [Bool.false_eq_true, if_false]
    refine wpAny_bind (wpAny_mono one (fun r s' z => ?_) fun _ _ e => e)
    obtain ⟨v, rfl, hq⟩ := z
    exact wpAny_pure hq
end
section
variable {X : Cx} {CX : CXT} {pins : List (Addr × Obj)} {σ : L2.St} {H : Hp} {s : Shared} {C g : Addr} {k : Nat} {sp : Sp} {E : XK}
structure OwnNe (K : PySem.W.Frag) (C : Addr) : Prop where
  ne : PySem.W.findIn K (.ref C) "__ne__" = some (some (.builtin "object.__ne__"))
  mr : PySem.W.mroIn K C (.type "object") = some true
def rNeP (P : Program) (w : World) (K : PySem.W.Frag) (C : Addr) (sp : Sp) (E : XK) : R2 := fun x y H Q => ∃ a dx fs t, x = .ref a ∧ H a = some (.ins C dx fs) ∧ TyN P w K H y t ∧ PySem.W.notFirst K C t = true ∧ sp [x, y] H (fun r H' => ∃ b, r = .bl b ∧ Q (.bl (!b)) H') E
theorem op_neO {P : Program} {w : World} (o : Own X.K C "__eq__" g) (n : OwnNe X.K C) (F : FnR X.prog X.w X.K X.mg X.base CX k g sp) (hr : Room (k + 1) X.A) (hx : Passes CX X E) (hP : X.prog = P := by rfl) (hw : X.w = w := by rfl) : OpR X (compareOp .NotEq) (rNeP P w X.K C sp E) := by
  subst hP hw
  intro pins s σ H x y v u Q I rx ry h
  obtain ⟨a, dx, fs, t, rfl, ha, ty, hn, q⟩ := h
  cases (show v = Value.ref a from rx)
  obtain ⟨ox, od, J, _⟩ := inst_of I ha
  obtain ⟨m, hF⟩ := I.fr
  obtain ⟨Pp, Z, p, _⟩ := kit_ofN I ry ty
  show wpAny _ X.A (richCompare .NotEq (.ref a) u) _ _ s
  refine cmp_ne (tb := t) (by have := hr.units; omega) hF I.ok.mod.kin J (Z.ty _ _ I.kIn p) hn o.at_ o.fn n.ne n.mr ?_
  refine wpAny_mono (run_own1 (us := [u]) (vs := [y]) F hr hx I (.cons ry .nil) q) (fun w s' z => ?_) fun _ _ x => x
  obtain ⟨z', H', I', rz, b, ez, qz⟩ := z
  subst ez
  cases rz
  exact ⟨b, rfl, .bl (!b), H', I', rfl, qz⟩
end
end OP
namespace DN
open PySem PySem.Spec PyProof.Rows L2 CM
section
variable {X : Cx}
/-- d[k] -/
def rIxN (P : Program) (w : World) : R2 := fun x y H Q => ∃ (d a : Addr) (es : List Ent) (k : NK) (v : V), x = .ref d ∧ y = .ref a ∧ Dct P w H d es ∧ KeyV H k (.ref a) ∧ k.depth ≤ 8 ∧ at_ es k = some v ∧ Q v H
theorem ix_dctN {P : Program} {w : World} (hu : X.A.units + 40 < cLine) (hP : X.prog = P := by rfl) (hw : X.w = w := by rfl) : IxR X (rIxN P w) := by
  subst hP hw
  intro value slice pins s σ H x y v u Q I rx ry h hs
  obtain ⟨d, a, es, k, r, rfl, rfl, D, hk, hd, e, q⟩ := h
  cases (show v = Value.ref d from rx)
  cases (show u = Value.ref a from ry)
  obtain ⟨zs, m, p, hl, hsm⟩ := D.keyed I.hok
  obtain ⟨q', e2, rr⟩ := at_some p e
  exact tail_any m.typeIs slot_dict_getitem.lookup (wpAny_getItem_heap (room_in hu) (key_is I hk hd) m e2 ⟨r, H, I.tok _, rr, q⟩) hs
end
end DN
set_option Elab.async false
set_option linter.all false
set_option maxRecDepth 100000
set_option maxHeartbeats 4000000
/-! dicts by nested keys as maps: what is read behind a store, which are equal -/
namespace GR
open PySem PySem.Spec PyProof.Rows L2 CM RZ DN
def ks (xs : List Ent) : List NK := xs.map (·.1)
theorem at_cons {x : Ent} {xs : List Ent} {k : NK} : at_ (x :: xs) k = if x.1 = k then some x.2.2 else at_ xs k := by
  unfold at_
  rw [List.find?_cons]
  by_cases h : x.1 = k
  · rw [decide_eq_true h, if_pos h]
    rfl
  · rw [decide_eq_false h, if_neg h]
theorem at_nil {k : NK} : at_ [] k = none := rfl
theorem at_isSome {xs : List Ent} {k : NK} : (at_ xs k).isSome = true ↔ k ∈ ks xs := by
  induction xs with
  | nil => simp [at_nil, ks]
  | cons x r ih =>
    rw [at_cons]
    show _ ↔ k ∈ x.1 :: ks r
    rw [List.mem_cons]
    by_cases h : x.1 = k
    · rw [if_pos h]
      exact ⟨fun _ => .inl h.symm, fun _ => rfl⟩
    · rw [if_neg h, ih]
      exact ⟨.inr, fun z => z.elim (fun e => absurd e.symm h) id⟩
theorem at_none_iff {xs : List Ent} {k : NK} : at_ xs k = none ↔ k ∉ ks xs := by
  rw [← at_isSome]
  cases at_ xs k <;> simp
theorem at_mem_nd {xs : List Ent} (nd : (ks xs).Nodup) {x : Ent} (h : x ∈ xs) : at_ xs x.1 = some x.2.2 := by
  induction xs with
  | nil => cases h
  | cons y r ih =>
    have nd2 : (y.1 :: ks r).Nodup := nd
    rw [List.nodup_cons] at nd2
    rw [at_cons]
    rcases List.mem_cons.mp h with rfl | h
    · rw [if_pos rfl]
    · by_cases e : y.1 = x.1
      · exact absurd (List.mem_map.mpr ⟨x, h, e.symm⟩) nd2.1
      · rw [if_neg e]
        exact ih nd2.2 h
theorem at_append {xs ys : List Ent} {k : NK} : at_ (xs ++ ys) k = (at_ xs k).or (at_ ys k) := by
  induction xs with
  | nil => rfl
  | cons x r ih =>
    rw [List.cons_append, at_cons, at_cons, ih]
    split <;> rfl
theorem at_put {xs : List Ent} {k j : NK} {a : Addr} {v : V} : at_ (putE xs k a v) j = if j = k then some v else at_ xs j := by
  unfold putE
  by_cases h : (at_ xs k).isSome = true
  · rw [if_pos h]
    have g : ∀ zs : List Ent, at_ (zs.map fun x => if x.1 = k then (x.1, x.2.1, v) else x) j = if j = k then (if k ∈ ks zs then some v else none) else at_ zs j := by
      intro zs
      induction zs with
      | nil => simp [at_nil, ks]
      | cons z r ih =>
        rw [List.map_cons, at_cons, ih, at_cons]
        show _ = if j = k then (if k ∈ z.1 :: ks r then some v else none) else _
        by_cases e : z.1 = k
        · rw [if_pos e]
          by_cases e2 : j = k
          · subst e2
            simp [e]
          · have e3 : ¬ z.1 = j := fun q => e2 (q.symm.trans e)
            simp [e2, e3]
        · rw [if_neg e]
          by_cases e2 : j = k
          · subst e2
            simp [e, Ne.symm e]
          · simp [e2]
    rw [g]
    split
    · rw [if_pos (at_isSome.mp h)]
    · rfl
  · rw [if_neg h, at_append, at_cons, at_nil]
    by_cases e : j = k
    · subst e
      have n : at_ xs j = none := by
        cases q : at_ xs j with
        | none => rfl
        | some u => rw [q] at h; exact absurd rfl h
      rw [n]
      simp
    · have e3 : ¬ k = j := fun q => e q.symm
      simp [e, e3]
theorem at_drop {xs : List Ent} {k j : NK} : at_ (dropE xs k) j = if j = k then none else at_ xs j := by
  unfold dropE
  induction xs with
  | nil => simp [at_nil]
  | cons x r ih =>
    rw [List.filter_cons]
    by_cases e : x.1 = k
    · rw [decide_eq_false (fun n => n e), if_neg Bool.false_ne_true, ih, at_cons]
      by_cases e2 : j = k
      · simp [e2]
      · have e3 : ¬ x.1 = j := fun q => e2 (q.symm.trans e)
        simp [e2, e3]
    · rw [decide_eq_true e, if_pos rfl, at_cons, ih, at_cons]
      by_cases e2 : j = k
      · subst e2
        simp [e]
      · simp [e2]
theorem nd_put {xs : List Ent} (nd : (ks xs).Nodup) (k : NK) (a : Addr) (v : V) : (ks (putE xs k a v)).Nodup := by
  unfold putE
  by_cases h : (at_ xs k).isSome = true
  · rw [if_pos h]
    have e : ks (xs.map fun x => if x.1 = k then (x.1, x.2.1, v) else x) = ks xs := by
      unfold ks
      rw [List.map_map]
      refine List.map_congr_left fun x _ => ?_
      show (if x.1 = k then (x.1, x.2.1, v) else x).1 = x.1
      split <;> rfl
    rw [e]
    exact nd
  · rw [if_neg h]
    unfold ks
    rw [List.map_append]
    refine List.nodup_append.mpr ⟨nd, by simp, fun x hx y hy e => ?_⟩
    have ey : y = k := by simpa using hy
    rw [e, ey] at hx
    exact h (at_isSome.mpr hx)
theorem nd_drop {xs : List Ent} (nd : (ks xs).Nodup) (k : NK) : (ks (dropE xs k)).Nodup := by
  unfold ks dropE
  exact List.Nodup.sublist (List.Sublist.map _ (List.filter_sublist ..)) nd
theorem len_sub {α : Type} [DecidableEq α] : ∀ {l m : List α}, l.Nodup → (∀ x ∈ l, x ∈ m) → l.length ≤ m.length
  | [], m, _, _ => Nat.zero_le _
  | a :: l, m, nd, h => by
    rw [List.nodup_cons] at nd
    have ha := h a (List.mem_cons_self ..)
    have := len_sub (l := l) (m := m.erase a) nd.2 fun x hx => (List.mem_erase_of_ne (fun e => nd.1 (by rw [← e]; exact hx))).mpr (h x (List.mem_cons_of_mem _ hx))
    rw [List.length_erase_of_mem ha] at this
    have hp : 0 < m.length := List.length_pos_of_mem ha
    rw [List.length_cons]
    omega
theorem ks_len {xs : List Ent} : (ks xs).length = xs.length := List.length_map ..
/-- no more entries than the other, if all keys stand there -/
theorem len_le {xs ys : List Ent} (nx : (ks xs).Nodup) (h : ∀ k, at_ ys k = none → at_ xs k = none) : xs.length ≤ ys.length := by
  rw [← ks_len, ← ks_len]
  refine len_sub nx fun k hk => ?_
  cases e : at_ ys k with
  | none =>
    have := h k e
    rw [at_none_iff] at this
    exact absurd hk this
  | some v => exact at_isSome.mp (by rw [e]; rfl)
theorem len_eq {xs ys : List Ent} (nx : (ks xs).Nodup) (ny : (ks ys).Nodup) (h : ∀ k, at_ xs k = at_ ys k) : xs.length = ys.length :=
  Nat.le_antisymm (len_le nx fun k e => by rw [h]; exact e) (len_le ny fun k e => by rw [← h]; exact e)
theorem eqv_fl {v : V} (h : fl4 v = true) : PyData.eqv (flD v) (flD v) = true := by
  cases v <;> first | (simp [flD, PyData.eqv]; done) | (cases h; done) | simp [fl4] at h
theorem eqE_true {xs ys : List Ent} (nx : (ks xs).Nodup) (ny : (ks ys).Nodup) (h : ∀ k, at_ xs k = at_ ys k) (f : ∀ x ∈ xs, fl4 x.2.2 = true) : eqE xs ys = true := by
  unfold eqE
  rw [Bool.and_eq_true, beq_iff_eq, List.all_eq_true]
  refine ⟨len_eq nx ny h, fun x hx => ?_⟩
  unfold hitE
  rw [← h, at_mem_nd nx hx]
  exact eqv_fl (f x hx)
theorem eqE_len {xs ys : List Ent} (h : xs.length ≠ ys.length) : eqE xs ys = false := by
  unfold eqE
  rw [show (xs.length == ys.length) = false from by simpa using h]
  rfl
theorem ks_kv {xs ys : List Ent} (h : xs.map kv = ys.map kv) : ks xs = ks ys := by
  have e : ∀ zs : List Ent, ks zs = (zs.map kv).map (·.1) := fun zs => by
    unfold ks
    rw [List.map_map]
    rfl
  rw [e, e, h]
theorem len_drop_lt {xs : List Ent} {k : NK} {u : V} (h : at_ xs k = some u) : (dropE xs k).length < xs.length := by
  obtain ⟨x, hx, e⟩ := List.mem_map.mp (at_isSome.mp (by rw [h]; rfl) : k ∈ ks xs)
  unfold dropE
  refine Nat.lt_of_le_of_ne (List.length_filter_le _ _) fun q => ?_
  have := (List.filter_eq_self.mp (List.Sublist.eq_of_length (List.filter_sublist ..) q)) x hx
  exact absurd e (of_decide_eq_true this)
theorem len_put_new {xs : List Ent} {k : NK} {a : Addr} {v : V} (h : at_ xs k = none) : (putE xs k a v).length = xs.length + 1 := by
  unfold putE
  rw [h, if_neg (by simp), List.length_append, List.length_singleton]
end GR
set_option Elab.async false
set_option linter.all false
set_option maxRecDepth 100000
set_option maxHeartbeats 4000000
/-! repr of data with dicts in it -/
namespace SY
open PySem PySem.Spec PyProof.Rows L2 CM
def keyD : L2.Key → PyData
  | .inl i => .int i
  | .inr z => .str z
mutual
inductive SayD (H : Hp) : V → PyData → Prop
  | non : SayD H .non .none
  | bl (b : Bool) : SayD H (.bl b) (.bool b)
  | int (i : Int) : SayD H (.int i) (.int i)
  | str (z : Str) : SayD H (.str z) (.str z)
  | lst {a : Addr} {xs : List V} {ds : List PyData} : H a = some (.lst xs) → SayAll H xs ds → SayD H (.ref a) (.list ds)
  | tup {a : Addr} {xs : List V} {ds : List PyData} : H a = some (.tup xs) → SayAll H xs ds → SayD H (.ref a) (.tuple ds)
  | dct {a : Addr} {kvs : List (L2.Key × V)} {ds : List (PyData × PyData)} : H a = some (.dK kvs) → SayKv H kvs ds → SayD H (.ref a) (.dict ds)
inductive SayAll (H : Hp) : List V → List PyData → Prop
  | nil : SayAll H [] []
  | cons {v : V} {vs : List V} {d : PyData} {ds : List PyData} : SayD H v d → SayAll H vs ds → SayAll H (v :: vs) (d :: ds)
inductive SayKv (H : Hp) : List (L2.Key × V) → List (PyData × PyData) → Prop
  | nil : SayKv H [] []
  | cons {k : L2.Key} {v : V} {r : List (L2.Key × V)} {d : PyData} {ds : List (PyData × PyData)} : SayD H v d → SayKv H r ds → SayKv H ((k, v) :: r) ((keyD k, d) :: ds)
end
/-- all that is told but the tables stays -/
def Stay (H H' : Hp) : Prop := ∀ b o, H b = some o → (∀ ps, o ≠ .tbl ps) → H' b = some o
mutual
theorem SayD.stay {H H' : Hp} (s : Stay H H') : ∀ {v : V} {d : PyData}, SayD H v d → SayD H' v d
  | _, _, .non => .non
  | _, _, .bl b => .bl b
  | _, _, .int i => .int i
  | _, _, .str z => .str z
  | _, _, .lst e h => .lst (s _ _ e fun _ z => by cases z) (h.stay s)
  | _, _, .tup e h => .tup (s _ _ e fun _ z => by cases z) (h.stay s)
  | _, _, .dct e h => .dct (s _ _ e fun _ z => by cases z) (h.stay s)
theorem SayAll.stay {H H' : Hp} (s : Stay H H') : ∀ {vs : List V} {ds : List PyData}, SayAll H vs ds → SayAll H' vs ds
  | _, _, .nil => .nil
  | _, _, .cons h t => .cons (h.stay s) (t.stay s)
theorem SayKv.stay {H H' : Hp} (s : Stay H H') : ∀ {vs : List (L2.Key × V)} {ds : List (PyData × PyData)}, SayKv H vs ds → SayKv H' vs ds
  | _, _, .nil => .nil
  | _, _, .cons h t => .cons (h.stay s) (t.stay s)
end
mutual
theorem SayD.reads {P : Program} {w : World} {H : Hp} {h : Heap} (ok : HOk P w H h) : ∀ {v : V} {d : PyData}, SayD H v d → ∀ {u : Value}, RelV v u → ∃ as, Reads h u d as ∧ ∀ x ∈ as, ∃ o, H x = some o
  | _, _, .non, u, r => by
    obtain rfl : u = Value.none := r
    exact ⟨_, .none, fun _ z => by cases z⟩
  | _, _, .bl b, u, r => by
    obtain rfl : u = Value.bool b := r
    exact ⟨_, .bool b, fun _ z => by cases z⟩
  | _, _, .int i, u, r => by
    obtain ⟨t, rfl⟩ := r
    exact ⟨_, .int i t, fun _ z => by cases z⟩
  | _, _, .str z, u, r => by
    obtain ⟨t, rfl⟩ := r
    exact ⟨_, .str z t, fun _ z => by cases z⟩
  | _, _, .lst (a := a) e hs, u, r => by
    obtain rfl : u = Value.ref a := r
    obtain ⟨_, its, n, rv, g⟩ := (show ObjOk P w H h a (.lst _) from ok a _ e)
    obtain ⟨as, ra, al⟩ := hs.reads ok rv
    refine ⟨_, .list g rfl rfl (by simpa using ra), fun x hx => ?_⟩
    rcases List.mem_cons.mp hx with rfl | hx
    · exact ⟨_, e⟩
    · exact al x hx
  | _, _, .tup (a := a) e hs, u, r => by
    obtain rfl : u = Value.ref a := r
    obtain ⟨_, its, rv, o, g, hc, n, hd⟩ := (show ObjOk P w H h a (.tup _) from ok a _ e)
    obtain ⟨as, ra, al⟩ := hs.reads ok rv
    exact ⟨_, .tuple g hc hd (by simpa using ra), al⟩
  | _, _, .dct (a := a) e hs, u, r => by
    obtain rfl : u = Value.ref a := r
    obtain ⟨_, _, vs, kv, o, es, ep, g, hc, hd1, _, he, _⟩ := (show ObjOk P w H h a (.dK _) from ok a _ e)
    obtain ⟨as, bs, ra, rb, eas, al⟩ := hs.reads ok kv he
    refine ⟨_, .dict g hc.1 hd1 ra rb, fun x hx => ?_⟩
    rw [eas] at hx
    rcases List.mem_cons.mp hx with rfl | hx
    · exact ⟨_, e⟩
    · exact al x (by simpa using hx)
theorem SayAll.reads {P : Program} {w : World} {H : Hp} {h : Heap} (ok : HOk P w H h) : ∀ {vs : List V} {ds : List PyData}, SayAll H vs ds → ∀ {us : List Value}, Vals vs us → ∃ as, ReadsAll h us ds as ∧ ∀ x ∈ as, ∃ o, H x = some o
  | _, _, .nil, _, .nil => ⟨_, .nil, fun _ z => by cases z⟩
  | _, _, .cons h1 t1, _, .cons r1 r2 => by
    obtain ⟨a1, e1, l1⟩ := h1.reads ok r1
    obtain ⟨a2, e2, l2⟩ := t1.reads ok r2
    exact ⟨_, .cons e1 e2, fun x hx => (List.mem_append.mp hx).elim (l1 x) (l2 x)⟩
theorem SayKv.reads {P : Program} {w : World} {H : Hp} {h : Heap} (ok : HOk P w H h) : ∀ {kvs : List (L2.Key × V)} {ds : List (PyData × PyData)}, SayKv H kvs ds → ∀ {vs : List (L2.Key × Value)} {es : List DictEntry}, KV kvs vs → Pairs (mixKind P w) es vs →
    ∃ as bs, ReadsAll h (es.map (·.key)) (ds.map (·.1)) as ∧ ReadsAll h (es.map (·.val)) (ds.map (·.2)) bs ∧ as = [] ∧ ∀ x ∈ bs, ∃ o, H x = some o
  | _, _, .nil, _, _, .nil, .nil => ⟨_, _, .nil, .nil, rfl, fun _ z => by cases z⟩
  | _, _, .cons (k := kk) h1 t1, _, _, .cons ⟨e1, r1⟩ r2, .cons (e := e) k1 k2 k3 => by
    obtain ⟨as, bs, ra, rb, ea, al⟩ := t1.reads ok r2 k3
    obtain ⟨b1, q1, l1⟩ := h1.reads ok r1
    subst ea
    refine ⟨[] ++ [], b1 ++ bs, ?_, ?_, rfl, fun x hx => (List.mem_append.mp hx).elim (l1 x) (al x)⟩
    · refine .cons ?_ ra
      rcases keyIs_shape k1 with ⟨i, t, ek, ev⟩ | ⟨x, t, ek, ev⟩
      · show Reads h e.key (keyD _) []
        rw [ev, show kk = Sum.inl i from e1.trans ek]
        exact .int i t
      · show Reads h e.key (keyD _) []
        rw [ev, show kk = Sum.inr x from e1.trans ek]
        exact .str x t
    · refine .cons ?_ rb
      show Reads h e.val _ b1
      rw [k2]
      exact q1
end
section
variable {X : Cx}
theorem sys_none {pins : List (Addr × Obj)} {σ : L2.St} {H : Hp} {s : Shared} (hs : (X.K.lookup sysModules).isSome = true) (I : Inv X pins σ H s) : H sysModules = none := by
  obtain ⟨o, ho⟩ := Option.isSome_iff_exists.mp hs
  exact (I.bs _ _ (I.mod.kin _ _ ho)).2
/-- repr(x) -/
def rReprE : List V → Hp → VK → Prop := fun xs H Q => ∃ v d, xs = [v] ∧ SayD H v d ∧ d.showable = true ∧ d.depth ≤ 80 ∧ d.shown.length ≤ sizeLine ∧ Q (.str d.shown) H
theorem call_reprE (hy : (X.K.lookup sysModules).isSome = true) (gd : X.A.guards = some []) (hu : X.A.units + 90 < cLine) : CallR X (.builtin "repr") rReprE := by
  intro pins s σ H xs us Q I r h
  obtain ⟨v, d, rfl, hs, hz, hd, hl, q⟩ := h
  obtain ⟨u, rfl, ru⟩ := r.one
  obtain ⟨as, ra, al⟩ := hs.reads I.hok ru
  have hsm : d.hasDict = true → sysModules ∉ as := fun _ m => by
    obtain ⟨o, ho⟩ := al _ m
    rw [sys_none hy I] at ho
    cases ho
  have fin : ∀ h' uu tk, (∀ b o, s.heap.get? b = some o → h'.get? b = some o) → EP X pins σ Q (.str d.shown uu) { s with heap := h', toks := tk } := fun h' uu tk k => ⟨.str d.shown, H, I.kept k, ⟨_, rfl⟩, q⟩
  cases ra with
  | none =>
    simp only [PyData.shown] at fin
    exact PySem.P.repr_of_none (fin s.heap _ _ fun _ _ e => e)
  | bool b =>
    simp only [PyData.shown] at fin
    exact PySem.P.repr_of_bool (fin s.heap _ _ fun _ _ e => e)
  | int i t =>
    simp only [PyData.shown] at fin
    exact PySem.P.repr_of_int (by simpa [PyData.showable] using hz) (fin s.heap _ _ fun _ _ e => e)
  | str x t =>
    simp only [PyData.shown] at fin
    exact PySem.P.repr_of_str (fin s.heap _ _ fun _ _ e => e) (by simpa only [PyData.shown] using hl)
  | list h1 h2 h3 h4 => exact repr_of_reads' (.list h1 h2 h3 h4) hz hsm gd (by omega) (fun _ _ e => e) (fun h' uu tk k => fin h' uu tk k) hl
  | tuple h1 h2 h3 h4 => exact repr_of_reads' (.tuple h1 h2 h3 h4) hz hsm gd (by omega) (fun _ _ e => e) (fun h' uu tk k => fin h' uu tk k) hl
  | dict h1 h2 h3 h4 h5 => exact repr_of_reads' (.dict h1 h2 h3 h4 h5) hz hsm gd (by omega) (fun _ _ e => e) (fun h' uu tk k => fin h' uu tk k) hl
end
section
variable {P : Program} {w : World} {K : PySem.W.Frag} {mg : Str → Option Value} {base : Heap} {CX : CXT} {k : Nat} {fd : FuncData} {ps : List Str} {sp : Sp} {x qual : Str} {params : Arguments} {body : List Stmt} {scope : Scope} {dvs : List V} {kws : List (Str × V)}
/-- a def whose code object is told, called where no repr runs -/
theorem okCG {N : List Str} {p : He.Defn} (F : FunD K x qual params body scope dvs kws (He.fAd K p) fd) (S : FnScope N ps scope) (len : ∀ vs H Q E, sp vs H Q E → vs.length = ps.length)
    (hbody : ∀ (A : Around) (outer : List Env) (s : Shared) (H : Hp) (vs : List V) (Q : VK) (E : XK), Room k (A.deeper (envOfC qual scope s.heap.objs.size (He.fAd K p) (.ref (He.codeOf K p)))) → A.guards = some [] → sp vs H Q E →
      ∃ t, PSs (cxOf CX P w K mg base N qual scope (He.fAd K p) (.ref (He.codeOf K p)) A outer s H E) body t ∧ t { nx := fun _ H' => Q .non H', rt := Q } (L2.start N vs) H) : GD.FnG P w K mg base CX (k + 1) (He.fAd K p) fd ps sp := by
  obtain ⟨oc, od, dV, kV, doc, pm, an, cdv, ct, osl, rfl, lk, hcd, _, _⟩ := F.ex
  obtain ⟨c, rfl⟩ := He.codeIn_ref hcd
  have e : He.codeOf K p = c := He.codeOf_eq lk rfl
  rw [e] at hbody
  refine ⟨len, fun A outer s0 H args us vs Q E room gd e0 bt rv asked => ?_⟩
  have old : ∀ b o, base.get? b = some o → s0.heap.get? b = some o := fun b o e => (e0.bs b o e).1
  refine codeAny_call_function room.depth (e0.mod.kin.keeps old _ _ lk) rfl S.co S.gen rfl (PySem.W.codeRec_of (e0.mod.kin.keeps old) hcd) (bt _ _ _ _ (wpAny_newFunctionEnv_cells S.kind (fun y hy => ?_) fun env he t x => ?_))
  · exact (S.par y.1 (List.of_mem_zip (show (y.1, y.2) ∈ ps.zip us from hy)).1).elim .inl fun q => .inr ⟨q, PySem.W.cellsFrom_some _ _ _ (.inl q)⟩
  · subst he
    obtain ⟨tt, ht, rd⟩ := hbody A outer s0 H vs Q E (room.deeper _) gd asked
    have J : Inv (cxOf CX P w K mg base N qual scope (He.fAd K p) (.ref c) A outer s0 H E) [] (L2.start N vs) H t := inv_start S room.hd e0 (len _ _ _ _ asked) rv x
    refine ⟨(e0.mod.nolimit.keeps old).keeps x.toInCall.keep, codeAny_func (wpAny_mono (ht.run [] t (L2.start N vs) H _ J rd) (fun fl t2 got => ?_) fun _ _ got => got)⟩
    cases fl with
    | ret u => obtain ⟨v, σ2, H2, J2, r2, q2⟩ := got; exact ⟨v, H2, J2.os, J2.bare, J2.base, J2.hok, r2, q2⟩
    | next => obtain ⟨σ2, H2, J2, q2⟩ := got; exact ⟨V.non, H2, J2.os, J2.bare, J2.base, J2.hok, rfl, q2⟩
    | brk =>
      obtain ⟨_, _, _, z⟩ := got
      exact False.elim z
    | cont =>
      obtain ⟨_, _, _, z⟩ := got
      exact False.elim z
end
end SY
set_option Elab.async false
set_option linter.all false
set_option maxRecDepth 100000
set_option maxHeartbeats 4000000
/-! readings that do not name the context: for use inside of a lambda -/
namespace CPL
open PySem PySem.Spec PyProof.Rows L2 CM
def tCallP (C : Addr) (sp : Sp) (E : XK) (tf : TE) (t : TA) : TE := fun σ H Q => tf σ H fun y H1 => ∃ a, y = V.ref a ∧ t σ H1 fun vs H2 => ((∃ dx vs, SlX.Slt H2 a C dx vs) ∨ ∃ dx fs, H2 a = some (.ins C dx fs)) ∧ sp (V.ref a :: vs) H2 Q E
section
variable {X : Cx} {CX : CXT} {k : Nat} {C g : Addr} {sp : Sp} {E : XK} {fe e : Expr} {es : List Expr} {pos : Pos} {tf : TE} {t : TA}
/-- o(..), o an instance of a class with __call__ -/
theorem pe_callP (hf : PE X fe tf) (c : StX.CallO X.K C g) (F : FnR X.prog X.w X.K X.mg X.base CX k g sp) (hr : Room k X.A) (hx : Passes CX X E) (ha : PA X (e :: es) t)
    (ht : eval (.Call fe (e :: es) [] pos) X.env = (do callWith pos (← eval fe X.env) [] (backTo pos (starEach (e :: es) X.env)) (backToKw pos (keywordEach [] X.env))) := by rfl)
    (he : starEach (e :: es) X.env = (false, eval e X.env) :: starEach es X.env := by rfl) (hpl : (backTo pos (starEach es X.env)).any (·.1) = false := by rfl) : PE X (.Call fe (e :: es) [] pos) (tCallP C sp E tf t) :=
  StX.pe_callO hf c F hr hx ha ht he hpl
end
end CPL
set_option Elab.async false
set_option linter.all false
set_option maxRecDepth 100000
set_option maxHeartbeats 4000000
namespace TU
open PySem PySem.Spec PyProof.Rows L2 CM
/-! ### sum, max, min of a tuple of ints -/
section
variable {prog : Program} {w : World} {A : Around} {E : Value → Shared → Prop} {s : Shared} {l : Addr} {xs : Array (Int × Tok)}
theorem iter_tup {Q : Value → Shared → Prop} (hl : s.heap.IsTuple l (intItems xs))
    (h : ∀ s₂ : Shared, s₂ = { s with heap := s.heap.push { cls := .type "tuple_iterator", data := .fields #[.ref l, .int 0 0] } } →
      (s₂.heap.IsTupleIter s.heap.objs.size l 0 ∧ s₂.heap.IsTuple l (intItems xs)) → (∀ b ∈ [s.heap.objs.size, l], b < s₂.heap.objs.size) → l ≠ s.heap.objs.size → Q (.ref s.heap.objs.size) s₂) :
    wpAny (model prog w) A (pyIter (.ref l)) Q E s := by
  have hlt : l < s.heap.objs.size := by obtain ⟨_, e, _⟩ := hl; exact Heap.lt_size e
  refine wpAny_pyIter_tuple hl (h _ rfl ⟨⟨_, Heap.get?_push_size _ rfl, rfl, rfl⟩, hl.push _⟩ (fun b hb => ?_) (Nat.ne_of_lt hlt))
  show b < (s.heap.push _).objs.size
  rw [Heap.size_push]
  rcases List.mem_cons.mp hb with rfl | hb
  · exact Nat.lt_succ_self _
  · rcases List.mem_cons.mp hb with rfl | hb
    · exact Nat.lt_succ_of_lt hlt
    · cases hb
theorem old_keptT {h' : Heap} (hk : ∀ b o, b ∉ [s.heap.objs.size] → (s.heap.push { cls := .type "tuple_iterator", data := .fields #[.ref l, .int 0 0] }).get? b = some o → h'.get? b = some o) :
    ∀ b o, s.heap.get? b = some o → h'.get? b = some o := fun b o e => by
  refine hk b o (fun hm => ?_) (Heap.get?_push_of_some _ e)
  rcases List.mem_cons.mp hm with e1 | hm
  · exact absurd (e1 ▸ Heap.lt_size e) (Nat.lt_irrefl _)
  · cases hm
theorem max_intTup {Q : Value → Shared → Prop} (hh : A.handled = none) (hl : s.heap.IsTuple l (intItems xs)) (hne : 0 < xs.size)
    (h : ∀ v h' tk, (intItems xs)[argBest (fun i j => decide (numAt xs i > numAt xs j)) (xs.size - 1)]? = some v → (∀ b o, s.heap.get? b = some o → h'.get? b = some o) → Q v { s with heap := h', toks := tk }) :
    wpAny (model prog w) A (call (.builtin "max") [.ref l]) Q E s := by
  refine call_max_walk (iter_tup hl fun s₂ e st hfp hlI => ?_)
  subst e
  refine ⟨_, _, _, _, _, _, _, rfl, Walks.tuple (A := A.in1) hh _ l hlI (intItems xs), st, hfp, by simpa [intItems] using hne, CmpOf.ints_gt (numAt xs) (fun _ _ => intItems_at), fun v h' tk hP hk => ?_⟩
  exact h v h' tk (by simpa [intItems] using hP) (old_keptT hk)
theorem min_intTup {Q : Value → Shared → Prop} (hh : A.handled = none) (hl : s.heap.IsTuple l (intItems xs)) (hne : 0 < xs.size)
    (h : ∀ v h' tk, (intItems xs)[argBest (fun i j => decide (numAt xs i < numAt xs j)) (xs.size - 1)]? = some v → (∀ b o, s.heap.get? b = some o → h'.get? b = some o) → Q v { s with heap := h', toks := tk }) :
    wpAny (model prog w) A (call (.builtin "min") [.ref l]) Q E s := by
  refine call_min_walk (iter_tup hl fun s₂ e st hfp hlI => ?_)
  subst e
  refine ⟨_, _, _, _, _, _, _, rfl, Walks.tuple (A := A.in1) hh _ l hlI (intItems xs), st, hfp, by simpa [intItems] using hne, CmpOf.ints_lt (numAt xs) (fun _ _ => intItems_at), fun v h' tk hP hk => ?_⟩
  exact h v h' tk (by simpa [intItems] using hP) (old_keptT hk)
theorem sum_intTup {Q : Value → Shared → Prop} (hh : A.handled = none) (hl : s.heap.IsTuple l (intItems xs))
    (h : ∀ h' tk t', (∀ b o, s.heap.get? b = some o → h'.get? b = some o) → Q (.int (preSum (numAt xs) xs.size) t') { s with heap := h', toks := tk }) :
    wpAny (model prog w) A (call (.builtin "sum") [.ref l]) Q E s := by
  refine call_sum_walkG (iter_tup hl fun s₂ e st hfp hlI => ?_)
  subst e
  refine ⟨_, _, _, _, _, _, numAt xs, rfl, Walks.tuple (A := A.in1) hh _ l hlI (intItems xs), st, hfp, (fun _ _ => intItems_at), fun h' tk t' hk => ?_⟩
  have := h h' tk t' (old_keptT hk)
  simpa [intItems] using this
end
section
variable {prog : Program} {w : World} {A : Around} {E : Value → Shared → Prop} {s : Shared} {l : Addr} {its : List Value} {ns : List Int} {Q : Value → Shared → Prop}
theorem sum_rawT (hh : A.handled = none) (hl : s.heap.IsTuple l its.toArray) (hi : IntsAre its ns)
    (h : ∀ h' tk t', (∀ b o, s.heap.get? b = some o → h'.get? b = some o) → Q (.int ns.sum t') { s with heap := h', toks := tk }) : wpAny (model prog w) A (call (.builtin "sum") [.ref l]) Q E s := by
  obtain ⟨xs, e⟩ := hi.allInts.items
  have hn : numsOf (intItems xs).toList = ns := by rw [← e]; exact hi.numsOf
  rw [nums_intItems] at hn
  rw [e] at hl
  refine sum_intTup hh hl fun h' tk t' hk => ?_
  have := h h' tk t' hk
  rw [preSum_eq, List.take_of_length_le (by simp), hn]; exact this
theorem max_rawT (hh : A.handled = none) (hl : s.heap.IsTuple l its.toArray) (hi : IntsAre its ns) (hne : 0 < ns.length)
    (h : ∀ h' tk M t', (∀ b o, s.heap.get? b = some o → h'.get? b = some o) → M ∈ ns → (∀ a, a ∈ ns → a ≤ M) → Q (.int M t') { s with heap := h', toks := tk }) : wpAny (model prog w) A (call (.builtin "max") [.ref l]) Q E s := by
  obtain ⟨xs, e⟩ := hi.allInts.items
  have hn : numsOf (intItems xs).toList = ns := by rw [← e]; exact hi.numsOf
  rw [nums_intItems] at hn
  subst hn
  rw [e] at hl
  have hsz : 0 < xs.size := by simpa using hne
  refine max_intTup hh hl hsz fun v h' tk hv hk => ?_
  obtain ⟨t, rfl⟩ := intItems_at hv
  obtain ⟨h1, h2⟩ := argBest_gt (numAt xs) (xs.size - 1)
  refine h h' tk _ t hk ?_ fun a ha => ?_
  · rw [numAt_eq]; exact PySem.getD_mem (by rw [List.length_map, Array.length_toList]; omega)
  · obtain ⟨j, hj, rfl⟩ := mem_getD ha
    rw [List.length_map, Array.length_toList] at hj
    rw [← numAt_eq]; exact h2 j (by omega)
theorem min_rawT (hh : A.handled = none) (hl : s.heap.IsTuple l its.toArray) (hi : IntsAre its ns) (hne : 0 < ns.length)
    (h : ∀ h' tk M t', (∀ b o, s.heap.get? b = some o → h'.get? b = some o) → M ∈ ns → (∀ a, a ∈ ns → M ≤ a) → Q (.int M t') { s with heap := h', toks := tk }) : wpAny (model prog w) A (call (.builtin "min") [.ref l]) Q E s := by
  obtain ⟨xs, e⟩ := hi.allInts.items
  have hn : numsOf (intItems xs).toList = ns := by rw [← e]; exact hi.numsOf
  rw [nums_intItems] at hn
  subst hn
  rw [e] at hl
  have hsz : 0 < xs.size := by simpa using hne
  refine min_intTup hh hl hsz fun v h' tk hv hk => ?_
  obtain ⟨t, rfl⟩ := intItems_at hv
  obtain ⟨h1, h2⟩ := argBest_lt (numAt xs) (xs.size - 1)
  refine h h' tk _ t hk ?_ fun a ha => ?_
  · rw [numAt_eq]; exact PySem.getD_mem (by rw [List.length_map, Array.length_toList]; omega)
  · obtain ⟨j, hj, rfl⟩ := mem_getD ha
    rw [List.length_map, Array.length_toList] at hj
    rw [← numAt_eq]; exact h2 j (by omega)
end
section
variable {X : Cx}
def rSumT (K : PySem.W.Frag) : List V → Hp → VK → Prop := fun vs H Q => ∃ (a : Addr) (ns : List Int), vs = [V.ref a] ∧ SqT K H a (ns.map V.int) ∧ Q (.int ns.sum) H
def rMaxT (K : PySem.W.Frag) : List V → Hp → VK → Prop := fun vs H Q => ∃ (a : Addr) (ns : List Int), vs = [V.ref a] ∧ SqT K H a (ns.map V.int) ∧ 0 < ns.length ∧ ∀ m, m ∈ ns → (∀ y, y ∈ ns → y ≤ m) → Q (.int m) H
def rMinT (K : PySem.W.Frag) : List V → Hp → VK → Prop := fun vs H Q => ∃ (a : Addr) (ns : List Int), vs = [V.ref a] ∧ SqT K H a (ns.map V.int) ∧ 0 < ns.length ∧ ∀ m, m ∈ ns → (∀ y, y ∈ ns → m ≤ y) → Q (.int m) H
theorem cr_sumT {K : PySem.W.Frag} (hc : X.calm = true) (hK : X.K = K := by rfl) : CallR X (.builtin "sum") (rSumT K) := by
  subst hK
  intro pins s σ H vs us Q I r h
  obtain ⟨a, ns, rfl, hs, q⟩ := h
  obtain ⟨its, rv, hl, _⟩ := I.tuple hs
  rw [Vals.ref1 r]
  exact sum_rawT (I.ok.hd hc) hl rv.ints fun h' tk t' hk => ⟨.int _, H, I.kept hk, ⟨_, rfl⟩, q⟩
theorem cr_maxT {K : PySem.W.Frag} (hc : X.calm = true) (hK : X.K = K := by rfl) : CallR X (.builtin "max") (rMaxT K) := by
  subst hK
  intro pins s σ H vs us Q I r h
  obtain ⟨a, ns, rfl, hs, hne, q⟩ := h
  obtain ⟨its, rv, hl, _⟩ := I.tuple hs
  rw [Vals.ref1 r]
  exact max_rawT (I.ok.hd hc) hl rv.ints hne fun h' tk m t' hk h1 h2 => ⟨.int _, H, I.kept hk, ⟨_, rfl⟩, q m h1 h2⟩
theorem cr_minT {K : PySem.W.Frag} (hc : X.calm = true) (hK : X.K = K := by rfl) : CallR X (.builtin "min") (rMinT K) := by
  subst hK
  intro pins s σ H vs us Q I r h
  obtain ⟨a, ns, rfl, hs, hne, q⟩ := h
  obtain ⟨its, rv, hl, _⟩ := I.tuple hs
  rw [Vals.ref1 r]
  exact min_rawT (I.ok.hd hc) hl rv.ints hne fun h' tk m t' hk h1 h2 => ⟨.int _, H, I.kept hk, ⟨_, rfl⟩, q m h1 h2⟩
theorem cr_maxK {K : PySem.W.Frag} (hc : X.calm = true) (hK : X.K = K := by rfl) : CallR X (.builtin "max") (rMax K) := by
  subst hK
  exact cr_max hc
theorem cr_minK {K : PySem.W.Frag} (hc : X.calm = true) (hK : X.K = K := by rfl) : CallR X (.builtin "min") (rMin K) := by
  subst hK
  exact cr_min hc
end
end TU
set_option Elab.async false
set_option linter.all false
set_option maxRecDepth 100000
set_option maxHeartbeats 4000000
namespace ZN
open PySem PySem.Spec PyProof.Rows L2 CM
open PySem.Sem (wp)
/-! ### zip of any number of tuples -/
section
variable {prog : Program} {w : World} {A : Around} {E : Value → Shared → Prop} {s : Shared}
theorem wpAny_loadIfAlive {M : Model} {a : Addr} {Q : Option Obj → Shared → Prop} (h : Q (s.heap.get? a) s) : wpAny M A (loadIfAlive a) Q E s := fun Γ p hΓ => by
  unfold loadIfAlive
  rw [Sem.wp_loadIfAlive]
  exact h
abbrev IsZipG (h : Heap) (z TI TO : Addr) (f0 f1 : Value) : Prop := h.get? z = some { cls := .type "zip", dict := none, data := .fields #[f0, f1, .bool false, .ref TI, .ref TO], slots := #[] }
abbrev IsTupO (h : Heap) (T : Addr) (vs : Array Value) : Prop := h.get? T = some { cls := .type "tuple", data := .seq vs }
abbrev Js := List (Addr × Addr)
def itsOf (js : Js) : Array Value := (js.map fun j => Value.ref j.1).toArray
structure Apart (z TI TO : Addr) (js : Js) : Prop where
  TIz : TI ≠ z
  TOz : TO ≠ z
  TITO : TI ≠ TO
  iz : ∀ j ∈ js, j.1 ≠ z ∧ j.1 ≠ TI ∧ j.1 ≠ TO
  nd : (js.map (·.1)).Nodup
  lz : ∀ j ∈ js, j.2 ≠ z ∧ j.2 ≠ TO ∧ ∀ k ∈ js, j.2 ≠ k.1
/-- the value that each gives at turn i -/
def Gives (h : Heap) (i : Nat) : Js → List Value → Prop := Paired fun j v => ∃ xs, h.IsTuple j.2 xs ∧ xs[i]? = some v
/-- what a turn keeps -/
def Kept (z TO : Addr) (js : Js) (h h' : Heap) : Prop := ∀ c o, c ≠ z → c ≠ TO → (∀ j ∈ js, c ≠ j.1) → h.get? c = some o → h'.get? c = some o
theorem Kept.trans {z TO : Addr} {js : Js} {h h1 h2 : Heap} (a : Kept z TO js h h1) (b : Kept z TO js h1 h2) : Kept z TO js h h2 := fun c o c1 c2 c3 e => b c o c1 c2 c3 (a c o c1 c2 c3 e)
theorem itsOf_list (js : Js) : (itsOf js).toList = js.map fun j => Value.ref j.1 := by unfold itsOf; rfl
theorem Gives.at {js : Js} {h h' : Heap} {i : Nat} {vals : List Value} (g : Gives h i js vals) (k : ∀ j ∈ js, ∀ o, h.get? j.2 = some o → h'.get? j.2 = some o) : Gives h' i js vals := by
  unfold Gives at g ⊢
  induction g with
  | nil => exact .nil
  | @cons j v js vals a t ih =>
    obtain ⟨xs, hx, hv⟩ := a
    exact .cons ⟨xs, hx.at (k j (List.mem_cons_self ..)), hv⟩ (ih fun j' hj' => k j' (List.mem_cons_of_mem _ hj'))
/-- the iterators ahead have gone, the others wait -/
structure Mid (z TO : Addr) (js : Js) (i : Nat) (vals : List Value) (h0 h : Heap) (done todo : Js) (vs1 vs2 : List Value) : Prop where
  eq : js = done ++ todo
  eqv : vals = vs1 ++ vs2
  len : vs1.length = done.length
  g : Gives h i todo vs2
  gone : ∀ j ∈ done, h.IsTupleIter j.1 j.2 (i + 1)
  wait : ∀ j ∈ todo, h.IsTupleIter j.1 j.2 i
  size : h.objs.size = h0.objs.size
  kept : Kept z TO js h0 h
theorem Mid.start {z TO : Addr} {js : Js} {i : Nat} {vals : List Value} {h0 h : Heap} (hi : ∀ j ∈ js, h.IsTupleIter j.1 j.2 i) (hg : Gives h i js vals) (hs : h.objs.size = h0.objs.size) (hk : Kept z TO js h0 h) : Mid z TO js i vals h0 h [] js [] vals :=
  ⟨rfl, rfl, rfl, hg, (fun _ z => by cases z), hi, hs, hk⟩
/-- writes at z or TO alone -/
theorem Mid.at {z TI TO a : Addr} {js : Js} {i : Nat} {vals : List Value} {h0 h h' : Heap} {done todo : Js} {vs1 vs2 : List Value} (m : Mid z TO js i vals h0 h done todo vs1 vs2) (D : Apart z TI TO js) (ha : a = z ∨ a = TO) (sb : Heap.SameBut a h h') : Mid z TO js i vals h0 h' done todo vs1 vs2 := by
  have e1 : ∀ j ∈ js, j.1 ≠ a := fun j hj => by
    rcases ha with rfl | rfl
    · exact (D.iz j hj).1
    · exact (D.iz j hj).2.2
  have e2 : ∀ j ∈ js, j.2 ≠ a := fun j hj => by
    rcases ha with rfl | rfl
    · exact (D.lz j hj).1
    · exact (D.lz j hj).2.1
  have inn : ∀ j, j ∈ done ∨ j ∈ todo → j ∈ js := fun j hj => by
    rw [m.eq]
    exact List.mem_append.mpr hj
  refine ⟨m.eq, m.eqv, m.len, m.g.at fun j hj o e => (sb.2 _ (e2 j (inn j (.inr hj)))).trans e, fun j hj => (m.gone j hj).at fun o e => (sb.2 _ (e1 j (inn j (.inl hj)))).trans e, fun j hj => (m.wait j hj).at fun o e => (sb.2 _ (e1 j (inn j (.inr hj)))).trans e, sb.1.trans m.size, m.kept.trans fun c o c1 c2 _ e => ?_⟩
  refine (sb.2 c ?_).trans e
  rcases ha with rfl | rfl
  · exact c1
  · exact c2
/-- one more has gone -/
theorem Mid.next {z TI TO : Addr} {js : Js} {i : Nat} {vals : List Value} {h0 h h' : Heap} {j : Addr × Addr} {v : Value} {done todo : Js} {vs1 vs2 : List Value} (m : Mid z TO js i vals h0 h done (j :: todo) vs1 (v :: vs2)) (D : Apart z TI TO js) (hj : h'.IsTupleIter j.1 j.2 (i + 1)) (sb : Heap.SameBut j.1 h h') :
    Mid z TO js i vals h0 h' (done ++ [j]) todo (vs1 ++ [v]) vs2 := by
  have mj : j ∈ js := by
    rw [m.eq]
    exact List.mem_append.mpr (.inr (List.mem_cons_self ..))
  have inn : ∀ k, k ∈ done ∨ k ∈ todo → k ∈ js := fun k hk => by
    rw [m.eq]
    exact List.mem_append.mpr (hk.imp id (List.mem_cons_of_mem _))
  have ne : ∀ k, k ∈ done ∨ k ∈ todo → k.1 ≠ j.1 := fun k hk e => by
    have nd := D.nd
    rw [m.eq, List.map_append, List.map_cons, List.nodup_append] at nd
    rcases hk with hk | hk
    · exact nd.2.2 k.1 (List.mem_map.mpr ⟨k, hk, rfl⟩) j.1 (List.mem_cons_self ..) e
    · exact (List.nodup_cons.mp nd.2.1).1 (e ▸ List.mem_map.mpr ⟨k, hk, rfl⟩)
  have g2 : Gives h i todo vs2 := by
    cases m.g with
    | cons a t => exact t
  refine ⟨by rw [m.eq, List.append_assoc]; rfl, by rw [m.eqv, List.append_assoc]; rfl, by rw [List.length_append, List.length_append, m.len]; rfl, g2.at fun k hk o e => (sb.2 _ ((D.lz k (inn k (.inr hk))).2.2 j mj)).trans e, fun k hk => ?_, fun k hk => (m.wait k (List.mem_cons_of_mem _ hk)).at fun o e => (sb.2 _ (ne k (.inr hk))).trans e, sb.1.trans m.size, m.kept.trans fun c o _ _ c3 e => (sb.2 c (c3 j mj)).trans e⟩
  rcases List.mem_append.mp hk with hk | hk
  · exact (m.gone k hk).at fun o e => (sb.2 _ (ne k (.inl hk))).trans e
  · rw [List.mem_singleton.mp hk]
    exact hj
theorem Kept.but {z TO a : Addr} {js : Js} {h h' : Heap} (ha : a = z ∨ a = TO) (sb : Heap.SameBut a h h') : Kept z TO js h h' := fun c o c1 c2 _ e => (sb.2 c (by
  rcases ha with rfl | rfl
  · exact c1
  · exact c2)).trans e
theorem zipN_item {z TI TO : Addr} {js : Js} {i : Nat} {f0 f1 : Value} {tos : Array Value} {vals : List Value} {Q : Value → Shared → Prop} (D : Apart z TI TO js) (hne : js ≠ []) (hsz : js.length ≤ 1000)
    (hz : IsZipG s.heap z TI TO f0 f1) (hf : f0 = .none ∨ ∃ T : Nat, f0 = rawInt T) (hTI : IsTupO s.heap TI (itsOf js)) (hTO : IsTupO s.heap TO tos) (ht : tos.size = js.length)
    (hi : ∀ j ∈ js, s.heap.IsTupleIter j.1 j.2 i) (hg : Gives s.heap i js vals)
    (hQ : ∀ h' (T : Nat) g1 tos', IsZipG h' z TI TO (rawInt T) g1 → IsTupO h' TO tos' → tos'.size = js.length → (∀ j ∈ js, h'.IsTupleIter j.1 j.2 (i + 1)) → IsTupO h' s.heap.objs.size vals.toArray → h'.objs.size = s.heap.objs.size + 1 →
      Kept z TO js s.heap h' → Q (.ref s.heap.objs.size) { s with heap := h' }) :
    wpAny (model prog w) A (Builtin.«zip.__next__» ⟨[.ref z], []⟩) (fun fin s' => ∃ v, fin = .done (.ret v) ∧ Q v s') E s := by
  have lv : vals.length = js.length := (Paired.length hg).symm
  have big : vals.length ≤ sizeLine := by rw [lv, sizeLine_eq]; omega
  show wpAny _ _ (field (.ref z) 2 >>= _) _ _ _
  refine wpAny_bind (wpAny_field hz rfl (x := .bool false) rfl ?_)
  show wpAny _ _ (field (.ref z) 3 >>= _) _ _ _
  refine wpAny_bind (wpAny_field hz rfl (x := .ref TI) rfl ?_)
  refine wpAny_bind (wpAny_seqItems hTI rfl ?_)
  have ne : (itsOf js).isEmpty = false := by
    cases js with
    | nil => exact absurd rfl hne
    | cons j js => simp [itsOf]
  dsimp only
  rw [ne]
  simp only [Bool.false_eq_true, if_false]
  refine wpAny_bind (wpAny_mono (Q := fun b s' => (b = true ∧ s = s') ∨ (b = false ∧ ∃ (T : Nat) (g1 : Value) (h' : Heap), s' = { s with heap := h' } ∧ IsZipG h' z TI TO (rawInt T) g1 ∧ Heap.SameBut z s.heap h')) ?free (fun b s' hb => ?_) (fun _ _ e => e))
  case free =>
    unfold Builtin.SmallTypes.ownedTupleIsFree
    refine wpAny_bind (wpAny_field hz rfl (x := f0) rfl ?_)
    rcases hf with rfl | ⟨T, rfl⟩
    · exact wpAny_pure (.inl ⟨rfl, rfl⟩)
    · refine wpAny_bind (wpAny_loadIfAlive ?_)
      cases hT : s.heap.get? (Int.toNat (T : Int)) with
      | none => exact wpAny_pure (.inl ⟨rfl, rfl⟩)
      | some o =>
        simp only [Option.isNone_some, Bool.false_eq_true, if_false]
        refine wpAny_bind (wpAny_field hz rfl (x := f1) rfl ?_)
        split
        · refine wpAny_bind (wpAny_setField_rec hz (by simp) fun h₁ hz₁ hs₁ => ?_)
          exact wpAny_pure (.inr ⟨rfl, T, .bool true, h₁, rfl, hz₁, hs₁⟩)
        · exact wpAny_pure (.inr ⟨rfl, T, f1, s.heap, rfl, hz, ⟨rfl, fun _ _ => rfl⟩⟩)
  rcases hb with ⟨rfl, rfl⟩ | ⟨rfl, T, g1, h1, rfl, hz1, sb1⟩
  · -- the tuple of its own
    simp only [if_true]
    refine wpAny_bind (wpAny_rule ?_)
    refine wpAny_bind (wpAny_field hz rfl (x := .ref TO) rfl ?_)
    dsimp only
    refine wpAny_bind (wpAny_setField_rec hz (by simp) fun h₁ hz₁ hs₁ => ?_)
    replace hz₁ : IsZipG h₁ z TI TO .ellipsis f1 := hz₁
    rw [itsOf_list]
    refine wpAny_bind (wpAny_forIn_list _ (fun rest b s' => ∃ (done todo : Js) (vs1 vs2 : List Value) (h : Heap) (ts : Array Value), s' = { s with heap := h } ∧ b = (none, ()) ∧ rest = (todo.map fun j => Value.ref j.1).zipIdx done.length ∧ Mid z TO js i vals s.heap h done todo vs1 vs2 ∧
      IsZipG h z TI TO .ellipsis f1 ∧ IsTupO h TO ts ∧ ts.size = js.length ∧ ∀ k, k < done.length → ts[k]? = vs1[k]?) _ ?_ ?_ _ _ ?_)
    · rintro x rest b s2 ⟨done, todo, vs1, vs2, h, ts, rfl, rfl, er, m, hz2, hT2, tz, hk⟩
      cases todo with
      | nil => cases er
      | cons j todo =>
        rw [List.map_cons, List.zipIdx_cons] at er
        obtain ⟨rfl, rfl⟩ := List.cons.inj er
        obtain ⟨v, vs2', rfl, ⟨xs, hx, hv⟩⟩ : ∃ v vs2', vs2 = v :: vs2' ∧ ∃ xs, h.IsTuple j.2 xs ∧ xs[i]? = some v := by
          have g := m.g
          cases g with
          | cons a t => exact ⟨_, _, rfl, a⟩
        dsimp only
        refine wpAny_bind (wpAny_onRaise ?_)
        show wpAny _ _ (Builtin.SmallTypes.nextOf (.ref j.1) >>= _) _ _ _
        refine wpAny_bind (RZ.nextOf_tuple_item (m.wait j (List.mem_cons_self ..)) hx hv fun h₂ h1₂ hs₂ => wpAny_pure ?_)
        have m2 := m.next D h1₂ hs₂
        have mj : j ∈ js := by
          rw [m.eq]
          exact List.mem_append.mpr (.inr (List.mem_cons_self ..))
        have hT3 : IsTupO h₂ TO ts := (hs₂.2 _ (Ne.symm (D.iz j mj).2.2)).trans hT2
        have hz3 : IsZipG h₂ z TI TO .ellipsis f1 := (hs₂.2 _ (Ne.symm (D.iz j mj).1)).trans hz2
        dsimp only
        refine wpAny_bind (wpAny_seqItems hT3 rfl ?_)
        dsimp only
        refine wpAny_bind (wpAny_updateSeq hT3 rfl ?_ (by rw [tz, sizeLine_eq]; omega) (by rw [Array.size_setIfInBounds, tz, sizeLine_eq]; omega))
        refine wpAny_bind (wpAny_letGo (wpAny_pure ?_))
        have hT4 : IsTupO (h₂.update TO (Obj.mapSeq fun x_2 => x_2.setIfInBounds done.length v)) TO (ts.setIfInBounds done.length v) := by
          show _ = _
          rw [Heap.get?_update_self _ hT3 rfl]
          simp [Obj.mapSeq]
        have sb4 : Heap.SameBut TO h₂ (h₂.update TO (Obj.mapSeq fun x_2 => x_2.setIfInBounds done.length v)) := Heap.SameBut.update ..
        refine ⟨done ++ [j], todo, vs1 ++ [v], vs2', _, ts.setIfInBounds done.length v, rfl, rfl, ?_, m2.at D (.inr rfl) sb4, (sb4.2 _ (Ne.symm D.TOz)).trans hz3, hT4, by rw [Array.size_setIfInBounds, tz], fun k hk' => ?_⟩
        · rw [List.length_append]
          rfl
        · rw [List.length_append, List.length_singleton] at hk'
          have ll : done.length < ts.size := by
            rw [tz, m.eq, List.length_append, List.length_cons]
            omega
          by_cases e : k = done.length
          · subst e
            rw [Array.getElem?_setIfInBounds_self_of_lt ll, ← m.len, List.getElem?_append_right (Nat.le_refl _), Nat.sub_self]
            rfl
          · rw [Array.getElem?_setIfInBounds_ne (Ne.symm e), hk k (by omega), List.getElem?_append_left (by rw [m.len]; omega)]
    · rintro b s2 ⟨done, todo, vs1, vs2, h, ts, rfl, rfl, er, m, hz2, hT2, tz, hk⟩
      cases todo with
      | cons j todo =>
        rw [List.map_cons, List.zipIdx_cons] at er
        cases er
      | nil =>
        have g := m.g
        have e1 : js = done := by rw [m.eq, List.append_nil]
        have e2 : vals = vs1 := by
          cases g
          rw [m.eqv, List.append_nil]
        subst e1
        subst e2
        have et : ts = vals.toArray := by
          refine Array.ext_getElem? fun k => ?_
          by_cases hk' : k < js.length
          · rw [hk k hk', List.getElem?_toArray]
          · rw [Array.getElem?_eq_none (by omega), List.getElem?_toArray, List.getElem?_eq_none (by omega)]
        subst et
        dsimp only
        refine wpAny_bind (wpAny_seqItems hT2 rfl ?_)
        dsimp only
        refine wpAny_bind (wpAny_newTuple ?_ (by simpa using big))
        have hs : h.objs.size = s.heap.objs.size := m.size
        have hzlt : z < h.objs.size := Heap.lt_size hz2
        refine wpAny_bind ?_
        unfold Builtin.SmallTypes.ownedTupleHandOut
        dsimp only
        have hz₆ : IsZipG (h.push { cls := .type "tuple", data := .seq vals.toArray.toList.toArray }) z TI TO .ellipsis f1 := Heap.get?_push_of_some _ hz2
        refine wpAny_bind (wpAny_setField_rec hz₆ (by simp) fun h₇ hz₇ hs₇ => ?_)
        replace hz₇ : IsZipG h₇ z TI TO (rawInt h.objs.size) f1 := hz₇
        refine wpAny_setField_rec hz₇ (by simp) fun h₈ hz₈ hs₈ => ?_
        replace hz₈ : IsZipG h₈ z TI TO (rawInt h.objs.size) (.bool false) := hz₈
        have up : ∀ c o, c ≠ z → h.get? c = some o → h₈.get? c = some o := fun c o c1 e => (hs₈.2 _ c1).trans ((hs₇.2 _ c1).trans (Heap.get?_push_of_some _ e))
        have hT₈ : IsTupO h₈ h.objs.size vals.toArray := (hs₈.2 _ (Nat.ne_of_gt hzlt)).trans ((hs₇.2 _ (Nat.ne_of_gt hzlt)).trans (Heap.get?_push_size _ rfl))
        have hz8 : h₈.objs.size = s.heap.objs.size + 1 := by rw [hs₈.1, hs₇.1, Heap.size_push, hs]
        refine wpAny_pure ⟨_, rfl, ?_⟩
        rw [hs] at hT₈
        show Q (.ref h.objs.size) _
        rw [hs]
        exact hQ h₈ _ _ vals.toArray hz₈ (up _ _ D.TOz hT2) tz (fun j hj => (m.gone j hj).at fun o e => up _ o (D.iz j hj).1 e) hT₈ hz8 (m.kept.trans fun c o c1 _ _ e => up c o c1 e)
    · refine ⟨[], js, [], vals, h₁, tos, rfl, rfl, rfl, ?_, hz₁, (hs₁.2 _ D.TOz).trans hTO, ht, fun k hk => absurd hk (Nat.not_lt_zero _)⟩
      exact Mid.start (fun j hj => (hi j hj).at fun o e => (hs₁.2 _ (D.iz j hj).1).trans e) (hg.at fun j hj o e => (hs₁.2 _ (D.lz j hj).1).trans e) hs₁.1 (Kept.but (.inl rfl) hs₁)
  · -- a new one
    simp only [Bool.false_eq_true, if_false]
    rw [← Array.forIn_toList, itsOf_list]
    refine wpAny_bind (wpAny_forIn_list _ (fun rest b s' => ∃ (done todo : Js) (vs1 vs2 : List Value) (h : Heap), s' = { s with heap := h } ∧ b = (none, vs1.toArray) ∧ rest = (todo.map fun j => Value.ref j.1) ∧ Mid z TO js i vals s.heap h done todo vs1 vs2 ∧
      IsZipG h z TI TO (rawInt T) g1 ∧ IsTupO h TO tos) _ ?_ ?_ _ _ ?_)
    · rintro x rest b s2 ⟨done, todo, vs1, vs2, h, rfl, rfl, er, m, hz2, hT2⟩
      cases todo with
      | nil => cases er
      | cons j todo =>
        obtain ⟨rfl, rfl⟩ := List.cons.inj er
        obtain ⟨v, vs2', rfl, ⟨xs, hx, hv⟩⟩ : ∃ v vs2', vs2 = v :: vs2' ∧ ∃ xs, h.IsTuple j.2 xs ∧ xs[i]? = some v := by
          have g := m.g
          cases g with
          | cons a t => exact ⟨_, _, rfl, a⟩
        refine wpAny_bind (wpAny_holding ?_)
        show wpAny _ _ (Builtin.SmallTypes.nextOf (.ref j.1) >>= _) _ _ _
        refine wpAny_bind (RZ.nextOf_tuple_item (m.wait j (List.mem_cons_self ..)) hx hv fun h₂ h1₂ hs₂ => wpAny_pure ?_)
        have m2 := m.next D h1₂ hs₂
        have mj : j ∈ js := by
          rw [m.eq]
          exact List.mem_append.mpr (.inr (List.mem_cons_self ..))
        exact wpAny_pure ⟨done ++ [j], todo, vs1 ++ [v], vs2', h₂, rfl, by simp, rfl, m2, (hs₂.2 _ (Ne.symm (D.iz j mj).1)).trans hz2, (hs₂.2 _ (Ne.symm (D.iz j mj).2.2)).trans hT2⟩
    · rintro b s2 ⟨done, todo, vs1, vs2, h, rfl, rfl, er, m, hz2, hT2⟩
      cases todo with
      | cons j todo => cases er
      | nil =>
        have g := m.g
        have e1 : js = done := by rw [m.eq, List.append_nil]
        have e2 : vals = vs1 := by
          cases g
          rw [m.eqv, List.append_nil]
        subst e1
        subst e2
        have hs : h.objs.size = s.heap.objs.size := m.size
        dsimp only
        refine wpAny_bind (wpAny_newTuple ?_ (by simpa using big))
        refine wpAny_pure ⟨_, rfl, ?_⟩
        show Q (.ref h.objs.size) _
        rw [hs]
        refine hQ _ T g1 tos (Heap.get?_push_of_some _ hz2) (Heap.get?_push_of_some _ hT2) ht (fun j hj => (m.gone j hj).at fun o e => Heap.get?_push_of_some _ e) ?_ (by rw [Heap.size_push, hs]) (m.kept.trans fun c o _ _ _ e => Heap.get?_push_of_some _ e)
        rw [← hs]
        exact Heap.get?_push_size _ rfl
    · refine ⟨[], js, [], vals, h1, rfl, rfl, rfl, ?_, hz1, (sb1.2 _ D.TOz).trans hTO⟩
      exact Mid.start (fun j hj => (hi j hj).at fun o e => (sb1.2 _ (D.iz j hj).1).trans e) (hg.at fun j hj o e => (sb1.2 _ (D.lz j hj).1).trans e) sb1.1 (Kept.but (.inl rfl) sb1)
theorem zipN_end {z TI TO : Addr} {j : Addr × Addr} {js : Js} {i : Nat} {f0 f1 : Value} {xs : Array Value} {Q : Fin → Shared → Prop} (hh : A.handled = none) (D : Apart z TI TO (j :: js))
    (hz : IsZipG s.heap z TI TO f0 f1) (hf : f0 = .none ∨ ∃ T : Nat, f0 = rawInt T) (hTI : IsTupO s.heap TI (itsOf (j :: js)))
    (hi : s.heap.IsTupleIter j.1 j.2 i) (hx : s.heap.IsTuple j.2 xs) (he : xs[i]? = none)
    (hE : ∀ h' e, Kept z TO (j :: js) s.heap h' → (∃ o, h'.get? e = some o ∧ o.cls = .type "StopIteration") → E (.ref e) { s with heap := h' }) :
    wpAny (model prog w) A (Builtin.«zip.__next__» ⟨[.ref z], []⟩) Q E s := by
  have mj : j ∈ j :: js := List.mem_cons_self ..
  show wpAny _ _ (field (.ref z) 2 >>= _) _ _ _
  refine wpAny_bind (wpAny_field hz rfl (x := .bool false) rfl ?_)
  show wpAny _ _ (field (.ref z) 3 >>= _) _ _ _
  refine wpAny_bind (wpAny_field hz rfl (x := .ref TI) rfl ?_)
  refine wpAny_bind (wpAny_seqItems hTI rfl ?_)
  have ne : (itsOf (j :: js)).isEmpty = false := by simp [itsOf]
  dsimp only
  rw [ne]
  simp only [Bool.false_eq_true, if_false]
  refine wpAny_bind (wpAny_mono (Q := fun b s' => (b = true ∧ s = s') ∨ (b = false ∧ ∃ (T : Nat) (g1 : Value) (h' : Heap), s' = { s with heap := h' } ∧ IsZipG h' z TI TO (rawInt T) g1 ∧ Heap.SameBut z s.heap h')) ?free (fun b s' hb => ?_) (fun _ _ e => e))
  case free =>
    unfold Builtin.SmallTypes.ownedTupleIsFree
    refine wpAny_bind (wpAny_field hz rfl (x := f0) rfl ?_)
    rcases hf with rfl | ⟨T, rfl⟩
    · exact wpAny_pure (.inl ⟨rfl, rfl⟩)
    · refine wpAny_bind (wpAny_loadIfAlive ?_)
      cases hT : s.heap.get? (Int.toNat (T : Int)) with
      | none => exact wpAny_pure (.inl ⟨rfl, rfl⟩)
      | some o =>
        simp only [Option.isNone_some, Bool.false_eq_true, if_false]
        refine wpAny_bind (wpAny_field hz rfl (x := f1) rfl ?_)
        split
        · refine wpAny_bind (wpAny_setField_rec hz (by simp) fun h₁ hz₁ hs₁ => ?_)
          exact wpAny_pure (.inr ⟨rfl, T, .bool true, h₁, rfl, hz₁, hs₁⟩)
        · exact wpAny_pure (.inr ⟨rfl, T, f1, s.heap, rfl, hz, ⟨rfl, fun _ _ => rfl⟩⟩)
  have eb : ∀ {h₁ h₂ : Heap}, Heap.SameBut z s.heap h₁ → Heap.ExtBut j.1 h₁ h₂ → Kept z TO (j :: js) s.heap h₂ := fun sb ex c o c1 c2 c3 e => ex _ _ (c3 j mj) ((sb.2 _ c1).trans e)
  rcases hb with ⟨rfl, rfl⟩ | ⟨rfl, T, g1, h1, rfl, hz1, sb1⟩
  · simp only [if_true]
    refine wpAny_bind (wpAny_rule ?_)
    refine wpAny_bind (wpAny_field hz rfl (x := .ref TO) rfl ?_)
    dsimp only
    refine wpAny_bind (wpAny_setField_rec hz (by simp) fun h₁ hz₁ hs₁ => ?_)
    replace hz₁ : IsZipG h₁ z TI TO .ellipsis f1 := hz₁
    rw [itsOf_list]
    simp only [List.map_cons, List.zipIdx_cons, List.forIn_cons]
    refine wpAny_bind (wpAny_bind (wpAny_bind (wpAny_onRaise ?_)))
    show wpAny _ _ (Builtin.SmallTypes.nextOf (.ref j.1) >>= _) _ _ _
    refine wpAny_bind (RZ.nextOf_tuple_end hh (hi.at fun o e => (hs₁.2 _ (D.iz j mj).1).trans e) (hx.at fun o e => (hs₁.2 _ (D.lz j mj).1).trans e) he fun h₂ e hs₂ he => ?_)
    obtain ⟨oe, hoe, hce⟩ := he
    have hz₂ : IsZipG h₂ z TI TO .ellipsis f1 := hs₂ _ _ (Ne.symm (D.iz j mj).1) hz₁
    have hez : e ≠ z := fun x => by subst x; rw [hz₂] at hoe; cases hoe; simp at hce
    exact wpAny_setField_rec hz₂ (by simp) fun h₃ _ hs₃ => hE h₃ e (fun c o c1 c2 c3 e' => (hs₃.2 _ c1).trans (eb hs₁ hs₂ c o c1 c2 c3 e')) ⟨oe, (hs₃.2 _ hez).trans hoe, hce⟩
  · simp only [Bool.false_eq_true, if_false]
    rw [← Array.forIn_toList, itsOf_list]
    simp only [List.map_cons, List.forIn_cons]
    refine wpAny_bind (wpAny_bind (wpAny_bind (wpAny_holding ?_)))
    show wpAny _ _ (Builtin.SmallTypes.nextOf (.ref j.1) >>= _) _ _ _
    exact wpAny_bind (RZ.nextOf_tuple_end hh (hi.at fun o e => (sb1.2 _ (D.iz j mj).1).trans e) (hx.at fun o e => (sb1.2 _ (D.lz j mj).1).trans e) he fun h₂ e hs₂ he => hE h₂ e (eb sb1 hs₂) he)
theorem pyNext_zipN_item {z TI TO : Addr} {js : Js} {i : Nat} {f0 f1 : Value} {tos : Array Value} {vals : List Value} {Q : Option Value → Shared → Prop} (D : Apart z TI TO js) (hne : js ≠ []) (hsz : js.length ≤ 1000)
    (hz : IsZipG s.heap z TI TO f0 f1) (hf : f0 = .none ∨ ∃ T : Nat, f0 = rawInt T) (hTI : IsTupO s.heap TI (itsOf js)) (hTO : IsTupO s.heap TO tos) (ht : tos.size = js.length)
    (hi : ∀ j ∈ js, s.heap.IsTupleIter j.1 j.2 i) (hg : Gives s.heap i js vals)
    (hQ : ∀ h' (T : Nat) g1 tos', IsZipG h' z TI TO (rawInt T) g1 → IsTupO h' TO tos' → tos'.size = js.length → (∀ j ∈ js, h'.IsTupleIter j.1 j.2 (i + 1)) → IsTupO h' s.heap.objs.size vals.toArray → h'.objs.size = s.heap.objs.size + 1 →
      Kept z TO js s.heap h' → Q (some (.ref s.heap.objs.size)) { s with heap := h' }) : wpAny (model prog w) A (pyNext (.ref z)) Q E s := by
  have hT : s.TypeIs (.ref z) "zip" := ⟨_, hz, rfl⟩
  unfold pyNext
  exact wpAny_bind (wpAny_attempt (wpAny_callSpecial?_slot (name := Str.ofString "__next__") hT F.slot_zip_next
    (wpAny_call_entry F.slot_zip_next hT F.entry_zip_next
      (zipN_item D hne hsz hz hf hTI hTO ht hi hg fun h' T g1 t' a1 a2 a3 a4 a5 a6 a7 => wpAny_pure (hQ h' T g1 t' a1 a2 a3 a4 a5 a6 a7)) (F.args_zip_next_1 _))))
theorem pyNext_zipN_end {z TI TO : Addr} {j : Addr × Addr} {js : Js} {i : Nat} {f0 f1 : Value} {xs : Array Value} {Q : Option Value → Shared → Prop} (hh : A.handled = none) (D : Apart z TI TO (j :: js))
    (hz : IsZipG s.heap z TI TO f0 f1) (hf : f0 = .none ∨ ∃ T : Nat, f0 = rawInt T) (hTI : IsTupO s.heap TI (itsOf (j :: js)))
    (hi : s.heap.IsTupleIter j.1 j.2 i) (hx : s.heap.IsTuple j.2 xs) (he : xs[i]? = none) (hQ : ∀ h', Kept z TO (j :: js) s.heap h' → Q none { s with heap := h' }) : wpAny (model prog w) A (pyNext (.ref z)) Q E s := by
  have hT : s.TypeIs (.ref z) "zip" := ⟨_, hz, rfl⟩
  unfold pyNext
  refine wpAny_bind (wpAny_attempt (wpAny_callSpecial?_slot (name := Str.ofString "__next__") hT F.slot_zip_next
    (wpAny_call_entry F.slot_zip_next hT F.entry_zip_next (zipN_end hh D hz hf hTI hi hx he fun h' e hk he => ?_) (F.args_zip_next_1 _))))
  obtain ⟨o, ho, hc⟩ := he
  refine wpAny_bind (wpAny_isInstance (T := "StopIteration") (b := true) ⟨o, ho, hc⟩ isSubtype_stop ?_)
  exact wpAny_pure (hQ _ hk)
theorem typeCall_zipN (vs : List Value) : checkTypeCall "zip" ⟨vs, []⟩ = pure () := by kernel_rfl
theorem upTo8 {p : List Value → Prop} (h0 : p []) (h1 : ∀ a, p [a]) (h2 : ∀ a b, p [a, b]) (h3 : ∀ a b c, p [a, b, c]) (h4 : ∀ a b c d, p [a, b, c, d]) (h5 : ∀ a b c d e, p [a, b, c, d, e]) (h6 : ∀ a b c d e f, p [a, b, c, d, e, f]) (h7 : ∀ a b c d e f g, p [a, b, c, d, e, f, g]) (h8 : ∀ a b c d e f g i, p [a, b, c, d, e, f, g, i]) : ∀ vs : List Value, vs.length ≤ 8 → p vs
  | [], _ => h0
  | [a], _ => h1 a
  | [a, b], _ => h2 a b
  | [a, b, c], _ => h3 a b c
  | [a, b, c, d], _ => h4 a b c d
  | [a, b, c, d, e], _ => h5 a b c d e
  | [a, b, c, d, e, f], _ => h6 a b c d e f
  | [a, b, c, d, e, f, g], _ => h7 a b c d e f g
  | [a, b, c, d, e, f, g, i], _ => h8 a b c d e f g i
  | _ :: _ :: _ :: _ :: _ :: _ :: _ :: _ :: _ :: _, h => absurd h (by simp)
theorem newCall_zipN : ∀ vs : List Value, vs.length ≤ 8 → checkBuiltinCall "zip.__new__" ⟨.type "zip" :: vs, []⟩ = pure () :=
  upTo8 (by kernel_rfl) (fun _ => by kernel_rfl) (fun _ _ => by kernel_rfl) (fun _ _ _ => by kernel_rfl) (fun _ _ _ _ => by kernel_rfl) (fun _ _ _ _ _ => by kernel_rfl) (fun _ _ _ _ _ _ => by kernel_rfl) (fun _ _ _ _ _ _ _ => by kernel_rfl) (fun _ _ _ _ _ _ _ _ => by kernel_rfl)
theorem args_object_initN (obj : Value) : ∀ vs : List Value, vs.length ≤ 8 → argsOk "object.__init__" ⟨obj :: vs, []⟩ := by
  have sg := signature?_of (id := "object.__init__") (n := ['_', '_', 't', 'i', 'n', 'i', '_', '_']) (o := ['t', 'c', 'e', 'j', 'b', 'o']) (by kernel_rfl) PySem.F.owner_object
  refine upTo8 ?_ (fun _ => ?_) (fun _ _ => ?_) (fun _ _ _ => ?_) (fun _ _ _ _ => ?_) (fun _ _ _ _ _ => ?_) (fun _ _ _ _ _ _ => ?_) (fun _ _ _ _ _ _ _ => ?_) (fun _ _ _ _ _ _ _ _ => ?_) <;> (unfold argsOk; rw [sg]; kernel_rfl)
def itO (l : Addr) : Obj := { cls := .type "tuple_iterator", data := .fields #[.ref l, .int 0 0] }
def pushIts (h : Heap) (ls : List Addr) : Heap := ls.foldl (fun h l => h.push (itO l)) h
def jsOf (n : Nat) : List Addr → Js
  | [] => []
  | l :: ls => (n, l) :: jsOf (n + 1) ls
theorem pushIts_snoc (h : Heap) (ls : List Addr) (l : Addr) : pushIts h (ls ++ [l]) = (pushIts h ls).push (itO l) := by
  unfold pushIts
  rw [List.foldl_append]
  rfl
theorem jsOf_snoc : ∀ (n : Nat) (ls : List Addr) (l : Addr), jsOf n (ls ++ [l]) = jsOf n ls ++ [(n + ls.length, l)]
  | n, [], l => rfl
  | n, k :: ls, l => by
    show (n, k) :: jsOf (n + 1) (ls ++ [l]) = (n, k) :: (jsOf (n + 1) ls ++ [(n + (ls.length + 1), l)])
    rw [jsOf_snoc (n + 1) ls l, show n + 1 + ls.length = n + (ls.length + 1) by omega]
theorem pushIts_size : ∀ (h : Heap) (ls : List Addr), (pushIts h ls).objs.size = h.objs.size + ls.length
  | h, [] => rfl
  | h, l :: ls => by
    show (pushIts (h.push (itO l)) ls).objs.size = _
    rw [pushIts_size, Heap.size_push, List.length_cons]
    omega
theorem pushIts_old : ∀ (h : Heap) (ls : List Addr) (c : Addr) (o : Obj), h.get? c = some o → (pushIts h ls).get? c = some o
  | h, [], c, o, e => e
  | h, l :: ls, c, o, e => pushIts_old (h.push (itO l)) ls c o (Heap.get?_push_of_some _ e)
theorem pushIts_at : ∀ (h : Heap) (ls : List Addr), ∀ j ∈ jsOf h.objs.size ls, (pushIts h ls).IsTupleIter j.1 j.2 0
  | h, [], j, hj => by cases hj
  | h, l :: ls, j, hj => by
    rcases List.mem_cons.mp hj with rfl | hj
    · exact ⟨itO l, pushIts_old _ ls _ _ (Heap.get?_push_size _ rfl), rfl, rfl⟩
    · have e := pushIts_at (h.push (itO l)) ls j
      rw [Heap.size_push] at e
      exact e hj
theorem jsOf_lt : ∀ (n : Nat) (ls : List Addr), ∀ j ∈ jsOf n ls, n ≤ j.1 ∧ j.1 < n + ls.length ∧ j.2 ∈ ls
  | n, [], j, hj => by cases hj
  | n, l :: ls, j, hj => by
    rcases List.mem_cons.mp hj with rfl | hj
    · exact ⟨Nat.le_refl _, Nat.lt_add_of_pos_right (Nat.succ_pos _), List.mem_cons_self ..⟩
    · obtain ⟨a, b, c⟩ := jsOf_lt (n + 1) ls j hj
      exact ⟨Nat.le_of_succ_le a, Nat.lt_of_lt_of_eq b (by rw [List.length_cons]; omega), List.mem_cons_of_mem _ c⟩
theorem jsOf_nd : ∀ (n : Nat) (ls : List Addr), ((jsOf n ls).map (·.1)).Nodup
  | n, [] => List.nodup_nil
  | n, l :: ls => by
    refine List.nodup_cons.mpr ⟨fun z => ?_, jsOf_nd (n + 1) ls⟩
    obtain ⟨j, hj, e⟩ := List.mem_map.mp z
    have := (jsOf_lt (n + 1) ls j hj).1
    have e2 : j.1 = n := e
    rw [e2] at this
    exact Nat.not_succ_le_self n this
theorem jsOf_len : ∀ (n : Nat) (ls : List Addr), (jsOf n ls).length = ls.length
  | n, [] => rfl
  | n, l :: ls => by
    show (jsOf (n + 1) ls).length + 1 = ls.length + 1
    rw [jsOf_len]
theorem wp_iterAll {ls : List Addr} {Q : List Value → Shared → Prop} (hl : ∀ l ∈ ls, ∃ items, s.heap.IsTuple l items)
    (h : Q ((jsOf s.heap.objs.size ls).map fun j => Value.ref j.1) { s with heap := pushIts s.heap ls }) : wpAny (model prog w) A (Builtin.SmallTypes.iterAll (ls.map Value.ref)) Q E s := by
  unfold Builtin.SmallTypes.iterAll
  refine wpAny_bind (wpAny_forIn_list _ (fun rest b s' => ∃ ls1 ls2, ls = ls1 ++ ls2 ∧ rest = ls2.map Value.ref ∧ s' = { s with heap := pushIts s.heap ls1 } ∧ b = ((jsOf s.heap.objs.size ls1).map fun j => Value.ref j.1).toArray) _ ?_ ?_ _ _ ⟨[], ls, rfl, rfl, rfl, rfl⟩)
  · rintro x rest b s2 ⟨ls1, ls2, e, er, rfl, rfl⟩
    cases ls2 with
    | nil => cases er
    | cons l ls2 =>
      obtain ⟨rfl, rfl⟩ := List.cons.inj er
      obtain ⟨items, ht⟩ := hl l (by rw [e]; exact List.mem_append.mpr (.inr (List.mem_cons_self ..)))
      refine wpAny_bind (wpAny_holding (wpAny_pyIter_tuple (ht.at fun o e => pushIts_old _ ls1 _ _ e) (wpAny_pure ?_)))
      refine ⟨ls1 ++ [l], ls2, by rw [e, List.append_assoc]; rfl, rfl, ?_, ?_⟩
      · rw [pushIts_snoc]
        rfl
      · rw [jsOf_snoc, List.map_append]
        show (List.map (fun j => Value.ref j.1) (jsOf s.heap.objs.size ls1)).toArray.push (Value.ref (pushIts s.heap ls1).objs.size) = _
        rw [pushIts_size]
        simp
  · rintro b s2 ⟨ls1, ls2, e, er, rfl, rfl⟩
    cases ls2 with
    | cons l ls2 => cases er
    | nil =>
      rw [List.append_nil] at e
      subst e
      exact wpAny_pure h
def zH3 (h : Heap) (ls : List Addr) : Heap := (pushIts h ls).push { cls := .type "tuple", data := .seq (itsOf (jsOf h.objs.size ls)) }
def zH4 (h : Heap) (ls : List Addr) : Heap := (zH3 h ls).push { cls := .type "tuple", data := .seq (((jsOf h.objs.size ls).map fun j => Value.ref j.1).map fun _ => Value.none).toArray }
def zH5 (h : Heap) (ls : List Addr) : Heap := (zH4 h ls).push { cls := .type "zip", data := .fields #[.none, .bool false, .bool false, .ref (pushIts h ls).objs.size, .ref (zH3 h ls).objs.size] }
theorem meets_zipN_new (ls : List Addr) (l8 : ls.length ≤ 8) :
    Meets (Builtin.«zip.__new__» ⟨.type "zip" :: ls.map Value.ref, []⟩) (fun _ R s => (∀ l ∈ ls, ∃ items, s.heap.IsTuple l items) ∧
      R (.ok (.ret (.ref (zH4 s.heap ls).objs.size))) { s with heap := zH5 s.heap ls }) :=
  .of_wp fun prog w A R s h => by
    obtain ⟨hp, g, d, tk, os⟩ := s; obtain ⟨hl1, h⟩ := h
    have hsub := sub_zip
    have hL : ∀ l ∈ ls, ∃ items, Heap.IsTuple (Shared.heap ⟨hp, g, d, tk, os⟩) l items := hl1
    have ll : ((jsOf hp.objs.size ls).map fun j => Value.ref j.1).length ≤ sizeLine := by
      rw [List.length_map, jsOf_len, sizeLine_eq]
      omega
    have ll2 : (((jsOf hp.objs.size ls).map fun j => Value.ref j.1).map fun _ => Value.none).length ≤ sizeLine := by
      rw [List.length_map]
      exact ll
    wp_walk using wp_iterAll hL, wpAny_newTuple
    all_goals first | exact ⟨_, rfl, h⟩ | exact ll2 | exact ll
theorem call_zipN {ls : List Addr} {Q : Value → Shared → Prop} (l8 : ls.length ≤ 8) (hl : ∀ l ∈ ls, ∃ items, s.heap.IsTuple l items)
    (h : ∀ h' (n : Nat), n = s.heap.objs.size → IsZipG h' (n + ls.length + 2) (n + ls.length) (n + ls.length + 1) .none (.bool false) → IsTupO h' (n + ls.length) (itsOf (jsOf n ls)) →
      (∃ tos, IsTupO h' (n + ls.length + 1) tos ∧ tos.size = (jsOf n ls).length) → (∀ j ∈ jsOf n ls, h'.IsTupleIter j.1 j.2 0) →
      (∀ c o, s.heap.get? c = some o → h'.get? c = some o) → Q (.ref (n + ls.length + 2)) { s with heap := h' }) :
    wpAny (model prog w) A (call (.type "zip") (ls.map Value.ref)) Q E s := by
  have lm : (ls.map Value.ref).length ≤ 8 := by rw [List.length_map]; exact l8
  refine callType_new F.called_zip (by decide) (typeCall_zipN _) (newCall_zipN _ lm) (fun obj => args_object_initN obj _ lm) F.entry_zip_new (meets_zipN_new ls l8) ⟨hl, ?_⟩
  have z2 : (pushIts s.heap ls).objs.size = s.heap.objs.size + ls.length := pushIts_size ..
  have z3 : (zH3 s.heap ls).objs.size = s.heap.objs.size + ls.length + 1 := by unfold zH3; rw [Heap.size_push, z2]
  have z4 : (zH4 s.heap ls).objs.size = s.heap.objs.size + ls.length + 2 := by unfold zH4; rw [Heap.size_push, z3]
  have g5 : (zH5 s.heap ls).get? (zH4 s.heap ls).objs.size = some _ := Heap.get?_push_size _ rfl
  have g4 : (zH5 s.heap ls).get? (zH3 s.heap ls).objs.size = some _ := Heap.get?_push_of_some _ (Heap.get?_push_size _ rfl)
  have g3 : (zH5 s.heap ls).get? (pushIts s.heap ls).objs.size = some _ := Heap.get?_push_of_some _ (Heap.get?_push_of_some _ (Heap.get?_push_size _ rfl))
  have up : ∀ c o, (pushIts s.heap ls).get? c = some o → (zH5 s.heap ls).get? c = some o := fun c o e => Heap.get?_push_of_some _ (Heap.get?_push_of_some _ (Heap.get?_push_of_some _ e))
  show _ ∧ _
  rw [z2, z3, z4] at g5
  rw [z2] at g3
  rw [z3] at g4
  rw [z4]
  refine ⟨⟨_, g5, rfl⟩, h _ _ rfl g5 g3 ⟨_, g4, ?_⟩ (fun j hj => (pushIts_at s.heap ls j hj).at fun o e => up _ o e) fun c o e => up c o (pushIts_old _ ls c o e)⟩
  simp
theorem apart_new {n : Nat} {ls : List Addr} (h : ∀ l ∈ ls, l < n) : Apart (n + ls.length + 2) (n + ls.length) (n + ls.length + 1) (jsOf n ls) := by
  refine ⟨by show (_ : Nat) ≠ _; omega, by show (_ : Nat) ≠ _; omega, by show (_ : Nat) ≠ _; omega, fun j hj => ?_, jsOf_nd _ _, fun j hj => ?_⟩
  · obtain ⟨a, b, c⟩ := jsOf_lt n ls j hj
    exact ⟨Nat.ne_of_lt (Nat.lt_of_lt_of_le b (Nat.le_add_right _ _)), Nat.ne_of_lt b, Nat.ne_of_lt (Nat.lt_of_lt_of_le b (Nat.le_add_right _ _))⟩
  · obtain ⟨a, b, c⟩ := jsOf_lt n ls j hj
    have d := h _ c
    exact ⟨Nat.ne_of_lt (Nat.lt_of_lt_of_le d (by rw [Nat.add_assoc]; exact Nat.le_add_right _ _)), Nat.ne_of_lt (Nat.lt_of_lt_of_le d (by rw [Nat.add_assoc]; exact Nat.le_add_right _ _)), fun k hk => Nat.ne_of_lt (Nat.lt_of_lt_of_le d (jsOf_lt n ls k hk).1)⟩
end
end ZN
namespace ZN
open PySem PySem.Spec PyProof.Rows L2 CM
/-! ### at the level of values -/
/-- the tuples at ps, item by item -/
def ItzN (K : PySem.W.Frag) (ps : List Addr) : It :=
  ⟨fun i H => ∃ row : List V, Paired (fun p v => ∃ xs, SqT K H p xs ∧ xs[i]? = some v) ps row,
    fun i H v H' => ∃ (T : Addr) (row : List V), v = .ref T ∧ H T = none ∧ H' = upd H T (.tup row) ∧ Paired (fun p v => ∀ xs, SqT K H p xs → xs[i]? = some v) ps row,
    fun i H => ∃ p ps' xs, ps = p :: ps' ∧ SqT K H p xs ∧ xs.length ≤ i⟩
def fpN (z TI TO : Addr) (js : Js) : List Addr := z :: TI :: TO :: js.map (·.1)
theorem Gives.of {X : Cx} {pins : List (Addr × Obj)} {σ : L2.St} {H : Hp} {s : Shared} (I : Inv X pins σ H s) {i : Nat} : ∀ {js : Js} {row : List V}, Paired (fun p v => ∃ xs, SqT X.K H p xs ∧ xs[i]? = some v) (js.map (·.2)) row → ∃ us, Gives s.heap i js us ∧ Vals row us
  | [], _, .nil => ⟨[], .nil, .nil⟩
  | j :: js, _, .cons a t => by
    obtain ⟨xs, hx, hv⟩ := a
    obtain ⟨its, rv, p, _⟩ := I.tuple hx
    obtain ⟨u, hu, ru⟩ := rv.get hv
    obtain ⟨us, g, r⟩ := Gives.of I t
    exact ⟨u :: us, .cons ⟨_, p, by simpa using hu⟩ g, .cons ru r⟩
theorem pyIter_zipG {prog : Program} {w : World} {A : Around} {E : Value → Shared → Prop} {s : Shared} {z TI TO : Addr} {f0 f1 : Value} {Q : Value → Shared → Prop} (hz : IsZipG s.heap z TI TO f0 f1) (h : Q (.ref z) s) : wpAny (model prog w) A (pyIter (.ref z)) Q E s := by
  have hT : s.TypeIs (.ref z) "zip" := ⟨_, hz, rfl⟩
  refine wpAny_pyIter_slot hT F.slot_zip_iter (wpAny_call_entry F.slot_zip_iter hT F.entry_zip_iter ?_ (F.args_zip_iter_1 _))
  show wpAny _ _ (ret (.ref z)) _ _ s
  exact wpAny_pure ⟨_, rfl, "zip", _, hT, F.slot_zip_next.lookup, h⟩
theorem turn_zipN {P : Program} {w : World} {K : PySem.W.Frag} {x : Str} {np : Pos} {z TI TO : Addr} {js : Js} (D : Apart z TI TO js) (hne : js ≠ []) (hsz : js.length ≤ 1000) :
    Turn P w K (.Name x np) (ItzN K (js.map (·.2))) (fpN z TI TO js) z (fun i h => ∃ f0 f1 tos, IsZipG h z TI TO f0 f1 ∧ (f0 = .none ∨ ∃ T : Nat, f0 = rawInt T) ∧ IsTupO h TI (itsOf js) ∧ IsTupO h TO tos ∧ tos.size = js.length ∧ ∀ j ∈ js, h.IsTupleIter j.1 j.2 i) where
  mem := List.mem_cons_self ..
  obj := fun i h st c hc => by
    obtain ⟨f0, f1, tos, hz, _, hTI, hTO, _, hi⟩ := st
    rcases List.mem_cons.mp hc with rfl | hc
    · exact ⟨_, hz, fun v q => nomatch q⟩
    rcases List.mem_cons.mp hc with rfl | hc
    · exact ⟨_, hTI, fun v q => nomatch q⟩
    rcases List.mem_cons.mp hc with rfl | hc
    · exact ⟨_, hTO, fun v q => nomatch q⟩
    obtain ⟨j, hj, rfl⟩ := List.mem_map.mp hc
    obtain ⟨o, e, _, d⟩ := hi j hj
    exact ⟨o, e, fun v q => by rw [d] at q; cases q⟩
  keep := fun i h h' st k => by
    obtain ⟨f0, f1, tos, hz, hf, hTI, hTO, ht, hi⟩ := st
    have m1 : z ∈ fpN z TI TO js := List.mem_cons_self ..
    have m2 : TI ∈ fpN z TI TO js := List.mem_cons_of_mem _ (List.mem_cons_self ..)
    have m3 : TO ∈ fpN z TI TO js := List.mem_cons_of_mem _ (List.mem_cons_of_mem _ (List.mem_cons_self ..))
    exact ⟨f0, f1, tos, k z m1 _ hz, hf, k TI m2 _ hTI, k TO m3 _ hTO, ht, fun j hj => (hi j hj).at fun o e => k j.1 (List.mem_cons_of_mem _ (List.mem_cons_of_mem _ (List.mem_cons_of_mem _ (List.mem_map.mpr ⟨j, hj, rfl⟩)))) o e⟩
  item := by
    intro X hP hw hK hc i pins s σ H E I hf st hg
    subst hP hw hK
    obtain ⟨f0, f1, tos, hz, hf0, hTI, hTO, ht, hi⟩ := st
    obtain ⟨row, hr⟩ := hg
    obtain ⟨us, hgv, rv⟩ := Gives.of I hr
    have lus : us.length = js.length := (Paired.length hgv).symm
    have hzl : z < s.heap.objs.size := Heap.lt_size hz
    refine pyNext_zipN_item D hne hsz hz hf0 hTI hTO ht hi hgv fun h' T g1 tos' z' TO' ht' hi' hT hs' hk => ?_
    refine ⟨_, rfl, wpAny_pure ?_⟩
    have new : ObjOk X.prog X.w (upd H s.heap.objs.size (.tup row)) h' s.heap.objs.size (.tup row) :=
      ⟨by rw [rv.length, lus, sizeLine_eq]; omega, us, rv, ⟨_, hT, rfl, _, rfl⟩⟩
    have I1 : Inv X pins σ (upd H s.heap.objs.size (.tup row)) { s with heap := h' } :=
      I.turnedNew (t' := s.toks) (ch := fpN z TI TO js) (fun c o hb q => hk c o (fun q' => hb (by rw [q']; exact List.mem_cons_self ..)) (fun q' => hb (by rw [q']; exact List.mem_cons_of_mem _ (List.mem_cons_of_mem _ (List.mem_cons_self ..))))
        (fun j hj q' => hb (by rw [q']; exact List.mem_cons_of_mem _ (List.mem_cons_of_mem _ (List.mem_cons_of_mem _ (List.mem_map.mpr ⟨j, hj, rfl⟩))))) q) hf (Nat.le_refl _) new
    have hTI' : IsTupO h' TI (itsOf js) := hk TI _ D.TIz D.TITO (fun j hj e => (D.iz j hj).2.1 e.symm) hTI
    refine ⟨.ref s.heap.objs.size, _, I1, rfl, ⟨_, row, rfl, I.hok.fresh (Nat.le_refl _), rfl, Paired.mapP hr fun p v ⟨xs, hx, hv⟩ ys hy => by rw [I.tuple_inj hy hx]; exact hv⟩, ⟨_, g1, tos', z', .inr ⟨T, rfl⟩, hTI', TO', ht', hi'⟩, fun c hcm => ?_⟩
    have hlt : c < s.heap.objs.size := by
      rcases List.mem_cons.mp hcm with rfl | hcm
      · exact hzl
      rcases List.mem_cons.mp hcm with rfl | hcm
      · exact Heap.lt_size hTI
      rcases List.mem_cons.mp hcm with rfl | hcm
      · exact Heap.lt_size hTO
      obtain ⟨j, hj, rfl⟩ := List.mem_map.mp hcm
      obtain ⟨_, e, _⟩ := hi j hj
      exact Heap.lt_size e
    rw [upd_ne (Nat.ne_of_lt hlt)]
    exact (hf c hcm).1
  done := by
    intro X hP hw hK hc i pins s σ H E I hf st hg
    subst hP hw hK
    obtain ⟨f0, f1, tos, hz, hf0, hTI, hTO, ht, hi⟩ := st
    obtain ⟨p, ps', xs, ep, hx, hl⟩ := hg
    cases js with
    | nil => exact absurd rfl hne
    | cons j js =>
      obtain ⟨rfl, _⟩ := List.cons.inj ep
      obtain ⟨its, rv, pp, _⟩ := I.tuple hx
      have l1 := rv.length
      refine pyNext_zipN_end (I.ok.hd hc) D hz hf0 hTI (hi j (List.mem_cons_self ..)) pp (by simp; omega) fun h' hk => ⟨rfl, I.turnedL (t' := s.toks) (ch := fpN z TI TO (j :: js)) (fun c o hb q => hk c o (fun q' => hb (by rw [q']; exact List.mem_cons_self ..)) (fun q' => hb (by rw [q']; exact List.mem_cons_of_mem _ (List.mem_cons_of_mem _ (List.mem_cons_self ..))))
        (fun j' hj q' => hb (by rw [q']; exact List.mem_cons_of_mem _ (List.mem_cons_of_mem _ (List.mem_cons_of_mem _ (List.mem_map.mpr ⟨j', hj, rfl⟩))))) q) hf⟩
  self := fun A i s Q E st h => by
    obtain ⟨f0, f1, tos, hz, _⟩ := st
    exact pyIter_zipG hz h
theorem callWith_typeS {M : Model} {A : Around} {E : Value → Shared → Prop} {s : Shared} {pos : Pos} {T : String} {x : Sem Value} {Q : Value → Shared → Prop}
    (h : wpAny M A x (fun v s₁ => PySem.W.StarOf M A E v (fun vs s₂ => wpAny M A (call (.type T) vs) Q E s₂) s₁) E s) :
    wpAny M A (callWith pos (.type T) [] [(true, (do let v ← x; standAt pos; pure v))] []) Q E s := by
  unfold callWith
  refine wpAny_bind (wpAny_holding (PySem.W.ks_lone (wpAny_mono h (fun v s₁ h₁ => ?_) fun _ _ e => e)))
  unfold PySem.W.StarOf at h₁ ⊢
  refine wpAny_mono h₁ (fun b s₂ h₂ => ⟨h₂.1, wpAny_mono h₂.2 (fun vs s₃ h₃ => ?_) fun _ _ e => e⟩) fun _ _ e => e
  refine wpAny_bind (wpAny_standAt ?_)
  refine wpAny_bind (wpAny_pure ?_)
  exact wpAny_bind (wpAny_operateT (wpAny_mono h₃ (fun r s₂ hr => wpAny_bind (wpAny_holding (wpAny_point (wpAny_pure hr)))) fun _ _ x => x))
theorem jsOf_snd : ∀ (n : Nat) (ls : List Addr), (jsOf n ls).map (·.2) = ls
  | n, [] => rfl
  | n, l :: ls => by
    show l :: (jsOf (n + 1) ls).map (·.2) = l :: ls
    rw [jsOf_snd]
/-- for .. in zip(*l), the rows at ps -/
def iZipN (K : PySem.W.Frag) (te : TE) : TI := fun σ H R => te σ H fun y H1 => ∃ (l : Addr) (ps : List Addr), y = .ref l ∧ (SqT K H1 l (ps.map V.ref) ∨ SqL K H1 l (ps.map V.ref)) ∧ ps ≠ [] ∧ ps.length ≤ 8 ∧ (∀ p ∈ ps, ∃ xs, SqT K H1 p xs) ∧ R (ItzN K ps) H1
theorem vals_refs : ∀ {ps : List Addr} {us : List Value}, Vals (ps.map V.ref) us → us = ps.map Value.ref
  | [], _, .nil => rfl
  | p :: ps, _, .cons r t => by
    cases r
    rw [vals_refs t]
    rfl
theorem pi_zipS {X : Cx} {e : Expr} {te : TE} {p sp pos np : Pos} {x : Str} (hg : Gl X "zip") (hm : X.mg "zip" = none) (he : PE X e te)
    (hst : starEach [.Starred e sp] X.env = [(true, eval e X.env)] := by rfl) : PI X (.Name x np) (.Call (.Name "zip" p) [.Starred e sp] [] pos) (iZipN X.K te) := by
  refine ⟨fun pins s σ H R I h => ?_⟩
  refine Call_ (ld_blt I hg hm PyProof.Rows.boot_zip ?_)
  rw [hst]
  refine callWith_typeS (thn (he.run pins s σ H _ I h) fun v s1 ⟨y, H1, I1, ry, l, ps, ey, hl, hne, h8, hps, q⟩ => ?_)
  subst ey
  obtain rfl : v = Value.ref l := ry
  refine StX.star_any I1 hl fun us s2 I2 rv => ?_
  rw [vals_refs rv]
  have tu : ∀ p ∈ ps, ∃ items, s2.heap.IsTuple p items := fun p hp => by
    obtain ⟨xs, hx⟩ := hps p hp
    obtain ⟨its, _, pp, _⟩ := I2.tuple hx
    exact ⟨_, pp⟩
  refine call_zipN h8 tu fun h' n en hz hTI hTO hi hk => pyIter_zipG hz ?_
  subst en
  obtain ⟨tos, hTO, htz⟩ := hTO
  have I3 : Inv X pins σ H1 { s2 with heap := h' } := I2.kept (t' := s2.toks) hk
  have nl : (jsOf s2.heap.objs.size ps).length = ps.length := jsOf_len ..
  refine ⟨s2.heap.objs.size + ps.length + 2, fpN (s2.heap.objs.size + ps.length + 2) (s2.heap.objs.size + ps.length) (s2.heap.objs.size + ps.length + 1) (jsOf s2.heap.objs.size ps), _, ItzN X.K ((jsOf s2.heap.objs.size ps).map (·.2)), H1, rfl, I3,
    turn_zipN (apart_new fun l hl => ?_) (fun z => hne ?_) (by rw [nl]; omega), ⟨_, _, tos, hz, .inl rfl, hTI, hTO, htz, hi⟩, fun c hc => ?_, ?_⟩
  · obtain ⟨_, o, ho, _⟩ := tu l hl
    exact Heap.lt_size ho
  · rw [z] at nl
    exact List.eq_nil_of_length_eq_zero nl.symm
  · have hle : s2.heap.objs.size ≤ c := by
      rcases List.mem_cons.mp hc with rfl | hc
      · rw [Nat.add_assoc]; exact Nat.le_add_right _ _
      rcases List.mem_cons.mp hc with rfl | hc
      · exact Nat.le_add_right _ _
      rcases List.mem_cons.mp hc with rfl | hc
      · rw [Nat.add_assoc]; exact Nat.le_add_right _ _
      obtain ⟨j, hj, rfl⟩ := List.mem_map.mp hc
      exact (jsOf_lt _ _ j hj).1
    exact I2.fpOk hle (I2.hok.fresh hle)
  · rw [jsOf_snd]
    exact q
/-- the rows of one length -/
theorem walk_zipN {K : PySem.W.Frag} {ps : List Addr} {n : Nat} {rows : List (List V)} (hne : ps ≠ []) :
    Walk (ItzN K ps) n (fun H => Paired (fun p xs => SqT K H p xs ∧ xs.length = n) ps rows) (fun i H v H' => ∃ (T : Addr) (row : List V), v = .ref T ∧ H T = none ∧ H' = upd H T (.tup row) ∧ Paired (fun p v => ∀ xs, SqT K H p xs → xs[i]? = some v) ps row) := by
  refine ⟨fun i H hi g => ?_, fun H g => ?_, fun i H v H' _ _ y => y⟩
  · have z : ∀ {ps : List Addr} {rows : List (List V)}, Paired (fun p xs => SqT K H p xs ∧ xs.length = n) ps rows → ∃ row : List V, Paired (fun p v => ∃ xs, SqT K H p xs ∧ xs[i]? = some v) ps row := by
      intro ps rows g
      induction g with
      | nil => exact ⟨[], .nil⟩
      | @cons p xs _ _ a _ ih =>
        obtain ⟨row, r⟩ := ih
        exact ⟨_, .cons ⟨xs, a.1, List.getElem?_eq_getElem (by rw [a.2]; exact hi)⟩ r⟩
    exact z g
  · cases g with
    | nil => exact absurd rfl hne
    | @cons p xs ps' _ a t => exact ⟨p, ps', xs, rfl, a.1, Nat.le_of_eq a.2⟩
end ZN
set_option Elab.async false
set_option linter.all false
set_option maxRecDepth 100000
set_option maxHeartbeats 4000000
namespace SM
open PySem PySem.Spec PyProof.Rows L2 CM
/-! ### C.m(..) and o.m(..), m a staticmethod -/
structure SMet (K : PySem.W.Frag) (C : Addr) (mc : Value) (m : Str) (p g : Addr) : Prop where
  at_ : PySem.W.findCls K (.ref C) mc m = some (.get (.builtin "staticmethod.__get__") (.ref p) .none (.ref C))
  rc : ∃ rest, PySem.W.recIn K p "staticmethod" = some (.ref g :: rest)
structure SInst (K : PySem.W.Frag) (C : Addr) (m : Str) (p g : Addr) : Prop where
  pg : PySem.W.plainGet K C Str.empty = true
  ic : PySem.W.isClsIn K C = true
  at_ : PySem.W.findIn K (.ref C) m = some (some (.ref p))
  ty : PySem.W.typeIn K (.ref p) = some (.type "staticmethod")
  get : PySem.W.specialIn K (.ref p) "__get__" = some (some (.builtin "staticmethod.__get__"))
  tk : PySem.W.takesIn K (.ref p) = some false
  cp : PySem.W.copiedNames.contains m = false
  rc : ∃ rest, PySem.W.recIn K p "staticmethod" = some (.ref g :: rest)
section
variable {X : Cx} {pins : List (Addr × Obj)} {σ : L2.St} {H : Hp} {s : Shared} {a C p g : Addr} {mc : Value} {f m : Str} {v : V} {u : Value} {A : Around} {E : Value → Shared → Prop}
theorem getsm_ok {b : Bool} {Q : Value → Shared → Prop} (I : Inv X pins σ H s) (r : ClX.CRead X.K C mc) (k : SMet X.K C mc m p g) (h : ∀ s', Inv X pins σ H s' → Q (.ref g) s') : wpAny (model X.prog X.w) A (getAttr (.ref C) m b) Q E s := by
  obtain ⟨rest, hp⟩ := k.rc
  refine PySem.W.cls_bind I.kIn r.rd k.at_ ?_
  refine wpAny_call (PySem.W.sm_get (s := { s with toks := s.toks + 1 }) I.kIn hp (PySem.W.handed_on rfl ?_))
  exact h _ (I.tok _)
theorem getmethsm_ok {pl : Sem Bool} {Q : Value × List Value → Shared → Prop} (I : Inv X pins σ H s) (r : ClX.CRead X.K C mc) (k : SMet X.K C mc m p g)
    (h : ∀ s', Inv X pins σ H s' → Q (.ref g, []) s') : wpAny (model X.prog X.w) A (getMethod (.ref C) m pl) Q E s :=
  PySem.W.method_cls I.kIn r.ga (getsm_ok I r k h)
theorem getmethism_ok {pl : Sem Bool} {ox od : Obj} {Q : Value × List Value → Shared → Prop} (I : Inv X pins σ H s) (J : PySem.W.InstAt s.heap a ox C (some od)) (hl : PySem.W.lookIn m od = some none) (k : SInst X.K C m p g)
    (h : ∀ s', Inv X pins σ H s' → Q (.ref g, []) s') : wpAny (model X.prog X.w) A (getMethod (.ref a) m pl) Q E s := by
  obtain ⟨rest, hp⟩ := k.rc
  refine PySem.W.method_usual (r := some (.ref p)) I.kIn J (PySem.W.plainGet_of (show PySem.W.plainGet X.K C m = true from k.pg)).1 (PySem.W.plainGet_of (show PySem.W.plainGet X.K C m = true from k.pg)).2 k.at_ ?_ ?_
  · show ((PySem.W.typeIn X.K (.ref p)).any fun t => t != .type "function" && t != .type "method_descriptor" && t != .type "wrapper_descriptor") = true
    rw [k.ty]
    decide +kernel
  · refine PySem.W.get_bind I.kIn J (PySem.W.plainGet_of (show PySem.W.plainGet X.K C m = true from k.pg)).1 (ClX.find_cm k.ic k.at_ k.get k.tk k.cp hl) (PySem.W.plainGet_of (show PySem.W.plainGet X.K C m = true from k.pg)).2 ?_
    refine wpAny_call (PySem.W.sm_get (s := { s with toks := s.toks + 1 }) I.kIn hp (PySem.W.handed_on rfl ?_))
    exact h _ (I.tok _)
end
/-- e.m(..), e the class at C, m a staticmethod; what it lets out may hang on the names -/
def tSMeth (C : Addr) (sp : Sp) (E : L2.St → XK) (ta : TE) (t : TA) : TE := fun σ H Q => ta σ H fun x H1 => x = .ref C ∧ t σ H1 fun vs H2 => sp vs H2 Q (E σ)
def tISMeth (C : Addr) (m : Str) (sp : Sp) (E : L2.St → XK) (ta : TE) (t : TA) : TE := fun σ H Q => ta σ H fun x H1 => ∃ a dx fs, x = .ref a ∧ H1 a = some (.ins C dx fs) ∧ fs.lookup m = none ∧ t σ H1 fun ws H2 => sp ws H2 Q (E σ)
section
variable {X : Cx} {CX : CXT} {k : Nat} {C p g : Addr} {mc : Value} {fd : FuncData} {ps : List Str} {sp : Sp} {E : L2.St → XK} {o e : Expr} {es : List Expr} {f m : Str} {pos apos : Pos} {ta : TE} {t : TA} {pl : Sem Bool}
theorem run_fnS {pins : List (Addr × Obj)} {σ : L2.St} {H : Hp} {s : Shared} {Q : VK} {us : List Value} {vs : List V} (F : FnOk X.prog X.w X.K X.mg X.base CX k g fd ps sp) (hr : Room k X.A) (hb : Binds X.K fd ps []) (hx : PassesAt CX X σ (E σ))
    (I : Inv X pins σ H s) (r : Vals vs us) (h : sp vs H Q (E σ)) : wpAny (model X.prog X.w) X.A (call (.ref g) us) (EP X pins σ Q) X.xe s := by
  have hl : (us ++ ([] : List Value)).length = ps.length := by rw [List.append_nil, ← r.length]; exact F.len _ _ _ _ h
  have bb := hb s us I.kIn hl
  rw [List.append_nil] at bb
  refine wpAny_call (codeAny_mono (F.run X.A X.stack s H ⟨us, []⟩ us vs Q (E σ) hr I.env0 bb r h) fun r s' hq => ?_)
  cases r with
  | error e => exact hx pins H s e s' I hq
  | ok fl =>
    cases fl with
    | ret u => exact I.after hq
    | next => exact False.elim hq
    | brk => exact False.elim hq
    | cont => exact False.elim hq
theorem pe_smeth (he : PE X o ta) (r : ClX.CRead X.K C mc) (c : SMet X.K C mc m p g) (hk : PySem.W.keepIn X.K (.ref g) = true) (F : FnOk X.prog X.w X.K X.mg X.base CX k g fd ps sp) (hr : Room k X.A) (hb : Binds X.K fd ps []) (hx : ∀ σ, PassesAt CX X σ (E σ)) (ha : PA X (e :: es) t)
    (hst : starEach (e :: es) X.env = (false, eval e X.env) :: starEach es X.env := by rfl) (hpl : (backTo pos (starEach es X.env)).any (·.1) = false := by rfl)
    (ht : eval (.Call (.Attribute o m apos) (e :: es) [] pos) X.env = (do
      let ov ← eval o X.env
      standAt apos.atName
      let (f, first) ← holding [ov] (getMethod ov m pl)
      callWith pos f first (backTo pos (starEach (e :: es) X.env)) (backToKw pos (keywordEach [] X.env))) := by rfl) :
    PE X (.Call (.Attribute o m apos) (e :: es) [] pos) (tSMeth C sp E ta t) := by
  refine ⟨fun pins s σ H Q I h => ?_⟩
  refine PySem.W.methodCall_KW (pl := pl) (thn (he.run pins s σ H _ I h) fun u s1 ⟨x, H1, I1, rx, ex, q⟩ => ?_) ht
  subst ex
  obtain rfl : u = Value.ref C := rx
  refine getmethsm_ok I1 r c fun s2 I2 => ?_
  refine PySem.W.callWith_K (h₀ := X.base) (first := []) I.ok.mod.kin hk (thn (ha.run pos pins s2 σ H1 _ I2 q) fun us s3 ⟨vs, H2, I3, rv, q2⟩ => ⟨I3.kIn, ?_⟩) hst hpl
  exact run_fnS F hr hb (hx σ) I3 rv q2
theorem pe_ismeth (he : PE X o ta) (c : SInst X.K C m p g) (hk : PySem.W.keepIn X.K (.ref g) = true) (F : FnOk X.prog X.w X.K X.mg X.base CX k g fd ps sp) (hr : Room k X.A) (hb : Binds X.K fd ps []) (hx : ∀ σ, PassesAt CX X σ (E σ)) (ha : PA X (e :: es) t)
    (hst : starEach (e :: es) X.env = (false, eval e X.env) :: starEach es X.env := by rfl) (hpl : (backTo pos (starEach es X.env)).any (·.1) = false := by rfl)
    (ht : eval (.Call (.Attribute o m apos) (e :: es) [] pos) X.env = (do
      let ov ← eval o X.env
      standAt apos.atName
      let (f, first) ← holding [ov] (getMethod ov m pl)
      callWith pos f first (backTo pos (starEach (e :: es) X.env)) (backToKw pos (keywordEach [] X.env))) := by rfl) :
    PE X (.Call (.Attribute o m apos) (e :: es) [] pos) (tISMeth C m sp E ta t) := by
  refine ⟨fun pins s σ H Q I h => ?_⟩
  refine PySem.W.methodCall_KW (pl := pl) (thn (he.run pins s σ H _ I h) fun u s1 ⟨x, H1, I1, rx, a, dx, fs, ex, ea, l, q⟩ => ?_) ht
  subst ex
  obtain rfl : u = Value.ref a := rx
  obtain ⟨mA, O, rr, _, _, _⟩ := ins_get I1.hok ea
  have hn : mA m = none := RelO.none_of (by rw [← l]; exact rr m)
  obtain ⟨od, J, hl⟩ := O.look
  refine getmethism_ok I1 J (by rw [hl m, hn]) c fun s2 I2 => ?_
  refine PySem.W.callWith_K (h₀ := X.base) (first := []) I.ok.mod.kin hk (thn (ha.run pos pins s2 σ H1 _ I2 q) fun us s3 ⟨vs, H2, I3, rv, q2⟩ => ⟨I3.kIn, ?_⟩) hst hpl
  exact run_fnS F hr hb (hx σ) I3 rv q2
end
/-! ### a head's facts of it -/
/-- the class at C has m as a staticmethod, reached by the class and by an instance -/
def staB (K : PySem.W.Frag) (C : Addr) (m : Str) : Bool := He5.wrapB K C "staticmethod" "staticmethod.__get__" m && (PySem.W.readsIn K C (.type "type") && (He.eqO (PySem.W.specialIn K (.ref C) "__getattribute__") (some (some (.builtin "type.__getattribute__"))) &&
  (PySem.W.plainGet K C Str.empty && (PySem.W.isClsIn K C && (He.eqO (PySem.W.findIn K (.ref C) m) (some (some (.ref (He.ma K C m)))) && (decide (PySem.W.typeIn K (.ref (He.ma K C m)) = some (.type "staticmethod")) &&
  (He.eqO (PySem.W.specialIn K (.ref (He.ma K C m)) "__get__") (some (some (.builtin "staticmethod.__get__"))) && (decide (PySem.W.takesIn K (.ref (He.ma K C m)) = some false) && !PySem.W.copiedNames.contains m))))))))
/-- the def behind it -/
def staF (K : PySem.W.Frag) (C : Addr) (m : Str) : Addr := He5.wf K C "staticmethod" m
structure Sta (K : PySem.W.Frag) (C : Addr) (m : Str) : Prop where
  rd : ClX.CRead K C (.type "type")
  met : SMet K C (.type "type") m (He.ma K C m) (staF K C m)
  ins : SInst K C m (He.ma K C m) (staF K C m)
theorem staB_ok {K : PySem.W.Frag} {C : Addr} {m : Str} (h : staB K C m = true) : Sta K C m := by
  obtain ⟨h1, h⟩ := He.ba h
  obtain ⟨h2, h⟩ := He.ba h
  obtain ⟨h3, h⟩ := He.ba h
  obtain ⟨h4, h⟩ := He.ba h
  obtain ⟨h5, h⟩ := He.ba h
  obtain ⟨h6, h⟩ := He.ba h
  obtain ⟨h7, h⟩ := He.ba h
  obtain ⟨h8, h⟩ := He.ba h
  obtain ⟨h9, h10⟩ := He.ba h
  obtain ⟨w1, w2⟩ := He5.wrapB_ok h1
  exact ⟨⟨h2, He.eqO_ok h3⟩, ⟨w1, w2⟩, ⟨h4, h5, He.eqO_ok h6, of_decide_eq_true h7, He.eqO_ok h8, of_decide_eq_true h9, Bool.not_eq_true' _ ▸ h10, w2⟩⟩
/-! ### a hook: what the names reach and the interpreter's own statics, tables left out, defs at any address -/
abbrev AlZ : Type := He.AlX × List He5.FnW
def obsZ (n : Nat) (fa : List He.Fa) (fn : List He.DefD) (tf : List He.Defn) (da : List He5.DefA) (ex : PySem.W.Frag → Bool) (g : Addr → Option Obj) : AlZ :=
  ((He.obsT fa fn [] (OX.reachY g n), (ex (OX.reachY g n) && da.all fun d => d.ok (OX.reachY g n)) && He.tabsB g tf (OX.reachY g n)), da.map fun d => He5.fnA (OX.reachY g n) (d.at_ (OX.reachY g n)))
def valZ (fn : List He.DefD) (da : List He5.DefA) (w : World) : AlZ := (He.valX fn [] w, da.map He5.DefA.val)
structure SaysZ (fa : List He.Fa) (fn : List He.DefD) (tf : List He.Defn) (da : List He5.DefA) (ex : PySem.W.Frag → Bool) (w : World) (h : Heap) (K : PySem.W.Frag) : Prop where
  x : He.SaysX fa fn [] tf ex w h K
  dok : ∀ d ∈ da, d.ok K = true
  dat : da.map (fun d => He5.fnA K (d.at_ K)) = da.map He5.DefA.val
theorem saysZ {n : Nat} {fa : List He.Fa} {fn : List He.DefD} {tf : List He.Defn} {da : List He5.DefA} {ex : PySem.W.Frag → Bool} {w : World} {h : Heap} (e : obsZ n fa fn tf da ex h.get? = valZ fn da w) : SaysZ fa fn tf da ex w h (OX.reachY h.get? n) := by
  have e1 : He.obsT fa fn [] (OX.reachY h.get? n) = He.valT fn [] w := congrArg (fun z : AlZ => z.1.1) e
  have e2 : ((ex (OX.reachY h.get? n) && da.all fun d => d.ok (OX.reachY h.get? n)) && He.tabsB h.get? tf (OX.reachY h.get? n)) = true := congrArg (fun z : AlZ => z.1.2) e
  have e3 : da.map (fun d => He5.fnA (OX.reachY h.get? n) (d.at_ (OX.reachY h.get? n))) = da.map He5.DefA.val := congrArg (fun z : AlZ => z.2) e
  obtain ⟨h0, h2⟩ := He.ba e2
  obtain ⟨h1, hd⟩ := He.ba h0
  have key : ∀ p ∈ tf, PySem.W.codeHdIn (OX.reachY h.get? n) (He.cT (OX.reachY h.get? n) p).1 (He.cT (OX.reachY h.get? n) p).2 = true ∧ ∃ o, h.get? (He.cT (OX.reachY h.get? n) p).2 = some o ∧ He.emptyTab o = true := fun p hp => by
    obtain ⟨h3, h4⟩ := He.ba (List.all_eq_true.mp h2 p hp)
    refine ⟨h3, ?_⟩
    cases q : h.get? (He.cT (OX.reachY h.get? n) p).2 with
    | none =>
      rw [q] at h4
      cases h4
    | some o =>
      rw [q] at h4
      exact ⟨o, rfl, h4⟩
  exact ⟨⟨e1, h1, fun p hp => (key p hp).1, fun p hp => by
    obtain ⟨_, o, q, z⟩ := key p hp
    exact He.frT_none q z, fun p hp => by
    obtain ⟨_, o, q, z⟩ := key p hp
    rw [q, He.emptyTab_eq z]⟩, fun d hd' => List.all_eq_true.mp hd d hd', e3⟩
def hookZ (n : Nat) (fa : List He.Fa) (fn : List He.DefD) (tf : List He.Defn) (da : List He5.DefA) (ex : PySem.W.Frag → Bool) : PySem.W.Hook where
  α := AlZ
  obs s := obsZ n fa fn tf da ex s.heap.get?
  val w := valZ fn da w
  says w h := ∃ K : PySem.W.Frag, K.In h ∧ SaysZ fa fn tf da ex w h K
  of _ s e := ⟨OX.reachY s.heap.get? n, He.frT_in, saysZ e⟩
  keeps _ _ _ z k := by
    obtain ⟨K, hK, c⟩ := z
    exact ⟨K, hK.keeps k, ⟨⟨c.x.t, c.x.more, c.x.hd, c.x.out, fun p hp => k _ _ (c.x.empty p hp)⟩, c.dok, c.dat⟩⟩
theorem obsZ_eq {n : Nat} {fa : List He.Fa} {fn : List He.DefD} {tf : List He.Defn} {da : List He5.DefA} {ex : PySem.W.Frag → Bool} {g : Addr → Option Obj} {s : Shared} (h : ∀ a, g a = s.heap.get? a) : obsZ n fa fn tf da ex g = (hookZ n fa fn tf da ex).obs s := by
  rw [show g = s.heap.get? from funext h]
  rfl
theorem SaysZ.def_ {fa : List He.Fa} {fn : List He.DefD} {tf : List He.Defn} {da : List He5.DefA} {ex : PySem.W.Frag → Bool} {w : World} {h : Heap} {K : PySem.W.Frag} (c : SaysZ fa fn tf da ex w h K) (i : Nat) {d : He5.DefA} (e : da[i]? = some d := by rfl) : ∃ fd, L2.FunD K d.name d.qual d.params d.body d.scope (d.dvs K) (d.kws K) (d.at_ K) fd := by
  have e2 : (da.map fun d => He5.fnA K (d.at_ K))[i]? = (da.map He5.DefA.val)[i]? := by rw [c.dat]
  rw [List.getElem?_map, List.getElem?_map, e] at e2
  exact He5.DefA.funD (Option.some.inj e2) (c.dok d (List.mem_of_getElem? e))
end SM
set_option Elab.async false
set_option linter.all false
set_option maxRecDepth 100000
set_option maxHeartbeats 2000000
namespace K04
open PySem PySem.Spec PyProof.Rows L2 CM DN GR
def topS (i : Nat) : Stmt := PySem.Challenge.pw_kindgrove_k04_what_grids_refuse.main.body.getD i (.Pass ⟨0, 0, 0, 0⟩)
abbrev s_wall : Stmt := topS 0
abbrev n_wall : List Str := ["k"]
theorem sc_wall : FnScope n_wall ["k"] (defScope s_wall) := ⟨rfl, rfl, rfl, by decide +kernel, rfl, by decide +kernel, by decide +kernel⟩
abbrev s_BadValue___init : Stmt := inClass (topS 3) 0
abbrev n_BadValue___init : List Str := ["self", "value"]
theorem sc_BadValue___init : FnScope n_BadValue___init ["self", "value"] (defScope s_BadValue___init) := ⟨rfl, rfl, rfl, by decide +kernel, rfl, by decide +kernel, by decide +kernel⟩
abbrev s_is_int : Stmt := topS 6
abbrev n_is_int : List Str := ["thing"]
theorem sc_is_int : FnScope n_is_int ["thing"] (defScope s_is_int) := ⟨rfl, rfl, rfl, by decide +kernel, rfl, by decide +kernel, by decide +kernel⟩
abbrev s_is_flag : Stmt := topS 7
abbrev n_is_flag : List Str := ["thing"]
theorem sc_is_flag : FnScope n_is_flag ["thing"] (defScope s_is_flag) := ⟨rfl, rfl, rfl, by decide +kernel, rfl, by decide +kernel, by decide +kernel⟩
abbrev s_by_repr : Stmt := topS 8
abbrev n_by_repr : List Str := ["things"]
theorem sc_by_repr : FnScope n_by_repr ["things"] (defScope s_by_repr) := ⟨rfl, rfl, rfl, by decide +kernel, rfl, by decide +kernel, by decide +kernel⟩
abbrev s_is_plain : Stmt := topS 9
abbrev n_is_plain : List Str := ["thing"]
theorem sc_is_plain : FnScope n_is_plain ["thing"] (defScope s_is_plain) := ⟨rfl, rfl, rfl, by decide +kernel, rfl, by decide +kernel, by decide +kernel⟩
abbrev s_is_plain_within : Stmt := topS 10
abbrev n_is_plain_within : List Str := ["thing", "deepest", "part"]
theorem sc_is_plain_within : FnScope n_is_plain_within ["thing", "deepest"] (defScope s_is_plain_within) := ⟨rfl, rfl, rfl, by decide +kernel, rfl, by decide +kernel, by decide +kernel⟩
abbrev s_Filling___init : Stmt := inClass (topS 12) 0
abbrev n_Filling___init : List Str := ["self", "default", "places", "place"]
theorem sc_Filling___init : FnScope n_Filling___init ["self", "default", "places"] (defScope s_Filling___init) := ⟨rfl, rfl, rfl, by decide +kernel, rfl, by decide +kernel, by decide +kernel⟩
abbrev s_Grid___init : Stmt := inClass (topS 13) 0
abbrev n_Grid___init : List Str := ["self", "default"]
theorem sc_Grid___init : FnScope n_Grid___init ["self", "default"] (defScope s_Grid___init) := ⟨rfl, rfl, rfl, by decide +kernel, rfl, by decide +kernel, by decide +kernel⟩
abbrev s_Grid___getitem : Stmt := inClass (topS 13) 1
abbrev n_Grid___getitem : List Str := ["self", "at"]
theorem sc_Grid___getitem : FnScope n_Grid___getitem ["self", "at"] (defScope s_Grid___getitem) := ⟨rfl, rfl, rfl, by decide +kernel, rfl, by decide +kernel, by decide +kernel⟩
abbrev s_Grid___setitem : Stmt := inClass (topS 13) 2
abbrev n_Grid___setitem : List Str := ["self", "at", "worth", "place"]
theorem sc_Grid___setitem : FnScope n_Grid___setitem ["self", "at", "worth"] (defScope s_Grid___setitem) := ⟨rfl, rfl, rfl, by decide +kernel, rfl, by decide +kernel, by decide +kernel⟩
abbrev s_Grid___call : Stmt := inClass (topS 13) 3
abbrev n_Grid___call : List Str := ["self", "one", "other"]
theorem sc_Grid___call : FnScope n_Grid___call ["self", "one", "other"] (defScope s_Grid___call) := ⟨rfl, rfl, rfl, by decide +kernel, rfl, by decide +kernel, by decide +kernel⟩
abbrev s_Grid___iter : Stmt := inClass (topS 13) 4
abbrev n_Grid___iter : List Str := ["self"]
theorem sc_Grid___iter : FnScope n_Grid___iter ["self"] (defScope s_Grid___iter) := ⟨rfl, rfl, rfl, by decide +kernel, rfl, by decide +kernel, by decide +kernel⟩
abbrev s_Grid___contains : Stmt := inClass (topS 13) 5
abbrev n_Grid___contains : List Str := ["self", "x"]
theorem sc_Grid___contains : FnScope n_Grid___contains ["self", "x"] (defScope s_Grid___contains) := ⟨rfl, rfl, rfl, by decide +kernel, rfl, by decide +kernel, by decide +kernel⟩
abbrev s_Grid___len : Stmt := inClass (topS 13) 6
abbrev n_Grid___len : List Str := ["self"]
theorem sc_Grid___len : FnScope n_Grid___len ["self"] (defScope s_Grid___len) := ⟨rfl, rfl, rfl, by decide +kernel, rfl, by decide +kernel, by decide +kernel⟩
abbrev s_Grid___bool : Stmt := inClass (topS 13) 7
abbrev n_Grid___bool : List Str := ["self"]
theorem sc_Grid___bool : FnScope n_Grid___bool ["self"] (defScope s_Grid___bool) := ⟨rfl, rfl, rfl, by decide +kernel, rfl, by decide +kernel, by decide +kernel⟩
abbrev s_Grid___eq : Stmt := inClass (topS 13) 8
abbrev n_Grid___eq : List Str := ["self", "other"]
theorem sc_Grid___eq : FnScope n_Grid___eq ["self", "other"] (defScope s_Grid___eq) := ⟨rfl, rfl, rfl, by decide +kernel, rfl, by decide +kernel, by decide +kernel⟩
abbrev s_Grid___and : Stmt := inClass (topS 13) 9
abbrev n_Grid___and : List Str := ["self", "other", "default", "unlike", "place"]
theorem sc_Grid___and : FnScope n_Grid___and ["self", "other"] (defScope s_Grid___and) := ⟨rfl, rfl, rfl, by decide +kernel, rfl, by decide +kernel, by decide +kernel⟩
abbrev s_Grid___or : Stmt := inClass (topS 13) 10
abbrev n_Grid___or : List Str := ["self", "other", "default", "unlike", "place"]
theorem sc_Grid___or : FnScope n_Grid___or ["self", "other"] (defScope s_Grid___or) := ⟨rfl, rfl, rfl, by decide +kernel, rfl, by decide +kernel, by decide +kernel⟩
abbrev s_Grid___invert : Stmt := inClass (topS 13) 11
abbrev n_Grid___invert : List Str := ["self"]
theorem sc_Grid___invert : FnScope n_Grid___invert ["self"] (defScope s_Grid___invert) := ⟨rfl, rfl, rfl, by decide +kernel, rfl, by decide +kernel, by decide +kernel⟩
abbrev s_Grid___ior : Stmt := inClass (topS 13) 12
abbrev n_Grid___ior : List Str := ["self", "other", "union"]
theorem sc_Grid___ior : FnScope n_Grid___ior ["self", "other"] (defScope s_Grid___ior) := ⟨rfl, rfl, rfl, by decide +kernel, rfl, by decide +kernel, by decide +kernel⟩
abbrev s_Grid_places : Stmt := inClass (topS 13) 13
abbrev n_Grid_places : List Str := ["self"]
theorem sc_Grid_places : FnScope n_Grid_places ["self"] (defScope s_Grid_places) := ⟨rfl, rfl, rfl, by decide +kernel, rfl, by decide +kernel, by decide +kernel⟩
abbrev s_Grid_under : Stmt := inClass (topS 13) 14
abbrev n_Grid_under : List Str := ["self", "other"]
theorem sc_Grid_under : FnScope n_Grid_under ["self", "other"] (defScope s_Grid_under) := ⟨rfl, rfl, rfl, by decide +kernel, rfl, by decide +kernel, by decide +kernel⟩
abbrev s_Grid_has_value : Stmt := inClass (topS 13) 15
abbrev n_Grid_has_value : List Str := ["self", "thing"]
theorem sc_Grid_has_value : FnScope n_Grid_has_value ["self", "thing"] (defScope s_Grid_has_value) := ⟨rfl, rfl, rfl, by decide +kernel, rfl, by decide +kernel, by decide +kernel⟩
abbrev s_is_place : Stmt := topS 14
abbrev n_is_place : List Str := ["thing"]
theorem sc_is_place : FnScope n_is_place ["thing"] (defScope s_is_place) := ⟨rfl, rfl, rfl, by decide +kernel, rfl, by decide +kernel, by decide +kernel⟩
abbrev s_checked_place : Stmt := topS 15
abbrev n_checked_place : List Str := ["thing", "part"]
theorem sc_checked_place : FnScope n_checked_place ["thing"] (defScope s_checked_place) := ⟨rfl, rfl, rfl, by decide +kernel, rfl, by decide +kernel, by decide +kernel⟩
abbrev s_standing_in : Stmt := topS 16
abbrev n_standing_in : List Str := ["one", "other", "further", "place"]
theorem sc_standing_in : FnScope n_standing_in ["one", "other"] (defScope s_standing_in) := ⟨rfl, rfl, rfl, by decide +kernel, rfl, by decide +kernel, by decide +kernel⟩
abbrev s_law_well : Stmt := topS 18
abbrev n_law_well : List Str := ["_law_cell"]
theorem sc_law_well : FnScope n_law_well ["_law_cell"] (defScope s_law_well) := ⟨rfl, rfl, rfl, by decide +kernel, rfl, by decide +kernel, by decide +kernel⟩
abbrev s_law_draw : Stmt := topS 19
abbrev n_law_draw : List Str := ["_law_well_here", "_law_many", "_law_digit", "_law_number", "_law_more"]
theorem sc_law_draw : FnScope n_law_draw ["_law_well_here", "_law_many"] (defScope s_law_draw) := ⟨rfl, rfl, rfl, by decide +kernel, rfl, by decide +kernel, by decide +kernel⟩
abbrev s_law_one : Stmt := topS 20
abbrev n_law_one : List Str := ["_law_well_here", "_law_some"]
theorem sc_law_one : FnScope n_law_one ["_law_well_here", "_law_some"] (defScope s_law_one) := ⟨rfl, rfl, rfl, by decide +kernel, rfl, by decide +kernel, by decide +kernel⟩
abbrev s_law_refused : Stmt := topS 21
abbrev n_law_refused : List Str := ["_law_ask", "e"]
theorem sc_law_refused : FnScope n_law_refused ["_law_ask"] (defScope s_law_refused) := ⟨rfl, rfl, rfl, by decide +kernel, rfl, by decide +kernel, by decide +kernel⟩
abbrev s_law_set_in : Stmt := topS 22
abbrev n_law_set_in : List Str := ["_law_grid", "_law_at", "_law_worth"]
theorem sc_law_set_in : FnScope n_law_set_in ["_law_grid", "_law_at", "_law_worth"] (defScope s_law_set_in) := ⟨rfl, rfl, rfl, by decide +kernel, rfl, by decide +kernel, by decide +kernel⟩
abbrev s_law_tried : Stmt := topS 23
abbrev n_law_tried : List Str := ["_law_grid", "_law_at", "_law_worth", "_law_due", "_law_said"]
theorem sc_law_tried : FnScope n_law_tried ["_law_grid", "_law_at", "_law_worth", "_law_due"] (defScope s_law_tried) := ⟨rfl, rfl, rfl, by decide +kernel, rfl, by decide +kernel, by decide +kernel⟩
abbrev s_law_right : Stmt := topS 24
abbrev n_law_right : List Str := ["_law_well_here", "_law_is_flags", "_law_worth", "_law_odd", "_law_other", "_law_due", "_law_thing", "_law_at", "_law_bad", "_law_grid", "_law_wrong"]
theorem sc_law_right : FnScope n_law_right ["_law_well_here"] (defScope s_law_right) := ⟨rfl, rfl, rfl, by decide +kernel, rfl, by decide +kernel, by decide +kernel⟩
abbrev s_law_abyss : Stmt := topS 25
abbrev n_law_abyss : List Str := ["_law_word", "_law_thing", "_law_k"]
theorem sc_law_abyss : FnScope n_law_abyss ["_law_word"] (defScope s_law_abyss) := ⟨rfl, rfl, rfl, by decide +kernel, rfl, by decide +kernel, by decide +kernel⟩
abbrev s_law_is_bad : Stmt := topS 26
abbrev n_law_is_bad : List Str := ["_law_ask"]
theorem sc_law_is_bad : FnScope n_law_is_bad ["_law_ask"] (defScope s_law_is_bad) := ⟨rfl, rfl, rfl, by decide +kernel, rfl, by decide +kernel, by decide +kernel⟩
abbrev s_law_deep_right : Stmt := topS 27
abbrev n_law_deep_right : List Str := ["_law_word", "_law_grid", "_law_thing"]
theorem sc_law_deep_right : FnScope n_law_deep_right [] (defScope s_law_deep_right) := ⟨rfl, rfl, rfl, by decide +kernel, rfl, by decide +kernel, by decide +kernel⟩
abbrev s_law : Stmt := topS 28
abbrev n_law : List Str := ["_law_script", "_law_cell"]
theorem sc_law : FnScope n_law ["_law_script"] (defScope s_law) := ⟨rfl, rfl, rfl, by decide +kernel, rfl, by decide +kernel, by decide +kernel⟩
abbrev FnP (K : PySem.W.Frag) (x q : Str) (st : Stmt) (f : Addr) (fd : FuncData) : Prop := FunD K x q (defArgs st) (defBody st) (defScope st) [] [] f fd
section
variable {P : Program} {w : World} {K : PySem.W.Frag} {mg : Str → Option Value} {base : Heap}
/-- a number of draws to be divided by -/
structure Sz (m : Int) : Prop where
  lt : m.natAbs.log2 < 9000
theorem Sz.of {m : Int} {k : Nat} (h : m.natAbs < 2 ^ k) (hk : k ≤ 9000) : Sz m := by
  refine ⟨?_⟩
  cases k with
  | zero =>
    have : m.natAbs = 0 := by omega
    rw [this]
    decide
  | succ k => exact Nat.lt_of_lt_of_le (PySem.Flt.log2_lt_of (Nat.succ_pos k) h) hk
def spWell : Sp := fun vs H Q _ => ∃ i : Int, vs = [.int i] ∧ ∀ p, H p = none → Q (.ref p) (upd H p (.lst [.int i, .int 0]))
def spDraw : Sp := fun vs H Q _ => ∃ (a : Addr) (x c m : Int), vs = [.ref a, .int m] ∧ H a = some (.lst [.int x, .int c]) ∧ 0 < m ∧ Sz m ∧
  ∀ r x' c' : Int, 0 ≤ r → r < m → Q (.int r) (upd H a (.lst [.int x', .int c']))
theorem ok_well {f : Addr} {fd : FuncData} {k : Nat} (F : FnP K "_law_well" "_law_well" s_law_well f fd) (m_int : mg "int" = none) : FnOk P w K mg base CX0 (k + 1) f fd ["_law_cell"] spWell := by
  refine F.ok sc_law_well (fun vs H Q E h => ?_) (fun cdv A outer s H vs Q E hr h => ?_)
  · obtain ⟨i, rfl, _⟩ := h
    rfl
  · obtain ⟨i, rfl, q⟩ := h
    refine ⟨_, pss_one (ps_ret (pe_lst (pa_cons (pe_callTy call_int1 (by rfl) m_int boot_int (pa_cons (pv 0) pa_nil)) (pa_cons pe_int pa_nil)))), ?_⟩
    exact ⟨_, rfl, .inl ⟨i, rfl, ⟨by show 2 ≤ sizeLine; decide, fun p hp => q p hp⟩⟩⟩
theorem ok_draw {f : Addr} {fd : FuncData} {k : Nat} (F : FnP K "_law_draw" "_law_draw" s_law_draw f fd) (m_int : mg "int" = none) : FnOk P w K mg base CX0 (k + 1) f fd ["_law_well_here", "_law_many"] spDraw := by
  refine F.ok sc_law_draw (fun vs H Q E h => ?_) (fun cdv A outer s H vs Q E hr h => ?_)
  · obtain ⟨a, x, c, m, rfl, _⟩ := h
    rfl
  · obtain ⟨a, x, c, m, rfl, ha, m0, m1, q⟩ := h
    refine ⟨_, pss_cons (ps_if (pt_cmpR op_ge (pe_ix ix_list (pv 0) pe_int (fun _ _ => rfl)) (pe_op op_pow pe_int pe_int) (nomark _)) (pss_cons (ps_set (i := 2) sc_law_draw.nd rfl (.inl rfl) (pe_op op_mod (pe_callTy call_int1 (by rfl) m_int boot_int (pa_cons (pe_ix ix_list (pv 0) pe_int (fun _ _ => rfl)) pa_nil)) (pv 1)))
      (pss_cons (ps_asg (pe_op op_fdivW (pe_ix ix_list (pv 0) pe_int (fun _ _ => rfl)) (pv 1)) (pg_sub (pv 0) pe_int set_list))
      (pss_one (ps_ret (pv 2))))) (pss_nil))
    (pss_cons (ps_asg (pe_op op_add (pe_ix ix_list (pv 0) pe_int (fun _ _ => rfl)) pe_int) (pg_sub (pv 0) pe_int set_list))
    (pss_cons (ps_set (i := 3) sc_law_draw.nd rfl (.inl rfl) (pe_op op_mod (pe_callTy call_int1 (by rfl) m_int boot_int (pa_cons (pe_op op_mul (pe_callTy call_int1 (by rfl) m_int boot_int (pa_cons (pe_op op_add (pe_op op_add (pe_op op_mod (pe_callTy call_int1 (by rfl) m_int boot_int (pa_cons (pe_ix ix_list (pv 0) pe_int (fun _ _ => rfl)) pa_nil)) pe_int) (pe_op op_mul pe_int (pe_ix ix_list (pv 0) pe_int (fun _ _ => rfl)))) pe_int) pa_nil)) pe_int) pa_nil)) pe_int))
    (pss_cons (ps_set (i := 4) sc_law_draw.nd rfl (.inl rfl) (pe_op op_mod (pe_callTy call_int1 (by rfl) m_int boot_int (pa_cons (pe_op op_fdivW (pe_ix ix_list (pv 0) pe_int (fun _ _ => rfl)) pe_int) pa_nil)) pe_int))
    (pss_cons (ps_set (i := 3) sc_law_draw.nd rfl (.inl rfl) (pe_op op_mod (pe_callTy call_int1 (by rfl) m_int boot_int (pa_cons (pe_op op_mul (pv 3) (pe_op op_add (pe_op op_add (pe_op op_fdiv (pv 3) pe_int) pe_int) (pv 4))) pa_nil)) pe_int))
    (pss_one (ps_ret (pe_op op_mod (pe_callTy call_int1 (by rfl) m_int boot_int (pa_cons (pe_op op_fdiv (pe_op op_mod (pe_callTy call_int1 (by rfl) m_int boot_int (pa_cons (pe_op op_mul (pv 3) (pe_op op_add (pe_op op_fdiv (pv 3) pe_int) pe_int)) pa_nil)) pe_int) pe_int) pa_nil)) (pv 1)))))))), ?_⟩
    have hA : SqL K H a [.int x, .int c] := .inl (.inl ha)
    -- if well[0] >= 10 ** 18
    refine ⟨_, rfl, a, _, 0, _, rfl, rfl, hA, rfl, ?_⟩
    refine ⟨10, 18, rfl, rfl, ⟨by decide, by decide, by decide⟩, ?_⟩
    refine ⟨x, _, rfl, rfl, _, rfl, ite2 (fun big => ?_) (fun small => ?_)⟩
    · refine ⟨_, rfl, a, _, 0, _, rfl, rfl, hA, rfl, .inl ⟨x, rfl, _, rfl, x, m, rfl, rfl, m0, ?_⟩⟩
      refine ⟨_, rfl, a, _, 0, _, rfl, rfl, hA, rfl, _, rfl, x, m, rfl, rfl, ⟨m0, m1.lt⟩, ?_⟩
      refine ⟨_, rfl, a, _, 0, 0, rfl, rfl, ha, rfl, ?_⟩
      exact ⟨_, rfl, q (x % m) (x / m) c (Int.emod_nonneg _ (by omega)) (Int.emod_lt_of_pos _ m0)⟩
    · -- well[1] = well[1] + 1
      refine ⟨_, rfl, a, _, 1, _, rfl, rfl, hA, rfl, c, 1, rfl, rfl, _, rfl, a, _, 1, 1, rfl, rfl, ha, rfl, ?_⟩
      have hB : SqL K (upd H a (.lst [.int x, .int (c + 1)])) a [.int x, .int (c + 1)] := .inl (.inl upd_same)
      have e2 : upd H a (.lst ([V.int x, V.int c].set 1 (.int (c + 1)))) = upd H a (.lst [.int x, .int (c + 1)]) := rfl
      rw [e2]
      have k1 : (0 : Int) < 2147483629 := by decide
      refine ⟨_, rfl, a, _, 0, _, rfl, rfl, hB, rfl, .inl ⟨x, rfl, x, 2147483629, rfl, rfl, (by show (0 : Int) < 2147483629; decide), ?_⟩⟩
      refine ⟨_, rfl, a, _, 1, _, rfl, rfl, hB, rfl, 60013, c + 1, rfl, rfl, .inl (by decide), _, _, rfl, rfl, _, _, rfl, rfl, .inl ⟨_, rfl, ?_⟩⟩
      refine ⟨_, _, rfl, rfl, .inr (by decide), .inl ⟨_, rfl, _, _, rfl, rfl, (by show (0 : Int) < 2147483647; decide), ?_⟩⟩
      dsimp only
      generalize hn : ((x % 2147483629 + 60013 * (c + 1) + 11) * 48271) % 2147483647 = n
      have n0 : 0 ≤ n := by rw [← hn]; exact Int.emod_nonneg _ (by decide)
      have n1 : n < 2147483647 := by rw [← hn]; exact Int.emod_lt_of_pos _ (by decide)
      refine ⟨_, rfl, a, _, 0, _, rfl, rfl, hB, rfl, x, _, rfl, rfl, wide_div (b := 40) (by decide) (by decide) (by decide) (by decide), .inl ⟨_, rfl, _, _, rfl, rfl, (by show (0 : Int) < 9973; decide), ?_⟩⟩
      dsimp only
      generalize hz : (x / 2147483629) % 9973 = z
      refine ⟨_, rfl, _, rfl, _, _, rfl, rfl, ⟨by decide, by decide⟩, _, _, rfl, rfl, _, rfl, _, _, rfl, rfl, n, _, rfl, rfl, .inl ⟨by omega, by omega⟩, .inl ⟨_, rfl, _, _, rfl, rfl, (by show (0 : Int) < 2147483587; decide), ?_⟩⟩
      dsimp only
      generalize hg : (n * (n / 1013 + 40692 + z)) % 2147483587 = g
      have g0 : 0 ≤ g := by rw [← hg]; exact Int.emod_nonneg _ (by decide)
      have g1 : g < 2147483587 := by rw [← hg]; exact Int.emod_lt_of_pos _ (by decide)
      refine ⟨_, rfl, _, rfl, _, _, rfl, rfl, ⟨by decide, by decide⟩, _, _, rfl, rfl, g, _, rfl, rfl, .inl ⟨by omega, by omega⟩, .inl ⟨_, rfl, _, _, rfl, rfl, (by show (0 : Int) < 2147483563; decide), ?_⟩⟩
      refine ⟨_, _, rfl, rfl, ⟨by decide, by decide⟩, .inl ⟨_, rfl, _, rfl, _, m, rfl, rfl, m0, ?_⟩⟩
      exact q _ x (c + 1) (Int.emod_nonneg _ (by omega)) (Int.emod_lt_of_pos _ m0)
/-- one of a list's items -/
def spOne (K : PySem.W.Frag) : Sp := fun vs H Q _ => ∃ (a b : Addr) (x c : Int) (xs : List V), vs = [.ref a, .ref b] ∧ H a = some (.lst [.int x, .int c]) ∧ SqL K H b xs ∧ (∀ x' c' : Int, SqL K (upd H a (.lst [.int x', .int c'])) b xs) ∧ 0 < xs.length ∧ xs.length ≤ 1000 ∧
  ∀ (v : V) (x' c' : Int), v ∈ xs → Q v (upd H a (.lst [.int x', .int c']))
theorem ok_one {f : Addr} {fd : FuncData} {k : Nat} (F : FnP K "_law_one" "_law_one" s_law_one f fd) (C_draw : Cal P w K mg base CX0 "_law_draw" (k + 1) ["_law_well_here", "_law_many"] spDraw) (m_len : mg "len" = none) :
    FnOk P w K mg base CX0 (k + 1 + 1) f fd ["_law_well_here", "_law_some"] (spOne K) := by
  obtain ⟨f_law_draw, fd_law_draw, G_law_draw, b_law_draw, m_law_draw, k_law_draw⟩ := C_draw
  refine F.ok sc_law_one (fun vs H Q E h => ?_) (fun cdv A outer s H vs Q E hr h => ?_)
  · obtain ⟨a, b, x, c, xs, rfl, _⟩ := h
    rfl
  · obtain ⟨a, b, x, c, xs, rfl, ha, hb, hb', l0, l1, q⟩ := h
    refine ⟨_, pss_one (ps_ret (pe_ix ix_list (pv 1) (pe_call G_law_draw (hr.mono (by omega)) (by rfl) m_law_draw k_law_draw b_law_draw .nil pass0 (pa_cons (pv 0) (pa_cons (pe_callB call_len_seq (by rfl) m_len PySem.boot_len (pa_cons (pv 1) pa_nil)) pa_nil))) (fun _ _ => rfl))), ?_⟩
    refine ⟨_, rfl, _, rfl, _, rfl, b, xs, rfl, .inl hb, a, x, c, xs.length, rfl, ha, by omega, .of (k := 10) (by show (xs.length : Int).natAbs < 1024; omega) (by decide), fun r x' c' r0 r1 => ?_⟩
    obtain ⟨i, rfl⟩ := Int.eq_ofNat_of_zero_le r0
    have hi : i < xs.length := by omega
    exact ⟨b, xs, _, xs[i], rfl, rfl, hb' x' c', atI_nat (List.getElem?_eq_getElem hi), q _ x' c' (List.getElem_mem hi)⟩

end
end K04
set_option Elab.async false
set_option linter.all false
set_option maxRecDepth 100000
set_option maxHeartbeats 2000000
namespace K04
open PySem PySem.Spec PyProof.Rows L2 CM DN GR
section
variable {P : Program} {w : World} {K : PySem.W.Frag} {mg : Str → Option Value} {base : Heap}
/-! ### values -/
def spInt (K : PySem.W.Frag) : Sp := fun vs H Q _ => ∃ (v : V) (t : Value) (bi bb : Bool), vs = [v] ∧ TyX K H v t ∧ PySem.W.kitOne K t (.type "int") = some bi ∧ (bi = true → PySem.W.kitOne K t (.type "bool") = some bb) ∧ Q (.bl (bi && !bb)) H
theorem ok_int {f : Addr} {fd : FuncData} {k : Nat} (F : FnP K "is_int" "is_int" s_is_int f fd) (m_isinstance : mg "isinstance" = none) (m_int : mg "int" = none) (m_bool : mg "bool" = none) : FnOk P w K mg base CX0 (k + 1) f fd ["thing"] (spInt K) := by
  refine F.ok sc_is_int (fun vs H Q E h => ?_) (fun cdv A outer s H vs Q E hr h => ?_)
  · obtain ⟨v, t, bi, bb, rfl, _⟩ := h
    rfl
  · obtain ⟨v, t, bi, bb, rfl, ty, ki, kb, q⟩ := h
    refine ⟨_, pss_one (ps_ret (pe_and (pe_callB call_isi (by rfl) m_isinstance (by decide +kernel) (pa_cons (pv 0) (pa_cons (pe_bltn (v := .ty "int") (by rfl) m_int (by decide +kernel) rfl) pa_nil))) (pe_one (pe_not (pe_callB call_isi (by rfl) m_isinstance (by decide +kernel) (pa_cons (pv 0) (pa_cons (pe_bltn (v := .ty "bool") (by rfl) m_bool (by decide +kernel) rfl) pa_nil))))))), ?_⟩
    refine ⟨_, rfl, v, _, t, _, bi, rfl, .ty _, ty, ki, bi, rfl, ite2 (fun e => ?_) (fun e => ?_)⟩
    · subst e
      exact ⟨_, rfl, v, _, t, _, bb, rfl, .ty _, ty, kb rfl, bb, rfl, q⟩
    · have e2 : bi = false := by simpa using e
      subst e2
      exact q
/-- what isinstance says of a leaf, of an odd thing, of a tuple -/
theorem odd_kinds {H : Hp} {v : V} (h : Odd K H v) : v ≠ .non ∧ ∃ (t : Value) (bi bb : Bool), TyX K H v t ∧ PySem.W.kitOne K t (.type "str") = some false ∧ PySem.W.kitOne K t (.type "int") = some bi ∧ (bi = true → PySem.W.kitOne K t (.type "bool") = some bb) ∧ (bi && !bb) = false ∧
    PySem.W.kitOne K t (.type "tuple") = some false := by
  rcases h with ⟨b, rfl⟩ | ⟨a, xs, rfl, h⟩ | ⟨a, kvs, rfl, h⟩ | ⟨a, C, dx, fs, rfl, h, k⟩
  · exact ⟨(fun z => by cases z), _, true, true, .base (.bl b), kit_bb (by decide +kernel), kit_bb (by decide +kernel), fun _ => kit_bb (by decide +kernel), rfl, kit_bb (by decide +kernel)⟩
  · exact ⟨(fun z => by cases z), _, false, false, .base (.lst h), kit_bb (by decide +kernel), kit_bb (by decide +kernel), (fun z => by cases z), rfl, kit_bb (by decide +kernel)⟩
  · exact ⟨(fun z => by cases z), _, false, false, .base (.dK h), kit_bb (by decide +kernel), kit_bb (by decide +kernel), (fun z => by cases z), rfl, kit_bb (by decide +kernel)⟩
  · exact ⟨(fun z => by cases z), _, false, false, .base (.ins h k.cl k.ca k.gs k.tk k.mr), k.ks, k.ki, (fun z => by cases z), rfl, k.kt⟩
/-- is_plain_within(thing, d), d below n -/
def spW (K : PySem.W.Frag) (n : Nat) : Sp := fun vs H Q _ => ∃ (v : V) (d : Nat) (b : Bool), vs = [v, .int d] ∧ d < n ∧ PN K H d v b ∧ Q (.bl b) H
theorem ok_within {f : Addr} {fd : FuncData} (F : FnP K "is_plain_within" "is_plain_within" s_is_plain_within f fd) (m_isinstance : mg "isinstance" = none) (m_str : mg "str" = none) (m_tuple : mg "tuple" = none) (m_len : mg "len" = none)
    (C_is_int : Cal P w K mg base CX0 "is_int" 1 ["thing"] (spInt K)) (b_is_plain_within : Binds K fd ["thing", "deepest"] []) (m_is_plain_within : mg "is_plain_within" = some (.ref f)) (k_is_plain_within : PySem.W.keepIn K (.ref f) = true) :
    ∀ n : Nat, FnOk P w K mg base CX0 (n + 1) f fd ["thing", "deepest"] (spW K n)
  | 0 => ⟨fun vs H Q E ⟨_, _, _, _, h, _⟩ => absurd h (Nat.not_lt_zero _), fun A outer s H args us vs Q E _ _ _ _ ⟨_, _, _, _, h, _⟩ => absurd h (Nat.not_lt_zero _)⟩
  | n + 1 => by
    have G_is_plain_within := ok_within F m_isinstance m_str m_tuple m_len C_is_int b_is_plain_within m_is_plain_within k_is_plain_within n
    obtain ⟨f_is_int, fd_is_int, G_is_int, b_is_int, m_is_int, k_is_int⟩ := C_is_int
    refine F.ok sc_is_plain_within (fun vs H Q E h => ?_) (fun cdv A outer s H vs Q E hr h => ?_)
    · obtain ⟨v, d, b, rfl, _⟩ := h
      rfl
    · obtain ⟨v, d, b, rfl, hd, pn, q⟩ := h
      refine ⟨_, PSs.nox (pss_cons (ps_if (PW.pt (pw_or (pt_cmp (pc_isN (pv 0))) (pw_or (pt_val (pe_callB call_isi (by rfl) m_isinstance (by decide +kernel) (pa_cons (pv 0) (pa_cons (pe_bltn (v := .ty "str") (by rfl) m_str (by decide +kernel) rfl) pa_nil)))) (pw_or1 (pt_val (pe_call G_is_int (hr.mono (by omega)) (by rfl) m_is_int k_is_int b_is_int .nil pass0 (pa_cons (pv 0) pa_nil))))))) (pss_one (ps_ret pe_bl)) (pss_nil))
    (pss_cons (ps_if (pt_not (pt_val (pe_callB call_isi (by rfl) m_isinstance (by decide +kernel) (pa_cons (pv 0) (pa_cons (pe_bltn (v := .ty "tuple") (by rfl) m_tuple (by decide +kernel) rfl) pa_nil))))) (pss_one (ps_ret pe_bl)) (pss_nil))
    (pss_cons (ps_if (pt_cmpR op_eq (pv 1) pe_int (nomark _)) (pss_one (ps_ret (pe_cmpR op_eq (pe_callB call_len_seq (by rfl) m_len PySem.boot_len (pa_cons (pv 0) pa_nil)) pe_int (nomark _)))) (pss_nil))
    (pss_cons (ps_for PassesOwn.never rfl (pi_tup (pv 0)) (pg_name (i := 2) sc_is_plain_within.nd rfl (.inl rfl))
      (pss_one (ps_if (pt_not (pt_val (pe_call G_is_plain_within (hr.mono (by omega)) (by rfl) m_is_plain_within k_is_plain_within b_is_plain_within .nil pass0 (pa_cons (pv 2) (pa_cons (pe_op op_sub (pv 1) pe_int) pa_nil))))) (pss_one (ps_ret pe_bl)) (pss_nil))))
    (pss_one (ps_ret pe_bl)))))), ?_⟩
      have hk : (leafB v = true ∧ b = true) ∨ (Odd K H v ∧ b = false) ∨ ∃ a xs, v = .ref a ∧ H a = some (.tup xs) ∧ (d = 0 → b = xs.isEmpty) ∧ (∀ e, d = e + 1 → (b = true ∧ ∀ x ∈ xs, PN K H e x true) ∨ (b = false ∧ ∃ (i : Nat) (x : V), xs[i]? = some x ∧ PN K H e x false ∧ ∀ (j : Nat) (y : V), j < i → xs[j]? = some y → PN K H e y true)) := by
        cases d with
        | zero =>
          rcases pn with h | h | ⟨a, xs, e1, e2, e3⟩
          · exact .inl h
          · exact .inr (.inl h)
          · exact .inr (.inr ⟨a, xs, e1, e2, fun _ => e3, fun e z => by cases z⟩)
        | succ d =>
          rcases pn with h | h | ⟨a, xs, e1, e2, e3⟩
          · exact .inl h
          · exact .inr (.inl h)
          · exact .inr (.inr ⟨a, xs, e1, e2, (fun z => by cases z), fun e z => by cases z; exact e3⟩)
      rcases hk with ⟨hv, rfl⟩ | ⟨ho, rfl⟩ | ⟨a, xs, rfl, ha, h0, h1⟩
      · cases v with
        | non =>
          refine ⟨_, rfl, _, rfl, iteT (iteT ?_)⟩
          exact q
        | str z =>
          refine ⟨_, rfl, _, rfl, iteF ⟨_, rfl, .str z, _, _, _, true, rfl, .ty _, .base (.str z), kit_bb (by decide +kernel), true, rfl, iteT (iteT ?_)⟩⟩
          exact q
        | int z =>
          refine ⟨_, rfl, _, rfl, iteF ⟨_, rfl, .int z, _, _, _, false, rfl, .ty _, .base (.int z), kit_bb (by decide +kernel), false, rfl, iteF ?_⟩⟩
          refine ⟨_, rfl, .int z, _, true, false, rfl, .base (.int z), kit_bb (by decide +kernel), fun _ => kit_bb (by decide +kernel), _, rfl, iteT ?_⟩
          exact q
        | _ => cases hv
      · obtain ⟨hn, t, bi, bb, ty, ks, ki, kb, e0, kt⟩ := odd_kinds ho
        have en : decide (v = V.non) = false := decide_eq_false hn
        refine ⟨v, rfl, decide (v = V.non), rfl, ?_⟩
        rw [en]
        refine iteF ⟨_, rfl, v, _, t, _, false, rfl, .ty _, ty, ks, false, rfl, iteF ?_⟩
        refine ⟨_, rfl, v, t, bi, bb, rfl, ty, ki, kb, _, rfl, ?_⟩
        rw [e0]
        refine iteF ⟨_, rfl, v, _, t, _, false, rfl, .ty _, ty, kt, false, rfl, iteT ?_⟩
        exact q
      · have ty : TyX K H (.ref a) (.type "tuple") := .base (.tup ha)
        refine ⟨_, rfl, _, rfl, iteF ⟨_, rfl, .ref a, _, _, _, false, rfl, .ty _, ty, kit_bb (by decide +kernel), false, rfl, iteF ?_⟩⟩
        refine ⟨_, rfl, .ref a, _, false, false, rfl, ty, kit_bb (by decide +kernel), (fun z => by cases z), _, rfl, iteF ?_⟩
        refine ⟨_, rfl, .ref a, _, _, _, true, rfl, .ty _, ty, kit_bb (by decide +kernel), true, rfl, iteF ?_⟩
        -- deepest == 0
        refine ⟨_, rfl, rfl, _, rfl, ite2 (fun e => ?_) (fun e => ?_)⟩
        · have d0 : d = 0 := by
            have z := V.int.inj (of_decide_eq_true e)
            omega
          refine ⟨_, rfl, a, xs, rfl, .inr (.inl (.inl ha)), rfl, ?_⟩
          have eb := h0 d0
          have e2 : decide (V.int (xs.length : Int) = V.int 0) = b := by
            rw [eb]
            cases xs with
            | nil => rfl
            | cons x r =>
              refine decide_eq_false fun z => ?_
              have z2 := V.int.inj z
              rw [List.length_cons] at z2
              omega
          rw [e2]
          exact q
        · obtain ⟨e', rfl⟩ : ∃ e', d = e' + 1 := by
            cases d with
            | zero => exact absurd (decide_eq_true rfl) e
            | succ m => exact ⟨m, rfl⟩
          have hm := h1 e' rfl
          have earg : ∀ x : V, [x, V.int (((e' + 1 : Nat) : Int) - 1)] = [x, V.int (e' : Int)] := fun x => by
            rw [show ((e' + 1 : Nat) : Int) - 1 = (e' : Int) by omega]
          rcases hm with ⟨rfl, hall⟩ | ⟨rfl, i0, x0, hx0, k0, kt⟩
          · refine ⟨_, rfl, a, rfl, ⟨xs, .inl (.inl ha)⟩, for_tup (K := K) (a := a) (xs := xs) (fun i σ H' => H' = H ∧ ∃ v2, σ = [some (.ref a), some (.int ((e' + 1 : Nat) : Int)), v2])
              ⟨rfl, none, rfl⟩ (fun i σ H' _ ⟨z, _⟩ => by rw [z]; exact .inl (.inl ha)) ?_ ?_⟩
            · rintro i x σ H' hx ⟨rfl, v2, rfl⟩
              refine ⟨_, rfl, _, rfl, _, 1, rfl, rfl, x, e', true, earg _, by omega, hall x (List.mem_of_getElem? hx), true, rfl, iteF ?_⟩
              exact ⟨rfl, _, rfl⟩
            · rintro σ H' ⟨rfl, v2, rfl⟩
              exact q
          · have hi0 := (List.getElem?_eq_some_iff.mp hx0).1
            refine ⟨_, rfl, a, rfl, ⟨xs, .inl (.inl ha)⟩, for_tup (K := K) (a := a) (xs := xs) (fun i σ H' => i ≤ i0 ∧ H' = H ∧ ∃ v2, σ = [some (.ref a), some (.int ((e' + 1 : Nat) : Int)), v2])
              ⟨Nat.zero_le _, rfl, none, rfl⟩ (fun i σ H' _ ⟨_, z, _⟩ => by rw [z]; exact .inl (.inl ha)) ?_ ?_⟩
            · rintro i x σ H' hx ⟨hi, rfl, v2, rfl⟩
              by_cases hlt : i < i0
              · refine ⟨_, rfl, _, rfl, _, 1, rfl, rfl, x, e', true, earg _, by omega, kt i x hlt hx, true, rfl, iteF ?_⟩
                exact ⟨hlt, rfl, _, rfl⟩
              · obtain rfl : i = i0 := by omega
                rw [hx0] at hx
                cases hx
                refine ⟨_, rfl, _, rfl, _, 1, rfl, rfl, _, e', false, earg _, by omega, k0, false, rfl, iteT ?_⟩
                exact q
            · rintro σ H' ⟨hi, _⟩
              exact absurd hi0 (by omega)
def spPlain (K : PySem.W.Frag) : Sp := fun vs H Q _ => ∃ (v : V) (b : Bool), vs = [v] ∧ PN K H 4 v b ∧ Q (.bl b) H
theorem ok_plain {f : Addr} {fd : FuncData} {k : Nat} {t : Tok} (F : FnP K "is_plain" "is_plain" s_is_plain f fd) (m_DEEPEST : mg "DEEPEST" = some (.int 4 t)) (C_w : Cal P w K mg base CX0 "is_plain_within" k ["thing", "deepest"] (spW K 5)) :
    FnOk P w K mg base CX0 (k + 1) f fd ["thing"] (spPlain K) := by
  obtain ⟨f_is_plain_within, fd_is_plain_within, G_is_plain_within, b_is_plain_within, m_is_plain_within, k_is_plain_within⟩ := C_w
  refine F.ok sc_is_plain (fun vs H Q E h => ?_) (fun cdv A outer s H vs Q E hr h => ?_)
  · obtain ⟨v, b, rfl, _⟩ := h
    rfl
  · obtain ⟨v, b, rfl, pn, q⟩ := h
    refine ⟨_, pss_one (ps_ret (pe_call G_is_plain_within (hr.mono (by omega)) (by rfl) m_is_plain_within k_is_plain_within b_is_plain_within .nil pass0 (pa_cons (pv 0) (pa_cons (pe_glob (v := .int 4) (by rfl) m_DEEPEST ⟨_, rfl⟩) pa_nil)))), ?_⟩
    exact ⟨_, rfl, v, 4, b, rfl, by decide, pn, q⟩
def spFlag (K : PySem.W.Frag) : Sp := fun vs H Q _ => ∃ (v : V) (t : Value) (bb : Bool), vs = [v] ∧ TyX K H v t ∧ PySem.W.kitOne K t (.type "bool") = some bb ∧ Q (.bl bb) H
theorem ok_flag {f : Addr} {fd : FuncData} {k : Nat} (F : FnP K "is_flag" "is_flag" s_is_flag f fd) (m_isinstance : mg "isinstance" = none) (m_bool : mg "bool" = none) : FnOk P w K mg base CX0 (k + 1) f fd ["thing"] (spFlag K) := by
  refine F.ok sc_is_flag (fun vs H Q E h => ?_) (fun cdv A outer s H vs Q E hr h => ?_)
  · obtain ⟨v, t, bb, rfl, _⟩ := h
    rfl
  · obtain ⟨v, t, bb, rfl, ty, kb, q⟩ := h
    refine ⟨_, pss_one (ps_ret (pe_callB call_isi (by rfl) m_isinstance (by decide +kernel) (pa_cons (pv 0) (pa_cons (pe_bltn (v := .ty "bool") (by rfl) m_bool (by decide +kernel) rfl) pa_nil)))), ?_⟩
    exact ⟨_, rfl, v, _, t, _, bb, rfl, .ty _, ty, kb, q⟩
end
end K04
set_option Elab.async false
set_option linter.all false
set_option maxRecDepth 100000
set_option maxHeartbeats 2000000
namespace K04
open PySem PySem.Spec PyProof.Rows L2 CM DN GR
section
variable {P : Program} {w : World} {K : PySem.W.Frag} {mg : Str → Option Value} {base : Heap}
/-! ### places, the class -/
def NoPl (K : PySem.W.Frag) (H : Hp) (v : V) : Prop := (∃ t, TyX K H v t ∧ PySem.W.kitOne K t (.type "tuple") = some false) ∨ ∃ a xs, v = .ref a ∧ H a = some (.tup xs) ∧ (xs.length ≠ 2 ∨ ∃ x y, xs = [x, y] ∧ (PN K H 4 x false ∨ (PN K H 4 x true ∧ PN K H 4 y false)))
def spPlace (K : PySem.W.Frag) : Sp := fun vs H Q _ => ∃ v : V, vs = [v] ∧ ((NoPl K H v ∧ Q (.bl false) H) ∨ ∃ p k, v = .ref p ∧ Plc H p k ∧ Q (.bl true) H)
theorem ok_place {f : Addr} {fd : FuncData} {k : Nat} (F : FnP K "is_place" "is_place" s_is_place f fd) (m_isinstance : mg "isinstance" = none) (m_tuple : mg "tuple" = none) (m_len : mg "len" = none) (C_plain : Cal P w K mg base CX0 "is_plain" k ["thing"] (spPlain K)) :
    FnOk P w K mg base CX0 (k + 1) f fd ["thing"] (spPlace K) := by
  obtain ⟨f_is_plain, fd_is_plain, G_is_plain, b_is_plain, m_is_plain, k_is_plain⟩ := C_plain
  refine F.ok sc_is_place (fun vs H Q E h => ?_) (fun cdv A outer s H vs Q E hr h => ?_)
  · obtain ⟨v, rfl, _⟩ := h
    rfl
  · obtain ⟨v, rfl, q⟩ := h
    refine ⟨_, pss_one (ps_ret (pe_and (pe_callB call_isi (by rfl) m_isinstance (by decide +kernel) (pa_cons (pv 0) (pa_cons (pe_bltn (v := .ty "tuple") (by rfl) m_tuple (by decide +kernel) rfl) pa_nil))) (pe_and (pe_cmpR op_eq (pe_callB call_len_seq (by rfl) m_len PySem.boot_len (pa_cons (pv 0) pa_nil)) pe_int (nomark _)) (pe_and (pe_call G_is_plain (hr.mono (by omega)) (by rfl) m_is_plain k_is_plain b_is_plain .nil pass0 (pa_cons (pe_ix ix_tup (pv 0) pe_int (fun _ _ => rfl)) pa_nil)) (pe_one (pe_call G_is_plain (hr.mono (by omega)) (by rfl) m_is_plain k_is_plain b_is_plain .nil pass0 (pa_cons (pe_ix ix_tup (pv 0) pe_int (fun _ _ => rfl)) pa_nil))))))), ?_⟩
    have isT : ∀ {a : Addr} {xs : List V}, H a = some (.tup xs) → TyX K H (.ref a) (.type "tuple") := fun e => .base (.tup e)
    have at0 : ∀ {x y : V}, atI [x, y] 0 = some x := fun {x y} => rfl
    have at1 : ∀ {x y : V}, atI [x, y] 1 = some y := fun {x y} => rfl
    rcases q with ⟨np, q⟩ | ⟨p, kk, rfl, hp, q⟩
    · rcases np with ⟨t, ty, kt⟩ | ⟨a, xs, rfl, ha, np⟩
      · refine ⟨_, rfl, v, _, t, _, false, rfl, .ty _, ty, kt, false, rfl, iteF ?_⟩
        exact q
      · refine ⟨_, rfl, .ref a, _, _, _, true, rfl, .ty _, isT ha, kit_bb (by decide +kernel), true, rfl, iteT ?_⟩
        refine ⟨_, rfl, a, xs, rfl, .inr (.inl (.inl ha)), rfl, _, rfl, ?_⟩
        rcases np with hl | ⟨x, y, rfl, np⟩
        · have e2 : decide (V.int (xs.length : Int) = V.int 2) = false := decide_eq_false fun z => hl (by have := V.int.inj z; omega)
          rw [e2]
          exact iteF q
        · refine iteT ?_
          rcases np with h1 | ⟨h1, h2⟩
          · exact ⟨_, rfl, a, _, 0, x, rfl, rfl, .inl (.inl ha), at0, x, false, rfl, h1, false, rfl, iteF q⟩
          · exact ⟨_, rfl, a, _, 0, x, rfl, rfl, .inl (.inl ha), at0, x, true, rfl, h1, true, rfl, iteT ⟨_, rfl, a, _, 1, y, rfl, rfl, .inl (.inl ha), at1, y, false, rfl, h2, q⟩⟩
    · obtain ⟨v1, v2, k1, k2, e, h1, h2, _⟩ := hp.ex
      refine ⟨_, rfl, .ref p, _, _, _, true, rfl, .ty _, isT e, kit_bb (by decide +kernel), true, rfl, iteT ?_⟩
      refine ⟨_, rfl, p, _, rfl, .inr (.inl (.inl e)), rfl, _, rfl, iteT ?_⟩
      exact ⟨_, rfl, p, _, 0, v1, rfl, rfl, .inl (.inl e), at0, v1, true, rfl, h1.pn, true, rfl, iteT ⟨_, rfl, p, _, 1, v2, rfl, rfl, .inl (.inl e), at1, v2, true, rfl, h2.pn, q⟩⟩

structure GCls (K : PySem.W.Frag) (C : Addr) : Prop where
  cl : Cls K C
  nd : NoAttr K C "default"
  ne : NoAttr K C "entries"
def spHas (C : Addr) : Sp := fun vs H Q _ => ∃ (g dx e : Addr) (fl : Bool) (dv v : V) (dd d : PyData), vs = [.ref g, v] ∧ H g = some (.ins C dx [("default", dv), ("entries", .ref e)]) ∧ Wr H fl dv dd ∧ Wr H fl v d ∧ Q (.bl true) H
theorem ok_has {C f : Addr} {fd : FuncData} {k : Nat} (F : FnP K "has_value" "Grid.has_value" s_Grid_has_value f fd) (gc : GCls K C) (C_flag : Cal P w K mg base CX0 "is_flag" k ["thing"] (spFlag K)) (C_plain : Cal P w K mg base CX0 "is_plain" k ["thing"] (spPlain K)) :
    FnOk P w K mg base CX0 (k + 1) f fd ["self", "thing"] (spHas C) := by
  obtain ⟨f_is_flag, fd_is_flag, G_is_flag, b_is_flag, m_is_flag, k_is_flag⟩ := C_flag
  obtain ⟨f_is_plain, fd_is_plain, G_is_plain, b_is_plain, m_is_plain, k_is_plain⟩ := C_plain
  refine F.ok sc_Grid_has_value (fun vs H Q E h => ?_) (fun cdv A outer s H vs Q E hr h => ?_)
  · obtain ⟨g, dx, e, fl, dv, v, dd, d, rfl, _⟩ := h
    rfl
  · obtain ⟨g, dx, e, fl, dv, v, dd, d, rfl, hg, wd, wv, q⟩ := h
    refine ⟨_, PSs.nox (pss_cons (ps_if (pt_val (pe_call G_is_flag (hr.mono (by omega)) (by rfl) m_is_flag k_is_flag b_is_flag .nil pass0 (pa_cons (pe_fld (pv 0) rfl) pa_nil))) (pss_one (ps_ret (pe_call G_is_flag (hr.mono (by omega)) (by rfl) m_is_flag k_is_flag b_is_flag .nil pass0 (pa_cons (pv 1) pa_nil)))) (pss_nil))
    (pss_one (ps_ret (pe_call G_is_plain (hr.mono (by omega)) (by rfl) m_is_plain k_is_plain b_is_plain .nil pass0 (pa_cons (pv 1) pa_nil))))), ?_⟩
    have t1 := shw_ty (K := K) wd.shw.1
    have t2 := shw_ty (K := K) wv.shw.1
    refine ⟨_, rfl, g, C, dx, _, _, rfl, hg, gc.cl, gc.nd, rfl, dv, _, fl, rfl, t1, wd.bool, fl, rfl, ?_⟩
    cases fl with
    | true => exact iteT ⟨_, rfl, v, _, true, rfl, t2, wv.bool, q⟩
    | false =>
      obtain ⟨kk, hpl, _⟩ := wv
      exact iteF ⟨_, rfl, v, true, rfl, hpl.pn, q⟩
def spCon (P : Program) (w : World) (K : PySem.W.Frag) (C : Addr) : Sp := fun vs H Q _ => ∃ (g e : Addr) (x v : V) (xs : List Ent), vs = [.ref g, x] ∧ Gd P w C H g v e xs ∧ ((NoPl K H x ∧ Q (.bl false) H) ∨ ∃ p k, x = .ref p ∧ Plc H p k ∧ Q (.bl (at_ xs k).isSome) H)
theorem ok_con {C f : Addr} {fd : FuncData} {k : Nat} (F : FnP K "__contains__" "Grid.__contains__" s_Grid___contains f fd) (gc : GCls K C) (C_place : Cal P w K mg base CX0 "is_place" k ["thing"] (spPlace K)) : FnOk P w K mg base CX0 (k + 1) f fd ["self", "x"] (spCon P w K C) := by
  obtain ⟨f_is_place, fd_is_place, G_is_place, b_is_place, m_is_place, k_is_place⟩ := C_place
  refine F.ok sc_Grid___contains (fun vs H Q E h => ?_) (fun cdv A outer s H vs Q E hr h => ?_)
  · obtain ⟨g, e, x, v, xs, rfl, _⟩ := h
    rfl
  · obtain ⟨g, e, x, v, xs, rfl, ⟨⟨dx, hg⟩, D⟩, q⟩ := h
    refine ⟨_, pss_one (ps_ret (pe_and (pe_call G_is_place (hr.mono (by omega)) (by rfl) m_is_place k_is_place b_is_place .nil pass0 (pa_cons (pv 1) pa_nil)) (pe_one (pe_cmpR (DN.op_inN (u40 hr.units)) (pv 1) (pe_fld (pv 0) rfl) (by rfl))))), ?_⟩
    rcases q with ⟨np, q⟩ | ⟨p, kk, rfl, hp, q⟩
    · exact ⟨_, rfl, x, rfl, .inl ⟨np, false, rfl, iteF q⟩⟩
    · have hk := hp.key
      exact ⟨_, rfl, .ref p, rfl, .inr ⟨p, kk, rfl, hp, true, rfl, iteT ⟨_, rfl, _, rfl, g, C, dx, _, _, rfl, hg, gc.cl, gc.ne, rfl, p, e, xs, kk, rfl, rfl, D, hk.1, hk.2, q⟩⟩⟩
def spPlaces (P : Program) (w : World) (C : Addr) : Sp := fun vs H Q _ => ∃ (g e : Addr) (v : V) (xs : List Ent), vs = [.ref g] ∧ Gd P w C H g v e xs ∧ ∀ p, H p = none → Q (.ref p) (upd H p (.lst (keyRefs xs)))
theorem ok_places {C f : Addr} {fd : FuncData} {k : Nat} (F : FnP K "places" "Grid.places" s_Grid_places f fd) (gc : GCls K C) (m_list : mg "list" = none) : FnOk P w K mg base CX0 (k + 1) f fd ["self"] (spPlaces P w C) := by
  refine F.ok sc_Grid_places (fun vs H Q E h => ?_) (fun cdv A outer s H vs Q E hr h => ?_)
  · obtain ⟨g, e, v, xs, rfl, _⟩ := h
    rfl
  · obtain ⟨g, e, v, xs, rfl, ⟨⟨dx, hg⟩, D⟩, q⟩ := h
    refine ⟨_, pss_one (ps_ret (pe_callTy (DN.cr_listN rfl) (by rfl) m_list (by decide +kernel) (pa_cons (pe_fld (pv 0) rfl) pa_nil))), ?_⟩
    exact ⟨_, rfl, g, C, dx, _, _, rfl, hg, gc.cl, gc.ne, rfl, e, xs, rfl, D, q⟩

abbrev FunG (K : PySem.W.Frag) (f : Addr) (fd : FuncData) : Prop := FunD K "__init__" "Grid.__init__" (defArgs s_Grid___init) (defBody s_Grid___init) (defScope s_Grid___init) [V.bl false] [] f fd
end
end K04
set_option Elab.async false
set_option linter.all false
set_option maxRecDepth 100000
set_option maxHeartbeats 2000000
namespace K04
open PySem PySem.Spec PyProof.Rows L2 CM DN GR
section
variable {P : Program} {w : World} {K : PySem.W.Frag} {mg : Str → Option Value} {base : Heap}
/-! ### what is refused -/
def spErr (CB : Addr) : Sp := fun vs H Q _ => ∃ (e : Addr) (v : V), vs = [.ref e, v] ∧ H e = some (exo e CB none) ∧ ∀ dx, H dx = none → dx ≠ e → Q .non (upd (upd H dx (exd dx [("value", v)])) e (exo e CB (some dx)))
theorem ok_err {CB f : Addr} {fd : FuncData} {k : Nat} (F : FnP K "__init__" "BadValue.__init__" s_BadValue___init f fd) (T : OexC K CB) (nv : PySem.W.findIn K (.ref CB) "value" = some none) : FnOk P w K mg base CX0 (k + 1) f fd ["self", "value"] (spErr CB) := by
  refine F.ok sc_BadValue___init (fun vs H Q E h => ?_) (fun cdv A outer s H vs Q E hr h => ?_)
  · obtain ⟨e, v, rfl, _⟩ := h
    rfl
  · obtain ⟨e, v, rfl, he, q⟩ := h
    refine ⟨_, pss_one (ps_ost (pv 0) (pv 1)), ?_⟩
    exact ⟨_, rfl, _, rfl, e, CB, rfl, T, nv, .inl ⟨he, fun dx n ne => q dx n ne⟩⟩
theorem passF {X : Cx} : Passes (L2.CX X.prog X.w) X (fun _ _ _ => False) := fun _ _ _ _ _ _ _ h => by
  obtain ⟨_, _, _, _, _, _, _, _, _, _, _, _, z⟩ := h
  exact z.elim
/-- BadValue is raised with v -/
def Bv (CB : Addr) (E : XK) (H : Hp) (v : V) : Prop := ∀ (d : Addr) (H' : Hp), H d = none → Same H H' → H' d = some (.xd [("value", v)]) → E (.ref CB) (some d) H'
theorem Bv.same {CB : Addr} {E : XK} {H H' : Hp} {v : V} (h : Bv CB E H v) (s : Same H H') : Bv CB E H' v := fun d H2 nd s2 hd => h d H2 (by
  cases q : H d with
  | none => rfl
  | some o =>
    rw [s _ _ q] at nd
    cases nd) (s.trans s2) hd
/-- what BadValue asks, to be raised -/
structure Er (P : Program) (w : World) (K : PySem.W.Frag) (mg : Str → Option Value) (base : Heap) (CB : Addr) (f_B : Addr) (fd_B : FuncData) : Prop where
  m : mg "BadValue" = some (.ref CB)
  T : OexC K CB
  iC : PySem.W.findIn K (.ref CB) "__init__" = some (some (.ref f_B))
  tI : PySem.W.typeIn K (.ref f_B) = some (.type "function")
  G : FnOk P w K mg base CX0 1 f_B fd_B ["self", "value"] (spErr CB)
  b : Binds K fd_B ["self", "value"] []
theorem go_err {CB : Addr} {E : XK} {H : Hp} {σ : L2.St} {ta : TE} {v : V} (hv : ∀ Q : VK, Q v H → ta σ H Q) (q : Bv CB E H v) : tMkO CB (spErr CB) [] (tCons ta tNil) σ H fun cls d H' => E cls d H' := by
  refine hv _ ⟨by show 1 ≤ 1000; decide, fun a na => ⟨a, v, rfl, upd_same, fun d nd ne => ?_⟩⟩
  have hd : H d = none := by
    rw [upd_ne ne] at nd
    exact nd
  refine ⟨rfl, d, [("value", v)], upd_same, by rw [upd_ne ne]; exact upd_same, hd, q d _ hd (fun b o e => ?_) upd_same⟩
  have bd : b ≠ d := ne_of_none e hd
  have ba : b ≠ a := ne_of_none e na
  rw [upd_ne bd, del_ne ba, upd_ne ba, upd_ne bd, upd_ne ba]
  exact e
def NoPair (K : PySem.W.Frag) (H : Hp) (v : V) : Prop := (∃ t, TyX K H v t ∧ PySem.W.kitOne K t (.type "tuple") = some false) ∨ ∃ a xs, v = .ref a ∧ H a = some (.tup xs) ∧ xs.length ≠ 2
/-- v is no place, and due says why -/
def BadP (K : PySem.W.Frag) (H : Hp) (v due : V) : Prop := (NoPair K H v ∧ due = v) ∨ ∃ a x y, v = .ref a ∧ H a = some (.tup [x, y]) ∧ ((PN K H 4 x false ∧ due = x) ∨ (PN K H 4 x true ∧ PN K H 4 y false ∧ due = y))
def spChk4 (K : PySem.W.Frag) (CB : Addr) : Sp := fun vs H Q E => ∃ v : V, vs = [v] ∧ ((∃ p k, v = .ref p ∧ Plc H p k ∧ Q (.ref p) H) ∨ ∃ due, BadP K H v due ∧ Bv CB E H due)
theorem ok_chk4 {CB f f_B : Addr} {fd fd_B : FuncData} {k : Nat} (F : FnP K "checked_place" "checked_place" s_checked_place f fd) (m_isinstance : mg "isinstance" = none) (m_tuple : mg "tuple" = none) (m_len : mg "len" = none) (B : Er P w K mg base CB f_B fd_B)
    (C_plain : Cal P w K mg base CX0 "is_plain" (k + 2) ["thing"] (spPlain K)) : FnOk P w K mg base (L2.CX P w) (k + 3) f fd ["thing"] (spChk4 K CB) := by
  obtain ⟨f_is_plain, fd_is_plain, G_is_plain, b_is_plain, m_is_plain, k_is_plain⟩ := C_plain
  obtain ⟨m_BadValue, T_B, iC_B, tI_B, G_B, b_B⟩ := B
  refine F.ok sc_checked_place (fun vs H Q E h => ?_) (fun cdv A outer s H vs Q E hr h => ?_)
  · obtain ⟨v, rfl, _⟩ := h
    rfl
  · obtain ⟨v, rfl, q⟩ := h
    refine ⟨_, pss_cons (ps_if (PW.pt (pw_or (pt_not (pt_val (pe_callB call_isi (by rfl) m_isinstance (by decide +kernel) (pa_cons (pv 0) (pa_cons (pe_bltn (v := .ty "tuple") (by rfl) m_tuple (by decide +kernel) rfl) pa_nil))))) (pw_or1 (pt_cmpR op_ne (pe_callB call_len_seq (by rfl) m_len PySem.boot_len (pa_cons (pv 0) pa_nil)) pe_int (nomark _))))) (pss_one (ps_raise rfl (takes_of rfl rfl rfl rfl) (pmk_oex T_B iC_B tI_B G_B (hr.mono (by omega)) b_B .nil pass0 (by rfl) m_BadValue (pa_cons (pv 0) pa_nil)))) (pss_nil))
    (pss_cons (ps_for (passes_of rfl) rfl (pi_tup (pv 0)) (pg_name (i := 1) sc_checked_place.nd rfl (.inl rfl))
      (pss_one (ps_if (pt_not (pt_val (pe_call G_is_plain (hr.mono (by omega)) (by rfl) m_is_plain k_is_plain b_is_plain .nil pass0 (pa_cons (pv 1) pa_nil)))) (pss_one (ps_raise rfl (takes_of rfl rfl rfl rfl) (pmk_oex T_B iC_B tI_B G_B (hr.mono (by omega)) b_B .nil pass0 (by rfl) m_BadValue (pa_cons (pv 1) pa_nil)))) (pss_nil))))
    (pss_one (ps_ret (pv 0)))), ?_⟩
    rcases q with ⟨p, kk, rfl, hp, q⟩ | ⟨due, (⟨np, rfl⟩ | ⟨a, x, y, rfl, e, hx⟩), q⟩
    · obtain ⟨v1, v2, k1, k2, e, h1, h2, _⟩ := hp.ex
      have ty : TyX K H (.ref p) (.type "tuple") := .base (.tup e)
      refine ⟨_, rfl, .ref p, _, _, _, true, rfl, .ty _, ty, kit_bb (by decide +kernel), true, rfl, iteF ?_⟩
      refine ⟨_, rfl, p, _, rfl, .inr (.inl (.inl e)), rfl, _, rfl, iteF ?_⟩
      refine ⟨_, rfl, p, rfl, ⟨_, .inl (.inl e)⟩, for_tup (K := K) (a := p) (xs := [v1, v2]) (fun i σ H' => H' = H ∧ ∃ v1 : Option V, σ = [some (.ref p), v1]) ⟨rfl, none, rfl⟩ (fun i σ H' _ ⟨z, _⟩ => by rw [z]; exact .inl (.inl e)) ?_ ?_⟩
      · rintro i x σ H' hx ⟨rfl, v1', rfl⟩
        have px : PN K H' 4 x true := by
          rcases List.mem_cons.mp (List.mem_of_getElem? hx) with rfl | hx
          · exact h1.pn
          · rw [List.mem_singleton.mp hx]
            exact h2.pn
        exact ⟨_, rfl, x, true, rfl, px, true, rfl, iteF ⟨rfl, _, rfl⟩⟩
      · rintro σ H' ⟨rfl, v1', rfl⟩
        exact ⟨_, rfl, q⟩
    · rcases np with ⟨t, ty, kt⟩ | ⟨a, xs, rfl, e, hl⟩
      · refine ⟨_, rfl, due, _, t, _, false, rfl, .ty _, ty, kt, false, rfl, iteT ?_⟩
        exact go_err (fun Q h => ⟨_, rfl, h⟩) q
      · have ty : TyX K H (.ref a) (.type "tuple") := .base (.tup e)
        refine ⟨_, rfl, .ref a, _, _, _, true, rfl, .ty _, ty, kit_bb (by decide +kernel), true, rfl, iteF ?_⟩
        have e2 : (!decide (V.int (xs.length : Int) = V.int 2)) = true := by
          rw [decide_eq_false fun z => hl (by have := V.int.inj z; omega)]
          rfl
        refine ⟨_, rfl, a, _, rfl, .inr (.inl (.inl e)), rfl, true, congrArg V.bl e2, iteT ?_⟩
        exact go_err (fun Q h => ⟨_, rfl, h⟩) q
    · have ty : TyX K H (.ref a) (.type "tuple") := .base (.tup e)
      refine ⟨_, rfl, .ref a, _, _, _, true, rfl, .ty _, ty, kit_bb (by decide +kernel), true, rfl, iteF ?_⟩
      refine ⟨_, rfl, a, _, rfl, .inr (.inl (.inl e)), rfl, _, rfl, iteF ?_⟩
      refine ⟨_, rfl, a, rfl, ⟨_, .inl (.inl e)⟩, for_tup (K := K) (a := a) (xs := [x, y]) (fun i σ H' => H' = H ∧ (∃ v1 : Option V, σ = [some (.ref a), v1]) ∧ (i ≠ 0 → PN K H 4 x true ∧ PN K H 4 y false ∧ due = y) ∧ i ≠ 2) ⟨rfl, ⟨none, rfl⟩, fun z => absurd rfl z, by decide⟩ (fun i σ H' _ ⟨z, _⟩ => by rw [z]; exact .inl (.inl e)) ?_ ?_⟩
      · rintro i z σ H' hz ⟨rfl, ⟨v1', rfl⟩, hi, _⟩
        match i, hz, hi with
        | 0, hz, hi =>
          cases hz
          rcases hx with ⟨px, rfl⟩ | ⟨px, py, rfl⟩
          · refine ⟨_, rfl, due, false, rfl, px, false, rfl, iteT ?_⟩
            exact go_err (fun Q h => ⟨_, rfl, h⟩) q
          · exact ⟨_, rfl, x, true, rfl, px, true, rfl, iteF ⟨rfl, ⟨_, rfl⟩, fun _ => ⟨px, py, rfl⟩, by decide⟩⟩
        | 1, hz, hi =>
          cases hz
          obtain ⟨_, py, rfl⟩ := hi (by decide)
          refine ⟨_, rfl, due, false, rfl, py, false, rfl, iteT ?_⟩
          exact go_err (fun Q h => ⟨_, rfl, h⟩) q
        | m + 2, hz, _ => cases hz
      · rintro σ H' ⟨_, _, _, z⟩
        exact absurd rfl z
end
end K04
set_option Elab.async false
set_option linter.all false
set_option maxRecDepth 100000
set_option maxHeartbeats 2000000
namespace K04
open PySem PySem.Spec PyProof.Rows L2 CM DN GR
section
variable {P : Program} {w : World} {K : PySem.W.Frag} {mg : Str → Option Value} {base : Heap}
theorem odd_same {H H' : Hp} {v : V} (h : Odd K H v) (s : Same H H') : Odd K H' v := by
  rcases h with h | ⟨a, xs, e, h⟩ | ⟨a, kvs, e, h⟩ | ⟨a, C, dx, fs, e, h, k⟩
  · exact .inl h
  · exact .inr (.inl ⟨a, xs, e, s _ _ h⟩)
  · exact .inr (.inr (.inl ⟨a, kvs, e, s _ _ h⟩))
  · exact .inr (.inr (.inr ⟨a, C, dx, fs, e, s _ _ h, k⟩))
theorem pn_same {H H' : Hp} (s : Same H H') : ∀ {n : Nat} {v : V} {b : Bool}, PN K H n v b → PN K H' n v b
  | 0, v, b, h => by
    rcases h with h | ⟨h, e⟩ | ⟨a, xs, e, h, hb⟩
    · exact .inl h
    · exact .inr (.inl ⟨odd_same h s, e⟩)
    · exact .inr (.inr ⟨a, xs, e, s _ _ h, hb⟩)
  | n + 1, v, b, h => by
    rcases h with h | ⟨h, e⟩ | ⟨a, xs, e, h, hb⟩
    · exact .inl h
    · exact .inr (.inl ⟨odd_same h s, e⟩)
    · refine .inr (.inr ⟨a, xs, e, s _ _ h, ?_⟩)
      rcases hb with ⟨hb, q⟩ | ⟨hb, i, x, h1, h2, h3⟩
      · exact .inl ⟨hb, fun x hx => pn_same s (q x hx)⟩
      · exact .inr ⟨hb, i, x, h1, pn_same s h2, fun j y hj hy => pn_same s (h3 j y hj hy)⟩
/-- Grid(default) -/
def BadD (K : PySem.W.Frag) (CF : Addr) (H : Hp) (v : V) : Prop := ∃ t, TyX K H v t ∧ PySem.W.kitOne K t (.ref CF) = some false ∧ PySem.W.kitOne K t (.type "bool") = some false ∧ PN K H 4 v false
def spInit4 (P : Program) (w : World) (K : PySem.W.Frag) (C CF CB : Addr) : Sp := fun vs H Q E => ∃ (p dx : Addr) (v : V), vs = [.ref p, v] ∧ H p = some (.ins C dx []) ∧ ((∃ (fl : Bool) (d : PyData), Wr H fl v d ∧
  ∀ (H' : Hp) (e : Addr), H e = none → e ≠ p → (∀ b o, b ≠ p → H b = some o → H' b = some o) → Gd P w C H' p v e [] → Q .non H') ∨ (BadD K CF H v ∧ Bv CB E H v))
theorem ok_init4 {C CF CB f f_B : Addr} {fd fd_B : FuncData} {k : Nat} (F : FunG K f fd) (m_isinstance : mg "isinstance" = none) (m_Filling : mg "Filling" = some (.ref CF)) (kF : ∀ T ∈ ["bool", "NoneType", "int", "str", "tuple"], PySem.W.kitOne K (.type T) (.ref CF) = some false)
    (gc : GCls K C) (B : Er P w K mg base CB f_B fd_B) (C_flag : Cal P w K mg base CX0 "is_flag" (k + 2) ["thing"] (spFlag K)) (C_plain : Cal P w K mg base CX0 "is_plain" (k + 2) ["thing"] (spPlain K)) :
    FnOk P w K mg base (L2.CX P w) (k + 3) f fd ["self", "default"] (spInit4 P w K C CF CB) := by
  obtain ⟨f_is_flag, fd_is_flag, G_is_flag, b_is_flag, m_is_flag, k_is_flag⟩ := C_flag
  obtain ⟨f_is_plain, fd_is_plain, G_is_plain, b_is_plain, m_is_plain, k_is_plain⟩ := C_plain
  obtain ⟨m_BadValue, T_B, iC_B, tI_B, G_B, b_B⟩ := B
  refine F.ok sc_Grid___init (fun vs H Q E h => ?_) (fun cdv A outer s H vs Q E hr h => ?_)
  · obtain ⟨p, dx, v, rfl, _⟩ := h
    rfl
  · obtain ⟨p, dx, v, rfl, hp, q⟩ := h
    refine ⟨_, pss_one (ps_if (pt_val (pe_callB call_isi (by rfl) m_isinstance (by decide +kernel) (pa_cons (pv 1) (pa_cons (pe_gref (by rfl) m_Filling) pa_nil)))) (pss_cons (ps_fld (pv 0) (pe_fld (pv 1) rfl) rfl)
      (pss_one (ps_fld (pv 0) (pe_fld (pv 1) rfl) rfl))) (pss_one (ps_if (PW.pt (pw_or (pt_val (pe_call G_is_flag (hr.mono (by omega)) (by rfl) m_is_flag k_is_flag b_is_flag .nil pass0 (pa_cons (pv 1) pa_nil))) (pw_or1 (pt_val (pe_call G_is_plain (hr.mono (by omega)) (by rfl) m_is_plain k_is_plain b_is_plain .nil pass0 (pa_cons (pv 1) pa_nil)))))) (pss_cons (ps_fld (pv 0) (pv 1) rfl)
        (pss_one (ps_fld (pv 0) DN.pe_dnewN rfl))) (pss_one (ps_raise rfl (takes_of rfl rfl rfl rfl) (pmk_oex T_B iC_B tI_B G_B (hr.mono (by omega)) b_B .nil pass0 (by rfl) m_BadValue (pa_cons (pv 1) pa_nil))))))), ?_⟩
    rcases q with ⟨fl, d, wr, q⟩ | ⟨⟨t, ty, k1, k2, pn⟩, q⟩
    · have ty := shw_ty (K := K) wr.shw.1
      refine ⟨_, rfl, v, _, _, _, false, rfl, .own CF, ty, kF _ wr.tyIn, false, rfl, iteF ?_⟩
      have wb := wr.bool (K := K)
      cases fl with
      | true =>
        refine ⟨_, rfl, v, _, true, rfl, ty, wb, true, rfl, iteT (iteT ?_)⟩
        refine ⟨_, rfl, _, rfl, p, C, dx, [], rfl, hp, gc.cl, gc.nd, by decide, fun d' hd => ?_⟩
        have np : p ≠ d' := ne_of_none (upd_same : upd H p (.ins C dx (putF "default" v [])) p = _) hd
        have hd0 : H d' = none := by
          rw [upd_ne (Ne.symm np)] at hd
          exact hd
        refine ⟨_, rfl, p, C, dx, [("default", v)], rfl, (by rw [upd_ne np]; exact upd_same), gc.cl, gc.ne, (show (1 : Nat) < 1000 by decide), q _ d' hd0 (Ne.symm np) (fun b o n e => ?_) ⟨⟨dx, upd_same⟩, ?_⟩⟩
        · rw [upd_ne n]
          have e2 : upd H p (.ins C dx (putF "default" v [])) b = some o := by rw [upd_ne n]; exact e
          rw [upd_ne (ne_of_none e2 hd)]
          exact e2
        · exact ⟨by rw [upd_ne (Ne.symm np)]; exact upd_same, fun x hx => by cases hx⟩
      | false =>
        obtain ⟨kk, hpl, hdd⟩ := wr
        refine ⟨_, rfl, v, _, false, rfl, ty, wb, false, rfl, iteF ⟨_, rfl, v, true, rfl, hpl.pn, true, rfl, iteT ?_⟩⟩
        refine ⟨_, rfl, _, rfl, p, C, dx, [], rfl, hp, gc.cl, gc.nd, by decide, fun d' hd => ?_⟩
        have np : p ≠ d' := ne_of_none (upd_same : upd H p (.ins C dx (putF "default" v [])) p = _) hd
        have hd0 : H d' = none := by
          rw [upd_ne (Ne.symm np)] at hd
          exact hd
        refine ⟨_, rfl, p, C, dx, [("default", v)], rfl, (by rw [upd_ne np]; exact upd_same), gc.cl, gc.ne, (show (1 : Nat) < 1000 by decide), q _ d' hd0 (Ne.symm np) (fun b o n e => ?_) ⟨⟨dx, upd_same⟩, ?_⟩⟩
        · rw [upd_ne n]
          have e2 : upd H p (.ins C dx (putF "default" v [])) b = some o := by rw [upd_ne n]; exact e
          rw [upd_ne (ne_of_none e2 hd)]
          exact e2
        · exact ⟨by rw [upd_ne (Ne.symm np)]; exact upd_same, fun x hx => by cases hx⟩
    · refine ⟨_, rfl, v, _, t, _, false, rfl, .own CF, ty, k1, false, rfl, iteF ?_⟩
      refine ⟨_, rfl, v, _, false, rfl, ty, k2, false, rfl, iteF ⟨_, rfl, v, false, rfl, pn, false, rfl, iteF ?_⟩⟩
      exact go_err (fun Q h => ⟨_, rfl, h⟩) q
end
end K04
set_option Elab.async false
set_option linter.all false
set_option maxRecDepth 100000
set_option maxHeartbeats 2000000
namespace K04
open PySem PySem.Spec PyProof.Rows L2 CM DN GR
section
variable {P : Program} {w : World} {K : PySem.W.Frag} {mg : Str → Option Value} {base : Heap}
/-- grid[place] -/
def spGet4 (P : Program) (w : World) (K : PySem.W.Frag) (C CB : Addr) : Sp := fun vs H Q E => ∃ (g e : Addr) (y v : V) (xs : List Ent), vs = [.ref g, y] ∧ Gd P w C H g v e xs ∧ ((∃ p k, y = .ref p ∧ Plc H p k ∧ Q ((at_ xs k).getD v) H) ∨ ∃ due, BadP K H y due ∧ Bv CB E H due)
theorem ok_get4 {C CB f : Addr} {fd : FuncData} {k : Nat} (F : FnP K "__getitem__" "Grid.__getitem__" s_Grid___getitem f fd) (gc : GCls K C) (C_chk : Cal P w K mg base (L2.CX P w) "checked_place" k ["thing"] (spChk4 K CB)) : FnOk P w K mg base (L2.CX P w) (k + 1) f fd ["self", "at"] (spGet4 P w K C CB) := by
  obtain ⟨f_checked_place, fd_checked_place, G_checked_place, b_checked_place, m_checked_place, k_checked_place⟩ := C_chk
  refine F.ok sc_Grid___getitem (fun vs H Q E h => ?_) (fun cdv A outer s H vs Q E hr h => ?_)
  · obtain ⟨g, e, y, v, xs, rfl, _⟩ := h
    rfl
  · obtain ⟨g, e, y, v, xs, rfl, ⟨⟨dx, hg⟩, D⟩, q⟩ := h
    refine ⟨_, pss_one (ps_ret (DN.pe_bmN PySem.F.plainAttrs_dict PySem.F.slot_dict_get PySem.F.type_dict_get (DN.mt_getN (u40 hr.units)) (pe_fld (pv 0) rfl) (pa_cons (pe_call G_checked_place (hr.mono (by omega)) (by rfl) m_checked_place k_checked_place b_checked_place .nil (passes_call (takes_of rfl rfl rfl rfl) (fun _ _ _ _ h => h)) (pa_cons (pv 1) pa_nil)) (pa_cons (pe_fld (pv 0) rfl) pa_nil)))), ?_⟩
    refine ⟨_, rfl, g, C, dx, _, _, rfl, hg, gc.cl, gc.ne, rfl, ⟨e, xs, rfl, D⟩, _, rfl, y, rfl, ?_⟩
    rcases q with ⟨p, kk, rfl, hp, q⟩ | ⟨due, bad, q⟩
    · have hk := hp.key
      exact .inl ⟨p, kk, rfl, hp, _, rfl, g, C, dx, _, _, rfl, hg, gc.cl, gc.nd, rfl, e, p, xs, kk, v, rfl, rfl, D, hk.1, hk.2, q⟩
    · exact .inr ⟨due, bad, q⟩
/-- self.has_value(v) -/
def BadW (K : PySem.W.Frag) (H : Hp) (fl : Bool) (v : V) : Prop := if fl then ∃ t, TyX K H v t ∧ PySem.W.kitOne K t (.type "bool") = some false else PN K H 4 v false
def spHas4 (K : PySem.W.Frag) (C : Addr) : Sp := fun vs H Q _ => ∃ (g dx e : Addr) (fl : Bool) (dv v : V) (dd : PyData), vs = [.ref g, v] ∧ H g = some (.ins C dx [("default", dv), ("entries", .ref e)]) ∧ Wr H fl dv dd ∧ (((∃ d, Wr H fl v d) ∧ Q (.bl true) H) ∨ (BadW K H fl v ∧ Q (.bl false) H))
theorem ok_has4 {C f : Addr} {fd : FuncData} {k : Nat} (F : FnP K "has_value" "Grid.has_value" s_Grid_has_value f fd) (gc : GCls K C) (C_flag : Cal P w K mg base CX0 "is_flag" k ["thing"] (spFlag K)) (C_plain : Cal P w K mg base CX0 "is_plain" k ["thing"] (spPlain K)) :
    FnOk P w K mg base CX0 (k + 1) f fd ["self", "thing"] (spHas4 K C) := by
  obtain ⟨f_is_flag, fd_is_flag, G_is_flag, b_is_flag, m_is_flag, k_is_flag⟩ := C_flag
  obtain ⟨f_is_plain, fd_is_plain, G_is_plain, b_is_plain, m_is_plain, k_is_plain⟩ := C_plain
  refine F.ok sc_Grid_has_value (fun vs H Q E h => ?_) (fun cdv A outer s H vs Q E hr h => ?_)
  · obtain ⟨g, dx, e, fl, dv, v, dd, rfl, _⟩ := h
    rfl
  · obtain ⟨g, dx, e, fl, dv, v, dd, rfl, hg, wd, q⟩ := h
    refine ⟨_, PSs.nox (pss_cons (ps_if (pt_val (pe_call G_is_flag (hr.mono (by omega)) (by rfl) m_is_flag k_is_flag b_is_flag .nil pass0 (pa_cons (pe_fld (pv 0) rfl) pa_nil))) (pss_one (ps_ret (pe_call G_is_flag (hr.mono (by omega)) (by rfl) m_is_flag k_is_flag b_is_flag .nil pass0 (pa_cons (pv 1) pa_nil)))) (pss_nil))
    (pss_one (ps_ret (pe_call G_is_plain (hr.mono (by omega)) (by rfl) m_is_plain k_is_plain b_is_plain .nil pass0 (pa_cons (pv 1) pa_nil))))), ?_⟩
    have t1 := shw_ty (K := K) wd.shw.1
    refine ⟨_, rfl, g, C, dx, _, _, rfl, hg, gc.cl, gc.nd, rfl, dv, _, fl, rfl, t1, wd.bool, fl, rfl, ?_⟩
    rcases q with ⟨⟨d, wv⟩, q⟩ | ⟨bad, q⟩
    · have t2 := shw_ty (K := K) wv.shw.1
      cases fl with
      | true => exact iteT ⟨_, rfl, v, _, true, rfl, t2, wv.bool, q⟩
      | false =>
        obtain ⟨kk, hpl, _⟩ := wv
        exact iteF ⟨_, rfl, v, true, rfl, hpl.pn, q⟩
    · cases fl with
      | true =>
        obtain ⟨t, ty, kt⟩ := (show ∃ t, TyX K H v t ∧ PySem.W.kitOne K t (.type "bool") = some false from bad)
        exact iteT ⟨_, rfl, v, _, false, rfl, ty, kt, q⟩
      | false => exact iteF ⟨_, rfl, v, false, rfl, bad, q⟩
/-- grid[place] = v -/
def spSet4 (P : Program) (w : World) (K : PySem.W.Frag) (C CB : Addr) : Sp := fun vs H Q E => ∃ (g e : Addr) (fl : Bool) (dv y v : V) (dd : PyData) (xs : List Ent), vs = [.ref g, y, v] ∧ Gd P w C H g dv e xs ∧ Wr H fl dv dd ∧ xs.length < 1000 ∧ ((∃ due, BadP K H y due ∧ Bv CB E H due) ∨
  ∃ p k, y = .ref p ∧ Plc H p k ∧ ((BadW K H fl v ∧ Bv CB E H v) ∨ ∃ d, Wr H fl v d ∧ (PyData.eqv d dd = false → Q .non (upd H e (dn P w e (putE xs k p v)))) ∧ (PyData.eqv d dd = true → at_ xs k = none → Q .non H) ∧ (PyData.eqv d dd = true → ∀ u, at_ xs k = some u → Q .non (upd H e (dn P w e (dropE xs k))))))
theorem ok_set4 {C CB f f_B : Addr} {fd fd_B : FuncData} {k : Nat} (F : FnP K "__setitem__" "Grid.__setitem__" s_Grid___setitem f fd) (gc : GCls K C) (B : Er P w K mg base CB f_B fd_B) (C_chk : Cal P w K mg base (L2.CX P w) "checked_place" (k + 2) ["thing"] (spChk4 K CB)) (C_has : CalM P w K mg base CX0 C "has_value" (k + 2) ["self", "thing"] (spHas4 K C)) :
    FnOk P w K mg base (L2.CX P w) (k + 3) f fd ["self", "at", "worth"] (spSet4 P w K C CB) := by
  obtain ⟨f_checked_place, fd_checked_place, G_checked_place, b_checked_place, m_checked_place, k_checked_place⟩ := C_chk
  obtain ⟨f_has_value, fd_has_value, G_has_value, b_has_value, me_has_value⟩ := C_has
  obtain ⟨m_BadValue, T_B, iC_B, tI_B, G_B, b_B⟩ := B
  have cl_C := gc.cl
  refine F.ok sc_Grid___setitem (fun vs H Q E h => ?_) (fun cdv A outer s H vs Q E hr h => ?_)
  · obtain ⟨g, e, fl, dv, y, v, dd, xs, rfl, _⟩ := h
    rfl
  · obtain ⟨g, e, fl, dv, y, v, dd, xs, rfl, ⟨⟨dx, hg⟩, D⟩, wd, hz, q⟩ := h
    refine ⟨_, pss_cons (ps_set (i := 3) sc_Grid___setitem.nd rfl (.inl rfl) (pe_call G_checked_place (hr.mono (by omega)) (by rfl) m_checked_place k_checked_place b_checked_place .nil (passes_call (takes_of rfl rfl rfl rfl) (fun _ _ _ _ h => h)) (pa_cons (pv 1) pa_nil)))
    (pss_cons (ps_if (pt_not (pt_val (pe_meth (pv 0) cl_C me_has_value G_has_value (hr.mono (by omega)) b_has_value .nil pass0 (pa_cons (pv 2) pa_nil)))) (pss_one (ps_raise rfl (takes_of rfl rfl rfl rfl) (pmk_oex T_B iC_B tI_B G_B (hr.mono (by omega)) b_B .nil pass0 (by rfl) m_BadValue (pa_cons (pv 2) pa_nil)))) (pss_nil))
    (pss_one (ps_if (pt_cmpR (DN.op_neD hr.units) (pv 2) (pe_fld (pv 0) rfl) (nomark _)) (pss_one (ps_asg (pv 2) (pg_sub (pe_fld (pv 0) rfl) (pv 3) (DN.set_dictN (u40 hr.units))))) (pss_one (ps_if (pt_cmpR (DN.op_inN (u40 hr.units)) (pv 3) (pe_fld (pv 0) rfl) (by rfl)) (pss_one (DN.ps_delN (u40 hr.units) (pe_fld (pv 0) rfl) (pv 3))) (pss_nil)))))), ?_⟩
    refine ⟨_, rfl, y, rfl, ?_⟩
    rcases q with ⟨due, bad, q⟩ | ⟨p, kk, rfl, hp, q⟩
    · exact .inr ⟨due, bad, q⟩
    · refine .inl ⟨p, kk, rfl, hp, ?_⟩
      have hk := hp.key
      refine ⟨_, rfl, g, dx, _, rfl, hg, rfl, _, rfl, g, dx, e, fl, dv, v, dd, rfl, hg, wd, ?_⟩
      rcases q with ⟨bad, q⟩ | ⟨d, wv, q1, q2, q3⟩
      · refine .inr ⟨bad, false, rfl, iteT ?_⟩
        exact go_err (fun Q h => ⟨_, rfl, h⟩) q
      · refine .inl ⟨⟨d, wv⟩, true, rfl, iteF ?_⟩
        refine ⟨_, rfl, _, rfl, g, C, dx, _, _, rfl, hg, gc.cl, gc.nd, rfl, d, dd, wv.shw.1, wd.shw.1, Nat.le_trans wv.shw.2 (by decide), _, rfl, ?_⟩
        cases he : PyData.eqv d dd with
        | false => exact iteT ⟨_, rfl, _, rfl, g, C, dx, _, _, rfl, hg, gc.cl, gc.ne, rfl, _, rfl, e, p, xs, kk, rfl, rfl, D, hk.1, hk.2, hz, q1 he⟩
        | true =>
          refine iteF ⟨_, rfl, _, rfl, g, C, dx, _, _, rfl, hg, gc.cl, gc.ne, rfl, p, e, xs, kk, rfl, rfl, D, hk.1, hk.2, _, rfl, ?_⟩
          cases ha : at_ xs kk with
          | none => exact iteF (q2 he ha)
          | some u => exact iteT ⟨_, rfl, g, C, dx, _, _, rfl, hg, gc.cl, gc.ne, rfl, _, rfl, e, p, xs, kk, rfl, rfl, D, hk.1, hk.2, by rw [ha]; rfl, q3 he u ha⟩
/-- grid(one, other) -/
def spCall4 (P : Program) (w : World) (K : PySem.W.Frag) (C CB : Addr) : Sp := fun vs H Q E => ∃ (g e : Addr) (x y v : V) (xs : List Ent), vs = [.ref g, x, y] ∧ Gd P w C H g v e xs ∧ ∃ due, ((PN K H 4 x false ∧ due = x) ∨ (PN K H 4 x true ∧ PN K H 4 y false ∧ due = y)) ∧ Bv CB E H due
theorem ok_call4 {C CB f g0 : Addr} {fd : FuncData} {k : Nat} (F : FnP K "__call__" "Grid.__call__" s_Grid___call f fd) (O_get : OP.Own K C "__getitem__" g0) (G_get : FnR P w K mg base (L2.CX P w) k g0 (spGet4 P w K C CB)) : FnOk P w K mg base (L2.CX P w) (k + 2) f fd ["self", "one", "other"] (spCall4 P w K C CB) := by
  refine F.ok sc_Grid___call (fun vs H Q E h => ?_) (fun cdv A outer s H vs Q E hr h => ?_)
  · obtain ⟨g, e, x, y, v, xs, rfl, _⟩ := h
    rfl
  · obtain ⟨g, e, x, y, v, xs, rfl, hG, due, bad, q⟩ := h
    refine ⟨_, pss_one (ps_ret (OP.pe_ixO O_get G_get (hr.mono (by omega)) (passes_call (takes_of rfl rfl rfl rfl) (fun _ _ _ _ h => h)) (pv 0) (pe_tup (pa_cons (pv 1) (pa_cons (pv 2) pa_nil))))), ?_⟩
    refine ⟨_, rfl, _, rfl, _, rfl, by show 2 ≤ sizeLine; decide, fun p np => ?_⟩
    have s1 := same_upd (o := .tup [x, y]) np
    have G1 := hG.same s1
    obtain ⟨⟨dx, hg⟩, D⟩ := G1
    refine ⟨g, dx, _, rfl, hg, g, e, .ref p, v, xs, rfl, ⟨⟨dx, hg⟩, D⟩, .inr ⟨due, .inr ⟨p, x, y, rfl, upd_same, ?_⟩, q.same s1⟩⟩
    rcases bad with ⟨h1, h2⟩ | ⟨h1, h2, h3⟩
    · exact .inl ⟨pn_same s1 h1, h2⟩
    · exact .inr ⟨pn_same s1 h1, pn_same s1 h2, h3⟩
end
end K04
set_option Elab.async false
set_option linter.all false
set_option maxRecDepth 100000
set_option maxHeartbeats 2000000
namespace K04
open PySem PySem.Spec PyProof.Rows L2 CM DN GR
section
variable {P : Program} {w : World} {K : PySem.W.Frag} {mg : Str → Option Value} {base : Heap}
/-! ### what a call tells -/
def Shown (D : PyData) : Prop := D.showable = true ∧ D.depth ≤ 80 ∧ D.shown.length ≤ sizeLine
def TTref (CB : Addr) : (XK → Hp → VK → Prop) → Hp → VK → Prop := fun tl H Q => ∀ (E : XK) (Q' : VK), (∀ (d : Addr) (H' : Hp) (v : V) (D : PyData), H' d = some (.xd [("value", v)]) → SY.SayD H' v D → Shown D →
  (∀ p, H' p = none → Q (.ref p) (upd H' p (.tup [.str "value", .str D.shown]))) → E (.ref CB) (some d) H') → tl E H Q'
def TTbad (CB : Addr) : (XK → Hp → VK → Prop) → Hp → VK → Prop := fun tl H Q => ∀ (E : XK) (Q' : VK), (∀ (d : Addr) (H' : Hp), Q (.bl true) H' → E (.ref CB) (some d) H') → tl E H Q'
theorem takes_len {X : Cx} {W : WX} (tk : Takes X W) : Takes X (fun c d σ H => σ.length = X.N.length → W c d σ H) := fun u s' ⟨a, B, sI, pins, σ, H, cls, d, e, I, nb, up, sky, na, os, ag, w⟩ =>
  tk u s' ⟨a, B, sI, pins, σ, H, cls, d, e, I, nb, up, sky, na, os, ag, w I.len⟩
theorem gives_refused {X : Cx} {CB g : Addr} {cdg : Value} {k : Nat} {q : Str} (hr : Room (k + 2) X.A) (gd : X.A.guards = some []) (hy : (X.K.lookup sysModules).isSome = true) (m_BadValue : X.mg "BadValue" = some (.ref CB)) (m_repr : X.mg "repr" = none)
    (XF : XfC X.K CB) (nV : PySem.W.findIn X.K (.ref CB) "value" = some none) (te : PySem.W.exmOne X.K (.ref CB) (.ref CB) = some true) :
    LamX.GivesTo X n_law_refused "_law_refused" (defScope s_law_refused) g cdg (defBody s_law_refused) "_law_ask" q (TTref CB) := by
  intro f c' s H Q tl hact hco h
  have hr2 := hr.deeper (envOfC "_law_refused" (defScope s_law_refused) s.heap.objs.size g cdg)
  have hu : (X.A.deeper (envOfC "_law_refused" (defScope s_law_refused) s.heap.objs.size g cdg)).units + 90 < cLine := by
    have := hr2.un
    omega
  refine ⟨_, pss_cons (ps_try_as (i := 1) rfl rfl sc_law_refused.nd rfl rfl ⟨rfl, by decide, .inl m_BadValue⟩ LamX.takes0
      (fun W pn xe tk _ => pss_one (ps_expr (hact _ pn xe (fun cls d H' => ∀ σ' : L2.St, σ'.length = 2 → W cls d σ' H') _ _ (takes_len tk) (fun cls d σ' H' hh hl => hh σ' hl))))
      (fun a oe cls d pn hz hf => pss_one (ps_ret (pe_tup (pa_cons pe_str (pa_cons (pe_callB (SY.call_reprE hy gd hu) (by rfl) m_repr (by decide +kernel) (pa_cons (pe_xf XF nV hz hf (pv 1)) pa_nil)) pa_nil))))))
    (pss_one (ps_ret (pe_tup (pa_cons pe_str (pa_cons pe_str pa_nil))))), ?_⟩
  refine ⟨rfl, hco, h _ _ fun d H' v D hd hs hsh qq => ?_⟩
  intro σ' hl
  match σ', hl with
  | [v0, v1], _ =>
    refine ⟨true, te, fun _ a na => ?_, fun e => by cases e⟩
    exact ⟨_, rfl, rfl, rfl, d, _, v, rfl, hd, rfl, v, D, rfl, hs, hsh.1, hsh.2.1, hsh.2.2, by show 2 ≤ sizeLine; decide, fun p np => qq p np⟩
theorem gives_bad {X : Cx} {CB g : Addr} {cdg : Value} {q : Str} (m_BadValue : X.mg "BadValue" = some (.ref CB)) (te : PySem.W.exmOne X.K (.ref CB) (.ref CB) = some true) :
    LamX.GivesTo X n_law_is_bad "_law_is_bad" (defScope s_law_is_bad) g cdg (defBody s_law_is_bad) "_law_ask" q (TTbad CB) := by
  intro f c' s H Q tl hact hco h
  refine ⟨_, pss_cons (ps_try_only rfl rfl ⟨rfl, by decide, .inl m_BadValue⟩ LamX.takes0
      (fun W pn xe tk _ => pss_one (ps_expr (hact W pn xe (fun cls d H' => ∀ σ' : L2.St, W cls d σ' H') _ _ tk (fun cls d σ' H' hh => hh σ'))))
      (fun a oe cls d pn _ _ => pss_one (ps_ret pe_bl)))
    (pss_one (ps_ret pe_bl)), ?_⟩
  refine ⟨rfl, hco, h _ _ fun d H' qq => ?_⟩
  intro σ'
  exact ⟨true, te, fun _ a na => qq, fun e => by cases e⟩
end
end K04
set_option Elab.async false
set_option linter.all false
set_option maxRecDepth 100000
set_option maxHeartbeats 2000000
namespace K04
open PySem PySem.Spec PyProof.Rows L2 CM DN GR
section
variable {P : Program} {w : World} {K : PySem.W.Frag} {mg : Str → Option Value} {base : Heap}
/-- a def of one parameter, as it stands -/
structure Tells (K : PySem.W.Frag) (mg : Str → Option Value) (nm : Str) (st : Stmt) : Prop where
  ex : ∃ (g : Addr) (oc dV kV doc pm cdv ct : Value) (od an : Option Addr) (osl : Array (Option Value)), mg nm = some (.ref g) ∧ PySem.W.keepIn K (.ref g) = true ∧
    K.lookup g = some ⟨oc, od, .func (PySem.W.fnOf nm nm (defArgs st) (defBody st) (defScope st) dV kV doc pm an cdv ct), osl⟩ ∧ PySem.W.codeIn K cdv nm = true ∧ L2.Binds K (PySem.W.fnOf nm nm (defArgs st) (defBody st) (defScope st) dV kV doc pm an cdv ct) ["_law_ask"] []
theorem tells_of {nm : Str} {st : Stmt} {f : Addr} {fd : FuncData} (F : FnP K nm nm st f fd) (m : mg nm = some (.ref f)) (b : L2.Binds K fd ["_law_ask"] []) : Tells K mg nm st := by
  obtain ⟨oc, od, dV, kV, doc, pm, an, cdv, ct, osl, rfl, lk, hcd, _, _⟩ := F.ex
  exact ⟨⟨f, oc, dV, kV, doc, pm, cdv, ct, od, an, osl, m, F.kp, lk, hcd, b⟩⟩
/-- what is asked of BadValue where it is caught and shown -/
structure RefF (K : PySem.W.Frag) (mg : Str → Option Value) (CB : Addr) : Prop where
  hy : (K.lookup sysModules).isSome = true
  mB : mg "BadValue" = some (.ref CB)
  mR : mg "repr" = none
  XF : XfC K CB
  nV : PySem.W.findIn K (.ref CB) "value" = some none
  te : PySem.W.exmOne K (.ref CB) (.ref CB) = some true
theorem pe_ref {X : Cx} {T : List (Addr × Str)} {CB c P0 : Addr} {k : Nat} {params : Arguments} {body : Expr} {scope : Scope} {p lpos pos : Pos} {t : XK → TE} (R : Tells X.K X.mg "_law_refused" s_law_refused) (rf : RefF X.K X.mg CB) (TB : LamX.TabB X.base X.mg c P0) (hcode : X.env.code = .ref c)
    (hmT : (P0, X.env.qual ++ "<lambda>") ∈ T) (hu : ∀ p ∈ T, p.1 = P0 → p.2 = X.env.qual ++ "<lambda>") (hr : Room (k + 2) X.A) (gd : X.A.guards = some []) (hg : Gl X "_law_refused") (L : LamX.LamS X.env.scope scope) (hdef : defaultsOf params X.env = ([], []))
    (hbind : ∀ (q : Str) (cl : List (Str × Addr)) (pm cv ctv : Value), bindArgs (PySem.W.kla_fn "<lambda>" q params body scope cl pm cv ctv) ⟨[], []⟩ = pure [])
    (hbody : ∀ (A : Around) (outer : List Env) (s : Shared) (H : Hp) (E : XK) (f c' : Addr), Room k (A.deeper (LamX.lamEnv X scope s.heap.objs.size f c')) → PE (LamX.lamCx X A outer s H E scope f c') body (t E)) :
    PE X (.Call (.Name "_law_refused" p) [.Lambda params body scope lpos] [] pos) (LamX.tLam T (TTref CB) t) := by
  obtain ⟨g, oc, dV, kV, doc, pm, cdv, ct, od, an, osl, hm, hk, lk, hcg, hb⟩ := R.ex
  exact LamX.pe_lamcall hg hm hk lk hcg hb sc_law_refused rfl (.inl rfl) (gives_refused hr gd rf.hy rf.mB rf.mR rf.XF rf.nV rf.te) TB hcode hmT hu hr L hdef hbind hbody
theorem pe_bad {X : Cx} {T : List (Addr × Str)} {CB c P0 : Addr} {k : Nat} {params : Arguments} {body : Expr} {scope : Scope} {p lpos pos : Pos} {t : XK → TE} (R : Tells X.K X.mg "_law_is_bad" s_law_is_bad) (rf : RefF X.K X.mg CB) (TB : LamX.TabB X.base X.mg c P0) (hcode : X.env.code = .ref c)
    (hmT : (P0, X.env.qual ++ "<lambda>") ∈ T) (hu : ∀ p ∈ T, p.1 = P0 → p.2 = X.env.qual ++ "<lambda>") (hr : Room (k + 2) X.A) (hg : Gl X "_law_is_bad") (L : LamX.LamS X.env.scope scope) (hdef : defaultsOf params X.env = ([], []))
    (hbind : ∀ (q : Str) (cl : List (Str × Addr)) (pm cv ctv : Value), bindArgs (PySem.W.kla_fn "<lambda>" q params body scope cl pm cv ctv) ⟨[], []⟩ = pure [])
    (hbody : ∀ (A : Around) (outer : List Env) (s : Shared) (H : Hp) (E : XK) (f c' : Addr), Room k (A.deeper (LamX.lamEnv X scope s.heap.objs.size f c')) → PE (LamX.lamCx X A outer s H E scope f c') body (t E)) :
    PE X (.Call (.Name "_law_is_bad" p) [.Lambda params body scope lpos] [] pos) (LamX.tLam T (TTbad CB) t) := by
  obtain ⟨g, oc, dV, kV, doc, pm, cdv, ct, od, an, osl, hm, hk, lk, hcg, hb⟩ := R.ex
  exact LamX.pe_lamcall hg hm hk lk hcg hb sc_law_is_bad rfl (.inl rfl) (gives_bad rf.mB rf.te) TB hcode hmT hu hr L hdef hbind hbody
theorem ok_setin {C CB f g0 : Addr} {fd : FuncData} {k : Nat} (F : FnP K "_law_set_in" "_law_set_in" s_law_set_in f fd) (nq_C : PySem.W.noSeq K C = true) (O_set : OP.Own K C "__setitem__" g0) (G_set : FnR P w K mg base (L2.CX P w) k g0 (spSet4 P w K C CB)) :
    FnOk P w K mg base (L2.CX P w) (k + 1) f fd ["_law_grid", "_law_at", "_law_worth"] (spSet4 P w K C CB) := by
  refine F.ok sc_law_set_in (fun vs H Q E h => ?_) (fun cdv A outer s H vs Q E hr h => ?_)
  · obtain ⟨g, e, fl, dv, y, v, dd, xs, rfl, _⟩ := h
    rfl
  · obtain ⟨g, e, fl, dv, y, v, dd, xs, rfl, hG, q⟩ := h
    refine ⟨_, pss_one (ps_asg (pv 2) (pg_sub (pv 0) (pv 1) (OP.set_own O_set nq_C G_set (hr.mono (by omega)) (passes_call (takes_of rfl rfl rfl rfl) (fun _ _ _ _ h => h))))), ?_⟩
    obtain ⟨dx, hg⟩ := hG.1
    exact ⟨_, rfl, _, rfl, _, rfl, g, dx, _, rfl, hg, g, e, fl, dv, y, v, dd, xs, rfl, hG, q⟩
end
end K04
set_option Elab.async false
set_option linter.all false
set_option maxRecDepth 100000
set_option maxHeartbeats 2000000
namespace K04
open PySem PySem.Spec PyProof.Rows L2 CM DN GR
section
variable {P : Program} {w : World} {K : PySem.W.Frag} {mg : Str → Option Value} {base : Heap}
/-! ### what stays behind a lambda -/
section
variable {H H' : Hp} {v : V} {C g e : Addr}
theorem ext_tp (s : LamX.ExtN H H') : TP H H' := fun a xs ea => s a _ ea fun _ z => by cases z
theorem ext_same (s : Same H H') : LamX.ExtN H H' := LamX.ExtN.of s
theorem tyx_ext {t : Value} (h : TyX K H v t) (s : LamX.ExtN H H') : TyX K H' v t := by
  cases h with
  | base b =>
    cases b with
    | non => exact .base .non
    | bl y => exact .base (.bl y)
    | int i => exact .base (.int i)
    | str y => exact .base (.str y)
    | flt y => exact .base (.flt y)
    | lst e => exact .base (.lst (s _ _ e fun _ z => by cases z))
    | frz e => exact .base (.frz (s _ _ e fun _ z => by cases z))
    | tup e => exact .base (.tup (s _ _ e fun _ z => by cases z))
    | dK e => exact .base (.dK (s _ _ e fun _ z => by cases z))
    | dT e => exact .base (.dT (s _ _ e fun _ z => by cases z))
    | ins e a b c d f => exact .base (.ins (s _ _ e fun _ z => by cases z) a b c d f)
  | byt y => exact .byt y
  | set e => exact .set (s _ _ e fun _ z => by cases z)
  | kList e c => exact .kList e c
  | kTuple e c => exact .kTuple e c
  | kDict e c => exact .kDict e c
  | fTuple e => exact .fTuple (s _ _ e fun _ z => by cases z)
  | fDict e => exact .fDict (s _ _ e fun _ z => by cases z)
theorem odd_ext (h : Odd K H v) (s : LamX.ExtN H H') : Odd K H' v := by
  rcases h with h | ⟨a, xs, e, h⟩ | ⟨a, kvs, e, h⟩ | ⟨a, C, dx, fs, e, h, k⟩
  · exact .inl h
  · exact .inr (.inl ⟨a, xs, e, s _ _ h fun _ z => by cases z⟩)
  · exact .inr (.inr (.inl ⟨a, kvs, e, s _ _ h fun _ z => by cases z⟩))
  · exact .inr (.inr (.inr ⟨a, C, dx, fs, e, s _ _ h (fun _ z => by cases z), k⟩))
theorem pn_ext (s : LamX.ExtN H H') : ∀ {n : Nat} {v : V} {b : Bool}, PN K H n v b → PN K H' n v b
  | 0, v, b, h => by
    rcases h with h | ⟨h, e⟩ | ⟨a, xs, e, h, hb⟩
    · exact .inl h
    · exact .inr (.inl ⟨odd_ext h s, e⟩)
    · exact .inr (.inr ⟨a, xs, e, s _ _ h (fun _ z => by cases z), hb⟩)
  | n + 1, v, b, h => by
    rcases h with h | ⟨h, e⟩ | ⟨a, xs, e, h, hb⟩
    · exact .inl h
    · exact .inr (.inl ⟨odd_ext h s, e⟩)
    · refine .inr (.inr ⟨a, xs, e, s _ _ h (fun _ z => by cases z), ?_⟩)
      rcases hb with ⟨hb, q⟩ | ⟨hb, i, x, h1, h2, h3⟩
      · exact .inl ⟨hb, fun x hx => pn_ext s (q x hx)⟩
      · exact .inr ⟨hb, i, x, h1, pn_ext s h2, fun j y hj hy => pn_ext s (h3 j y hj hy)⟩
theorem badp_ext {due : V} (h : BadP K H v due) (s : LamX.ExtN H H') : BadP K H' v due := by
  rcases h with ⟨np, e⟩ | ⟨a, x, y, e, h, hx⟩
  · refine .inl ⟨?_, e⟩
    rcases np with ⟨t, ty, k⟩ | ⟨a, xs, e2, h, hl⟩
    · exact .inl ⟨t, tyx_ext ty s, k⟩
    · exact .inr ⟨a, xs, e2, s _ _ h (fun _ z => by cases z), hl⟩
  · refine .inr ⟨a, x, y, e, s _ _ h (fun _ z => by cases z), ?_⟩
    rcases hx with ⟨h1, h2⟩ | ⟨h1, h2, h3⟩
    · exact .inl ⟨pn_ext s h1, h2⟩
    · exact .inr ⟨pn_ext s h1, pn_ext s h2, h3⟩
theorem gd_ext {dv : V} {xs : List Ent} (h : Gd P w C H g dv e xs) (s : LamX.ExtN H H') : Gd P w C H' g dv e xs := by
  obtain ⟨⟨dx, h1⟩, h2⟩ := h
  exact ⟨⟨dx, s _ _ h1 fun _ z => by cases z⟩, h2.mono (s _ _ h2.1 fun _ z => by unfold dn at z; cases z) (ext_tp s)⟩
end
/-- the tables of the law's defs that make lambdas -/
abbrev TT (K : PySem.W.Frag) : List (Addr × Str) := [((He.cT K ("_law_tried", none)).2, ("_law_tried" ++ ".<locals>.") ++ "<lambda>"), ((He.cT K ("_law_right", none)).2, ("_law_right" ++ ".<locals>.") ++ "<lambda>"), ((He.cT K ("_law_deep_right", none)).2, ("_law_deep_right" ++ ".<locals>.") ++ "<lambda>")]
structure Dst (K : PySem.W.Frag) : Prop where
  ab : (He.cT K ("_law_tried", none)).2 ≠ (He.cT K ("_law_right", none)).2
  ac : (He.cT K ("_law_tried", none)).2 ≠ (He.cT K ("_law_deep_right", none)).2
  bc : (He.cT K ("_law_right", none)).2 ≠ (He.cT K ("_law_deep_right", none)).2
theorem tt_a (d : Dst K) : ∀ p ∈ TT K, p.1 = (He.cT K ("_law_tried", none)).2 → p.2 = ("_law_tried" ++ ".<locals>.") ++ "<lambda>" := fun p hp e => by
  simp only [TT, List.mem_cons, List.not_mem_nil, or_false] at hp
  rcases hp with rfl | rfl | rfl
  · rfl
  · exact absurd e.symm d.ab
  · exact absurd e.symm d.ac
theorem tt_b (d : Dst K) : ∀ p ∈ TT K, p.1 = (He.cT K ("_law_right", none)).2 → p.2 = ("_law_right" ++ ".<locals>.") ++ "<lambda>" := fun p hp e => by
  simp only [TT, List.mem_cons, List.not_mem_nil, or_false] at hp
  rcases hp with rfl | rfl | rfl
  · exact absurd e d.ab
  · rfl
  · exact absurd e.symm d.bc
theorem tt_c (d : Dst K) : ∀ p ∈ TT K, p.1 = (He.cT K ("_law_deep_right", none)).2 → p.2 = ("_law_deep_right" ++ ".<locals>.") ++ "<lambda>" := fun p hp e => by
  simp only [TT, List.mem_cons, List.not_mem_nil, or_false] at hp
  rcases hp with rfl | rfl | rfl
  · exact absurd e d.ac
  · exact absurd e d.bc
  · rfl
end
end K04
set_option Elab.async false
set_option linter.all false
set_option maxRecDepth 100000
set_option maxHeartbeats 2000000
namespace K04
open PySem PySem.Spec PyProof.Rows L2 CM DN GR
section
variable {P : Program} {w : World} {K : PySem.W.Frag} {mg : Str → Option Value} {base : Heap}
theorem shw_val {H : Hp} {p : Addr} {a b : Str} (h : H p = some (.tup [.str a, .str b])) : RZ.Shw H (.ref p) (.tuple [.str a, .str b]) := .tup h (.cons (.str _) (.cons (.str _) .nil))
theorem dep_val {a b : Str} : (PyData.tuple [.str a, .str b]).depth ≤ 40 := by simp [PyData.depth, PyData.depthAll]
/-- setting, reading are refused with one thing -/
def spTried (P : Program) (w : World) (K : PySem.W.Frag) (C : Addr) : Sp := fun vs H Q _ => ∃ (g e : Addr) (fl : Bool) (dv at_ worth due : V) (dd : PyData) (xs : List Ent) (D : PyData), vs = [.ref g, at_, worth, due] ∧ Gd P w C H g dv e xs ∧ Wr H fl dv dd ∧ xs.length < 1000 ∧ BadP K H at_ due ∧ SY.SayD H due D ∧ Shown D ∧ LamX.Tabs (TT K) H ∧
  ∀ H', LamX.ExtN H H' → LamX.Tabs (TT K) H' → Q (.bl true) H'
theorem ok_tried {C CB g1 : Addr} {fd : FuncData} {k : Nat} (F : FnP K "_law_tried" "_law_tried" s_law_tried (He.fAd K ("_law_tried", none)) fd) (TB : LamX.TabB base mg (He.cT K ("_law_tried", none)).1 (He.cT K ("_law_tried", none)).2) (ds : Dst K)
    (R : Tells K mg "_law_refused" s_law_refused) (rf : RefF K mg CB) (O_get : OP.Own K C "__getitem__" g1) (G_get : FnR P w K mg base (L2.CX P w) k g1 (spGet4 P w K C CB)) (C_set : Cal P w K mg base (L2.CX P w) "_law_set_in" k ["_law_grid", "_law_at", "_law_worth"] (spSet4 P w K C CB)) :
    GD.FnG P w K mg base CX0 (k + 5) (He.fAd K ("_law_tried", none)) fd ["_law_grid", "_law_at", "_law_worth", "_law_due"] (spTried P w K C) := by
  obtain ⟨f_law_set_in, fd_law_set_in, G_law_set_in, b_law_set_in, m_law_set_in, k_law_set_in⟩ := C_set
  have m_repr := rf.mR
  refine SY.okCG F sc_law_tried (fun vs H Q E h => ?_) (fun A outer s H vs Q E hr gd h => ?_)
  · obtain ⟨g, e, fl, dv, at_, worth, due, dd, xs, D, rfl, _⟩ := h
    rfl
  · obtain ⟨g, e, fl, dv, at_, worth, due, dd, xs, D, rfl, hG, wd, hz, bad, say, shn, hT, q⟩ := h
    have hu : (A.deeper (envOfC "_law_tried" (defScope s_law_tried) s.heap.objs.size (He.fAd K ("_law_tried", none)) (.ref (He.codeOf K ("_law_tried", none))))).units + 90 < cLine := by
      have := hr.un
      omega
    have hq := tt_a ds
    refine ⟨_, PSs.nox (pss_cons (ps_set (i := 4) sc_law_tried.nd rfl (.inl rfl) (pe_ref (k := k + 1) R rf TB rfl (List.mem_of_getElem? (i := 0) rfl) hq (hr.mono (by omega)) gd (by rfl) (LamX.lamS_by (sc := defScope s_law_tried) (by decide +kernel)) rfl (fun _ _ _ _ _ => rfl) (fun A outer s H E f c' hr => pe_call G_law_set_in (hr.mono (by omega)) (by rfl) m_law_set_in k_law_set_in b_law_set_in .nil (passes_call (takes_of rfl rfl rfl rfl) (fun _ _ _ _ h => h)) (pa_cons (pv 0) (pa_cons (pv 1) (pa_cons (pv 2) pa_nil))))))
    (pss_one (ps_ret (pe_and (pe_cmpR (DN.op_eqD hr.units) (pv 4) (pe_tup (pa_cons pe_str (pa_cons (pe_callB (SY.call_reprE rf.hy gd hu) (by rfl) m_repr (by decide +kernel) (pa_cons (pv 3) pa_nil)) pa_nil))) (nomark _)) (pe_one (pe_cmpR (DN.op_eqD hr.units) (pe_ref (k := k + 1) R rf TB rfl (List.mem_of_getElem? (i := 0) rfl) hq (hr.mono (by omega)) gd (by rfl) (LamX.lamS_by (sc := defScope s_law_tried) (by decide +kernel)) rfl (fun _ _ _ _ _ => rfl) (fun A outer s H E f c' hr => OP.pe_ixO O_get G_get (hr.mono (by omega)) (passes_call (takes_of rfl rfl rfl rfl) (fun _ _ _ _ h => h)) (pv 0) (pv 1))) (pv 4) (nomark _))))))), ?_⟩
    refine ⟨hT, fun H1 e1 t1 => ?_⟩
    intro E1 Q1 hE
    refine ⟨_, rfl, _, rfl, _, rfl, g, e, fl, dv, at_, worth, dd, xs, rfl, gd_ext hG e1, wd.same (ext_tp e1), hz, .inl ⟨due, badp_ext bad e1, fun d H2 nd s2 hd => ?_⟩⟩
    refine hE d H2 due D hd ((say.stay e1).stay (ext_same s2)) shn fun p np => ?_
    have s3 := same_upd (o := .tup [.str "value", .str D.shown]) np
    have e3 : LamX.ExtN H (upd H2 p (.tup [.str "value", .str D.shown])) := e1.trans (ext_same (s2.trans s3))
    have t3 := LamX.Tabs.ext t1 (s2.trans s3)
    have hp := upd_same (H := H2) (a := p) (o := .tup [.str "value", .str D.shown])
    generalize upd H2 p (.tup [.str "value", .str D.shown]) = H3 at e3 t3 hp
    clear hE s3 hd nd s2 e1 t1
    refine ⟨_, rfl, _, rfl, due, D, rfl, say.stay e3, shn.1, shn.2.1, shn.2.2, by show 2 ≤ sizeLine; decide, fun p2 np2 => ?_⟩
    have s4 := same_upd (o := .tup [.str "value", .str D.shown]) np2
    refine ⟨_, _, shw_val (s4 _ _ hp), shw_val upd_same, dep_val, ?_⟩
    rw [eqv_self (shw_val (s4 _ _ hp))]
    have e4 := e3.trans (ext_same s4)
    have t4 := LamX.Tabs.ext t3 s4
    have hp := s4 _ _ hp
    generalize upd H3 p2 (.tup [.str "value", .str D.shown]) = H4 at e4 t4 hp
    refine ⟨true, rfl, iteT ⟨t4, fun H5 e5 t5 => ?_⟩⟩
    intro E2 Q2 hE
    have e6 := e4.trans e5
    have hG6 := gd_ext hG e6
    obtain ⟨dx, hg⟩ := hG6.1
    refine ⟨_, rfl, _, rfl, g, dx, _, rfl, hg, g, e, at_, dv, xs, rfl, hG6, .inr ⟨due, badp_ext bad e6, fun d H6 nd s6 hd => ?_⟩⟩
    refine hE d H6 due D hd ((say.stay e6).stay (ext_same s6)) shn fun p7 np7 => ?_
    have s7 := same_upd (o := .tup [.str "value", .str D.shown]) np7
    have hp7 := s7 _ _ (s6 _ _ (e5 _ _ hp fun _ z => by cases z))
    refine ⟨_, rfl, _, _, shw_val upd_same, shw_val hp7, dep_val, ?_⟩
    rw [eqv_self (shw_val hp7)]
    exact q _ (e6.trans (ext_same (s6.trans s7))) (LamX.Tabs.ext t5 (s6.trans s7))
end
end K04
set_option Elab.async false
set_option linter.all false
set_option maxRecDepth 100000
set_option maxHeartbeats 2000000
namespace K04
open PySem PySem.Spec PyProof.Rows L2 CM DN GR
section
variable {P : Program} {w : World} {K : PySem.W.Frag} {mg : Str → Option Value} {base : Heap}
/-! ### the well apart; what is odd -/
section
variable {H H' : Hp} {p a : Addr} {o : HO} {v : V} {D : PyData}
theorem del_put : del (upd H p o) p = del H p := by
  funext b
  by_cases e : b = p
  · rw [e, del_same, del_same]
  · rw [del_ne e, del_ne e, upd_ne e]
theorem del_sub : Same (del H p) H := fun b u e => by
  by_cases q : b = p
  · rw [q, del_same] at e
    cases e
  · rw [del_ne q] at e
    exact e
theorem ext_del (s : LamX.ExtN H H') : LamX.ExtN (del H p) (del H' p) := fun b u e n => by
  by_cases q : b = p
  · rw [q, del_same] at e
    cases e
  · rw [del_ne q] at e ⊢
    exact s b u e n
theorem same_del (s : Same H H') : Same (del H p) (del H' p) := fun b u e => by
  by_cases q : b = p
  · rw [q, del_same] at e
    cases e
  · rw [del_ne q] at e ⊢
    exact s b u e
theorem del_at {u : HO} (e : H a = some u) (n : a ≠ p) : del H p a = some u := by
  rw [del_ne n]
  exact e
theorem tabs_del {T : List (Addr × Str)} {ys : List V} (t : LamX.Tabs T H) (h : H p = some (.lst ys)) : LamX.Tabs T (del H p) := fun q hq => by
  obtain ⟨ps, h1, h2, h3⟩ := t q hq
  refine ⟨ps, del_at h1 (fun z => by rw [z, h] at h1; cases h1), h2, fun pos cv hc => ?_⟩
  obtain ⟨c, e1, e2⟩ := h3 pos cv hc
  exact ⟨c, e1, del_at e2 (fun z => by rw [z, h] at e2; unfold LamX.CodeO at e2; cases e2)⟩
theorem tabs_sub {T : List (Addr × Str)} (t : LamX.Tabs T (del H p)) : LamX.Tabs T H := LamX.Tabs.ext t del_sub
def shB (D : PyData) : Bool := D.showable && (decide (D.depth ≤ 80) && decide (D.shown.length ≤ sizeLine))
theorem sh_of (h : shB D = true) : Shown D := by
  unfold shB at h
  simp only [Bool.and_eq_true, decide_eq_true_eq] at h
  exact h
structure Bad (K : PySem.W.Frag) (H : Hp) (v : V) (D : PyData) : Prop where
  pn : PN K H 4 v false
  say : SY.SayD H v D
  shn : Shown D
theorem Bad.ext (h : Bad K H v D) (s : LamX.ExtN H H') : Bad K H' v D := ⟨pn_ext s h.pn, h.say.stay s, h.shn⟩
structure NoT (K : PySem.W.Frag) (H : Hp) (v : V) (D : PyData) : Prop where
  np : NoPair K H v
  say : SY.SayD H v D
  shn : Shown D
theorem NoT.ext (h : NoT K H v D) (s : LamX.ExtN H H') : NoT K H' v D := by
  refine ⟨?_, h.say.stay s, h.shn⟩
  rcases h.np with ⟨t, ty, k⟩ | ⟨a, xs, e2, h, hl⟩
  · exact .inl ⟨t, tyx_ext ty s, k⟩
  · exact .inr ⟨a, xs, e2, s _ _ h (fun _ z => by cases z), hl⟩
end
end
end K04
set_option Elab.async false
set_option linter.all false
set_option maxRecDepth 100000
set_option maxHeartbeats 2000000
namespace K04
open PySem PySem.Spec PyProof.Rows L2 CM DN GR
section
variable {P : Program} {w : World} {K : PySem.W.Frag} {mg : Str → Option Value} {base : Heap}
theorem init4_new {C CF CB x dx : Addr} {H : Hp} {fl : Bool} {v : V} {d : PyData} {Q : Hp → Prop} {E : XK} (hx : H x = none) (hdx : H dx = none) (wr : Wr H fl v d) (q : ∀ (H' : Hp) (e : Addr), Same H H' → H e = none → e ≠ x → Gd P w C H' x v e [] → Q H') :
    spInit4 P w K C CF CB [.ref x, v] (upd (upd H dx (.own x)) x (.ins C dx [])) (fun u H2 => u = .non ∧ Q H2) E := by
  have sm : Same H (upd (upd H dx (.own x)) x (.ins C dx [])) := fun b o eb => by
    rw [upd_ne (ne_of_none eb hx), upd_ne (ne_of_none eb hdx)]
    exact eb
  refine ⟨x, dx, v, rfl, upd_same, .inl ⟨fl, d, wr.same (same_tup sm), fun H' e He ne keep gd => ⟨rfl, q H' e (fun b o eb => keep b o (ne_of_none eb hx) (sm b o eb)) ?_ ne gd⟩⟩⟩
  cases hh : H e with
  | none => rfl
  | some o =>
    have := sm e o hh
    rw [He] at this
    cases this
theorem del_new {H : Hp} {p a : Addr} {o u : HO} (hp : H p = some u) (na : H a = none) : Same (del H p) (del (upd H a o) p) ∧ del (upd H a o) p a = some o ∧ upd H a o p = some u := by
  have n : a ≠ p := Ne.symm (ne_of_none hp na)
  refine ⟨same_del (same_upd na), del_at upd_same n, ?_⟩
  rw [upd_ne (Ne.symm n)]
  exact hp
theorem pn_snd {H : Hp} {a : Addr} {x y : V} {n : Nat} (h : H a = some (.tup [x, y])) (h1 : PN K H n x true) (h2 : PN K H n y false) : PN K H (n + 1) (.ref a) false :=
  .inr (.inr ⟨a, _, rfl, h, .inr ⟨rfl, 1, y, rfl, h2, fun j z hj hz => by
    obtain rfl : j = 0 := by omega
    cases hz
    exact h1⟩⟩)
theorem pn_fst {H : Hp} {a : Addr} {x : V} {r : List V} {n : Nat} (h : H a = some (.tup (x :: r))) (h1 : PN K H n x false) : PN K H (n + 1) (.ref a) false :=
  .inr (.inr ⟨a, _, rfl, h, .inr ⟨rfl, 0, x, rfl, h1, fun j z hj hz => absurd hj (Nat.not_lt_zero _)⟩⟩)
/-- a pair that is no place, and why -/
structure Pb (K : PySem.W.Frag) (H : Hp) (b : Addr) (due : V) (D : PyData) : Prop where
  ex : ∃ x y, H b = some (.tup [x, y]) ∧ ((PN K H 4 x false ∧ due = x) ∨ (PN K H 4 x true ∧ PN K H 4 y false ∧ due = y))
  say : SY.SayD H due D
  shn : Shown D
theorem Pb.ext {H H' : Hp} {b : Addr} {due : V} {D : PyData} (h : Pb K H b due D) (s : LamX.ExtN H H') : Pb K H' b due D := by
  obtain ⟨⟨x, y, hb, hx⟩, say, shn⟩ := h
  refine ⟨⟨x, y, s _ _ hb (fun _ z => by cases z), ?_⟩, say.stay s, shn⟩
  rcases hx with ⟨h1, h2⟩ | ⟨h1, h2, h3⟩
  · exact .inl ⟨pn_ext s h1, h2⟩
  · exact .inr ⟨pn_ext s h1, pn_ext s h2, h3⟩
theorem Pb.bad {H : Hp} {b : Addr} {due : V} {D : PyData} (h : Pb K H b due D) : BadP K H (.ref b) due := let ⟨x, y, hb, hx⟩ := h.ex; .inr ⟨b, x, y, rfl, hb, hx⟩
/-- what is refused is told with the due text -/
theorem test_ref {CB : Addr} {te : TE} {T : XK → TE} {σ : L2.St} {H : Hp} {k : Bool → Hp → Prop} {D : PyData} (hT : LamX.Tabs (TT K) H) (sh : Shown D)
    (hbody : ∀ H1, LamX.ExtN H H1 → ∀ (E : XK) (Q : VK), (∀ (d : Addr) (H' : Hp) (v : V), Same H1 H' → H' d = some (.xd [("value", v)]) → SY.SayD H' v D → E (.ref CB) (some d) H') → T E σ H1 Q)
    (hte : ∀ H1 (Q : VK), LamX.ExtN H H1 → (∀ H2 v, Same H1 H2 → SY.SayD H2 v D → Q v H2) → te σ H1 Q)
    (hk : ∀ H', LamX.ExtN H H' → LamX.Tabs (TT K) H' → k false H') :
    tTest (tOp (DN.rEqD true) (LamX.tLam (TT K) (TTref CB) T) (tTup (tCons (tC (V.str "value")) (tCons (tCB SY.rReprE (tCons te tNil)) tNil)))) σ H k := by
  refine ⟨hT, fun H1 e1 t1 => ?_⟩
  intro E1 Q1 hE
  refine hbody H1 e1 E1 Q1 fun d H2 v s2 hd say => hE d H2 v D hd say sh fun p np => ?_
  have s3 := same_upd (o := .tup [.str "value", .str D.shown]) np
  have hp := upd_same (H := H2) (a := p) (o := .tup [.str "value", .str D.shown])
  have s3' := s2.trans s3
  generalize upd H2 p (.tup [.str "value", .str D.shown]) = H3 at s3' hp
  refine hte H3 _ (e1.trans (ext_same s3')) fun H4 v4 s4 say4 => ?_
  refine ⟨v4, D, rfl, say4, sh.1, sh.2.1, sh.2.2, by show 2 ≤ sizeLine; decide, fun p2 np2 => ?_⟩
  have s5 := same_upd (o := .tup [.str "value", .str D.shown]) np2
  refine ⟨_, _, shw_val (s5 _ _ (s4 _ _ hp)), shw_val upd_same, dep_val, ?_⟩
  rw [eqv_self (shw_val (s5 _ _ (s4 _ _ hp)))]
  exact ⟨false, rfl, hk _ (e1.trans (ext_same (s3'.trans (s4.trans s5)))) (LamX.Tabs.ext t1 (s3'.trans (s4.trans s5)))⟩
theorem wrong_ok {σ : L2.St} {H : Hp} {Q : VK} {fl : Bool} (hσ : σ[1]? = some (some (.bl fl))) (hq : ∀ H3 a v0 v1, Same H H3 → H3 a = some (.lst [v0, v1]) → Q (.ref a) H3) :
    tIf (tB (tVar 1)) (tLst (tCons (tLst tNil) (tCons (tC V.non) tNil))) (tLst (tCons (tC (V.bl true)) (tCons (tLst (tCons (tC (V.int 1)) tNil)) tNil))) σ H Q := by
  refine ⟨_, hσ, fl, rfl, ?_⟩
  cases fl with
  | true => exact iteT ⟨by show 0 ≤ sizeLine; decide, fun a na => ⟨by show 2 ≤ sizeLine; decide, fun l nl => hq _ l _ _ ((same_upd na).trans (same_upd nl)) upd_same⟩⟩
  | false => exact iteF ⟨by show 1 ≤ sizeLine; decide, fun a na => ⟨by show 2 ≤ sizeLine; decide, fun l nl => hq _ l _ _ ((same_upd na).trans (same_upd nl)) upd_same⟩⟩
theorem BadW.ext {H H' : Hp} {fl : Bool} {v : V} (h : BadW K H fl v) (s : LamX.ExtN H H') : BadW K H' fl v := by
  cases fl with
  | true =>
    obtain ⟨t, ty, k⟩ := (show ∃ t, TyX K H v t ∧ PySem.W.kitOne K t (.type "bool") = some false from h)
    exact ⟨t, tyx_ext ty s, k⟩
  | false => exact pn_ext s (show PN K H 4 v false from h)
theorem bad_ok {σ : L2.St} {H : Hp} {Q : VK} {fl : Bool} {p : Addr} {x u : Int} (h0 : σ[0]? = some (some (.ref p))) (hσ : σ[1]? = some (some (.bl fl))) (hp : H p = some (.lst [.int x, .int u]))
    (hq : ∀ (H2 : Hp) (x u : Int) (bad : V) (D : PyData), Same H H2 → BadW K (del H2 p) fl bad → SY.SayD (del H2 p) bad D → Shown D → Shown (.list [D]) → Q bad (upd H2 p (.lst [.int x, .int u]))) :
    tCall (spOne K) [] E0 (tCons (tVar 0) (tCons (tIf (tB (tVar 1)) (tLst (tCons (tC (V.int 0)) (tCons (tC (V.int 1)) (tCons (tC V.non) (tCons (tC (V.str "True")) (tCons (tLst (tCons (tC (V.bl true)) tNil)) (tCons (tTup (tCons (tC (V.bl true)) tNil)) tNil)))))))
      (tLst (tCons (tC (V.bl true)) (tCons (tC (V.bl false)) (tCons (tLst (tCons (tC (V.int 0)) tNil)) (tCons tDNewK (tCons (tTup (tCons (tC (V.int 1)) (tCons (tC (V.bl false)) tNil))) tNil))))))) tNil)) σ H Q := by
  refine ⟨_, h0, _, hσ, fl, rfl, ?_⟩
  cases fl with
  | true =>
    refine iteT ⟨by show 1 ≤ sizeLine; decide, fun a1 n1 => ⟨by show 1 ≤ sizeLine; decide, fun a2 n2 => ⟨by show 6 ≤ sizeLine; decide, fun l nl => ?_⟩⟩⟩
    obtain ⟨y1, h1, hp⟩ := del_new (o := .lst [V.bl true]) hp n1
    obtain ⟨y2, h2, hp⟩ := del_new (o := .tup [V.bl true]) hp n2
    have np : p ≠ l := ne_of_none hp nl
    obtain ⟨y3, h3, hp⟩ := del_new (o := .lst [V.int 0, V.int 1, V.non, V.str "True", V.ref a1, V.ref a2]) hp nl
    have h1 := (y2.trans y3) _ _ h1
    have h2 := y3 _ _ h2
    refine ⟨p, l, _, _, _, rfl, hp, .inl (.inl (del_sub _ _ h3)), fun x' c' => .inl (.inl (by rw [upd_ne (Ne.symm np)]; exact del_sub _ _ h3)), (by show 0 < 6; decide), (by show 6 ≤ 1000; decide), fun bad x6 u6 hb => ?_⟩
    obtain ⟨D, q1, q2, q3, q4⟩ : ∃ D, BadW K (del (upd (upd (upd H a1 (.lst [V.bl true])) a2 (.tup [V.bl true])) l (.lst [V.int 0, V.int 1, V.non, V.str "True", V.ref a1, V.ref a2])) p) true bad ∧ SY.SayD (del (upd (upd (upd H a1 (.lst [V.bl true])) a2 (.tup [V.bl true])) l (.lst [V.int 0, V.int 1, V.non, V.str "True", V.ref a1, V.ref a2])) p) bad D ∧ Shown D ∧ Shown (.list [D]) := by
      simp only [List.mem_cons, List.not_mem_nil, or_false] at hb
      rcases hb with rfl | rfl | rfl | rfl | rfl | rfl
      · exact ⟨_, ⟨_, .base (.int _), kit_bb (by decide +kernel)⟩, .int _, sh_of (by decide +kernel), sh_of (by decide +kernel)⟩
      · exact ⟨_, ⟨_, .base (.int _), kit_bb (by decide +kernel)⟩, .int _, sh_of (by decide +kernel), sh_of (by decide +kernel)⟩
      · exact ⟨_, ⟨_, .base .non, kit_bb (by decide +kernel)⟩, .non, sh_of (by decide +kernel), sh_of (by decide +kernel)⟩
      · exact ⟨_, ⟨_, .base (.str _), kit_bb (by decide +kernel)⟩, .str _, sh_of (by decide +kernel), sh_of (by decide +kernel)⟩
      · exact ⟨_, ⟨_, .base (.lst h1), kit_bb (by decide +kernel)⟩, .lst h1 (.cons (.bl _) .nil), sh_of (by decide +kernel), sh_of (by decide +kernel)⟩
      · exact ⟨_, ⟨_, .base (.tup h2), kit_bb (by decide +kernel)⟩, .tup h2 (.cons (.bl _) .nil), sh_of (by decide +kernel), sh_of (by decide +kernel)⟩
    exact hq _ _ _ _ D ((same_upd n1).trans ((same_upd n2).trans (same_upd nl))) q1 q2 q3 q4
  | false =>
    refine iteF ⟨by show 1 ≤ sizeLine; decide, fun a1 n1 => fun a2 n2 => ⟨by show 2 ≤ sizeLine; decide, fun a3 n3 => ⟨by show 5 ≤ sizeLine; decide, fun l nl => ?_⟩⟩⟩
    obtain ⟨y1, h1, hp⟩ := del_new (o := .lst [V.int 0]) hp n1
    obtain ⟨y2, h2, hp⟩ := del_new (o := .dK []) hp n2
    obtain ⟨y3, h3, hp⟩ := del_new (o := .tup [V.int 1, V.bl false]) hp n3
    have np : p ≠ l := ne_of_none hp nl
    obtain ⟨y4, h4, hp⟩ := del_new (o := .lst [V.bl true, V.bl false, V.ref a1, V.ref a2, V.ref a3]) hp nl
    have h1 := (y2.trans (y3.trans y4)) _ _ h1
    have h2 := (y3.trans y4) _ _ h2
    have h3 := y4 _ _ h3
    refine ⟨p, l, _, _, _, rfl, hp, .inl (.inl (del_sub _ _ h4)), fun x' c' => .inl (.inl (by rw [upd_ne (Ne.symm np)]; exact del_sub _ _ h4)), (by show 0 < 5; decide), (by show 5 ≤ 1000; decide), fun bad x6 u6 hb => ?_⟩
    have yy := (same_upd (o := .lst [V.int 0]) n1).trans ((same_upd (o := .dK []) n2).trans ((same_upd (o := .tup [V.int 1, V.bl false]) n3).trans (same_upd (o := .lst [V.bl true, V.bl false, V.ref a1, V.ref a2, V.ref a3]) nl)))
    generalize upd (upd (upd (upd H a1 (.lst [V.int 0])) a2 (.dK [])) a3 (.tup [V.int 1, V.bl false])) l (.lst [V.bl true, V.bl false, V.ref a1, V.ref a2, V.ref a3]) = H2 at h1 h2 h3 yy
    obtain ⟨D, q1, q2, q3, q4⟩ : ∃ D, PN K (del H2 p) 4 bad false ∧ SY.SayD (del H2 p) bad D ∧ Shown D ∧ Shown (.list [D]) := by
      simp only [List.mem_cons, List.not_mem_nil, or_false] at hb
      rcases hb with rfl | rfl | rfl | rfl | rfl
      · exact ⟨_, PN.odd (.inl ⟨_, rfl⟩) 4, .bl _, sh_of (by decide +kernel), sh_of (by decide +kernel)⟩
      · exact ⟨_, PN.odd (.inl ⟨_, rfl⟩) 4, .bl _, sh_of (by decide +kernel), sh_of (by decide +kernel)⟩
      · exact ⟨_, PN.odd (.inr (.inl ⟨_, _, rfl, h1⟩)) 4, .lst h1 (.cons (.int _) .nil), sh_of (by decide +kernel), sh_of (by decide +kernel)⟩
      · exact ⟨_, PN.odd (.inr (.inr (.inl ⟨_, _, rfl, h2⟩))) 4, .dct h2 .nil, sh_of (by decide +kernel), sh_of (by decide +kernel)⟩
      · exact ⟨_, pn_snd h3 (PN.leaf rfl 3) (PN.odd (.inl ⟨_, rfl⟩) 3), .tup h3 (.cons (.int _) (.cons (.bl _) .nil)), sh_of (by decide +kernel), sh_of (by decide +kernel)⟩
    exact hq _ _ _ _ D yy q1 q2 q3 q4
def spRight (K : PySem.W.Frag) : Sp := fun vs H Q _ => ∃ (p : Addr) (x u : Int), vs = [.ref p] ∧ H p = some (.lst [.int x, .int u]) ∧ LamX.Tabs (TT K) H ∧ ∀ H', LamX.ExtN (del H p) (del H' p) → LamX.Tabs (TT K) H' → Q (.bl true) H'
/-- what stands behind the beginning -/
structure Sg (P : Program) (w : World) (K : PySem.W.Frag) (C p : Addr) (fl : Bool) (g e : Addr) (dv : V) (dd : PyData) (xs : List Ent) (H : Hp) : Prop where
  wl : ∃ x u : Int, H p = some (.lst [.int x, .int u])
  gd : Gd P w C (del H p) g dv e xs
  wd : Wr (del H p) fl dv dd
  tb : LamX.Tabs (TT K) H
theorem Sg.put {C p g e : Addr} {fl : Bool} {dv : V} {dd : PyData} {xs : List Ent} {H : Hp} {x u : Int} (h : Sg P w K C p fl g e dv dd xs H) : Sg P w K C p fl g e dv dd xs (upd H p (.lst [.int x, .int u])) := by
  obtain ⟨_, _, hp⟩ := h.wl
  refine ⟨⟨x, u, upd_same⟩, by rw [del_put]; exact h.gd, by rw [del_put]; exact h.wd, ?_⟩
  have t := tabs_del h.tb hp
  rw [← del_put (o := .lst [.int x, .int u])] at t
  exact tabs_sub t
theorem Sg.ext {C p g e : Addr} {fl : Bool} {dv : V} {dd : PyData} {xs : List Ent} {H H' : Hp} (h : Sg P w K C p fl g e dv dd xs H) (s : LamX.ExtN H H') (t : LamX.Tabs (TT K) H') : Sg P w K C p fl g e dv dd xs H' := by
  obtain ⟨x, u, hp⟩ := h.wl
  exact ⟨⟨x, u, s _ _ hp fun _ z => by cases z⟩, gd_ext h.gd (ext_del s), h.wd.same (ext_tp (ext_del s)), t⟩
theorem Sg.same {C p g e : Addr} {fl : Bool} {dv : V} {dd : PyData} {xs : List Ent} {H H' : Hp} (h : Sg P w K C p fl g e dv dd xs H) (s : Same H H') : Sg P w K C p fl g e dv dd xs H' := h.ext (ext_same s) (LamX.Tabs.ext h.tb s)
theorem ok_right {C CF CB fG g0 g1 g2 : Addr} {fd fdG : FuncData} {k : Nat} {gg : List Value → List Value → List Value} {gV : List V → List V → List V} (F : FnP K "_law_right" "_law_right" s_law_right (He.fAd K ("_law_right", none)) fd) (TB : LamX.TabB base mg (He.cT K ("_law_right", none)).1 (He.cT K ("_law_right", none)).2) (ds : Dst K)
    (R : Tells K mg "_law_refused" s_law_refused) (rf : RefF K mg CB) (m_G : mg "Grid" = some (.ref C)) (M_G : Mk K C fG) (cl_C : Cls K C) (kL : ∀ T ∈ ["list", "tuple"], PySem.W.kitOne K (.type T) (.ref CF) = some false)
    (G_G : FnOk P w K mg base (L2.CX P w) k fG fdG ["self", "default"] (spInit4 P w K C CF CB)) (b_G : Binds K fdG ["self", "default"] []) (kb_G : KBn K fdG ["self", "default"] 1 ["default"] gg gV) (hgV : gV = fun us ws => us ++ ws) (nq_C : PySem.W.noSeq K C = true)
    (O_set : OP.Own K C "__setitem__" g0) (G_set : FnR P w K mg base (L2.CX P w) k g0 (spSet4 P w K C CB)) (O_get : OP.Own K C "__getitem__" g1) (G_get : FnR P w K mg base (L2.CX P w) k g1 (spGet4 P w K C CB)) (O_call : StX.CallO K C g2) (G_callR : FnR P w K mg base (L2.CX P w) k g2 (spCall4 P w K C CB))
    (C_draw : Cal P w K mg base CX0 "_law_draw" k ["_law_well_here", "_law_many"] spDraw) (C_one : Cal P w K mg base CX0 "_law_one" k ["_law_well_here", "_law_some"] (spOne K)) (C_set : Cal P w K mg base (L2.CX P w) "_law_set_in" k ["_law_grid", "_law_at", "_law_worth"] (spSet4 P w K C CB))
    (C_tried : GD.CalG P w K mg base CX0 "_law_tried" (k + 5) ["_law_grid", "_law_at", "_law_worth", "_law_due"] (spTried P w K C)) (C_places : CalM P w K mg base CX0 C "places" k ["self"] (spPlaces P w C)) :
    GD.FnG P w K mg base CX0 (k + 6) (He.fAd K ("_law_right", none)) fd ["_law_well_here"] (spRight K) := by
  obtain ⟨f_law_draw, fd_law_draw, G_law_draw, b_law_draw, m_law_draw, k_law_draw⟩ := C_draw
  obtain ⟨f_law_one, fd_law_one, G_law_one, b_law_one, m_law_one, k_law_one⟩ := C_one
  obtain ⟨f_law_set_in, fd_law_set_in, G_law_set_in, b_law_set_in, m_law_set_in, k_law_set_in⟩ := C_set
  obtain ⟨f_law_tried, fd_law_tried, G_law_tried, b_law_tried, m_law_tried, k_law_tried⟩ := C_tried
  obtain ⟨f_places, fd_places, G_places, b_places, me_places⟩ := C_places
  have m_repr := rf.mR
  refine SY.okCG F sc_law_right (fun vs H Q E h => ?_) (fun A outer s H vs Q E hr gd h => ?_)
  · obtain ⟨p, x, u, rfl, _⟩ := h
    rfl
  · obtain ⟨p, x, u, rfl, hp, hT, q⟩ := h
    have hu : (A.deeper (envOfC "_law_right" (defScope s_law_right) s.heap.objs.size (He.fAd K ("_law_right", none)) (.ref (He.codeOf K ("_law_right", none))))).units + 90 < cLine := by
      have := hr.un
      omega
    have hq := tt_b ds
    refine ⟨_, PSs.nox (pss_cons (ps_set (i := 1) sc_law_right.nd rfl (.inl rfl) (pe_cmpR op_eq (pe_call G_law_draw (hr.mono (by omega)) (by rfl) m_law_draw k_law_draw b_law_draw .nil pass0 (pa_cons (pv 0) (pa_cons pe_int pa_nil))) pe_int (nomark _)))
    (Evl.pss_cut (ps_asg (pe_tup (pa_cons (pe_make M_G G_G (hr.mono (by omega)) (by rfl) m_G b_G .nil passF (pa_cons (pe_ifExp (pt_val (pv 1)) pe_bl pe_non) pa_nil)) (pa_cons (pe_ifExp (pt_val (pv 1)) pe_bl pe_int) pa_nil))) (pg_tup rfl (pgs_cons (pg_name (i := 9) sc_law_right.nd rfl (.inr rfl)) (pgs_cons (pg_name (i := 2) sc_law_right.nd rfl (.inl rfl)) (pgs_nil)))))
    (pss_cons (ps_asg (pv 2) (pg_sub (pv 9) (pe_tup (pa_cons pe_str (pa_cons pe_int pa_nil))) (OP.set_own O_set nq_C G_set (hr.mono (by omega)) passF)))
    (pss_cons (ps_set (i := 3) sc_law_right.nd rfl (.inl rfl) (pe_call G_law_one (hr.mono (by omega)) (by rfl) m_law_one k_law_one b_law_one .nil pass0 (pa_cons (pv 0) (pa_cons (pe_lst (pa_cons pe_bl (pa_cons (pe_lst (pa_cons pe_int pa_nil)) (pa_cons pe_dnewK (pa_cons (pe_tup (pa_cons pe_int (pa_cons (pe_lst (pa_cons pe_int pa_nil)) pa_nil))) (pa_cons (pe_lst (pa_cons pe_int (pa_cons pe_int pa_nil))) pa_nil)))))) pa_nil))))
    (pss_cons (ps_set (i := 4) sc_law_right.nd rfl (.inl rfl) (pe_call G_law_one (hr.mono (by omega)) (by rfl) m_law_one k_law_one b_law_one .nil pass0 (pa_cons (pv 0) (pa_cons (pe_lst (pa_cons pe_bl (pa_cons (pe_lst (pa_nil)) (pa_cons (pe_tup (pa_cons pe_str (pa_cons pe_bl pa_nil))) (pa_cons (pe_disp (pps_cons pe_str pe_int (pps_nil)) rfl rfl (by decide) (by decide)) pa_nil))))) pa_nil))))
    (pss_cons (ps_for PassesOwn.never rfl (pi_list (pe_lst (pa_cons (pe_tup (pa_cons (pe_tup (pa_cons (pv 3) (pa_cons pe_int pa_nil))) (pa_cons (pv 3) pa_nil))) (pa_cons (pe_tup (pa_cons (pe_tup (pa_cons pe_int (pa_cons (pv 4) pa_nil))) (pa_cons (pv 4) pa_nil))) (pa_cons (pe_tup (pa_cons (pe_tup (pa_cons (pv 3) (pa_cons (pv 4) pa_nil))) (pa_cons (pv 3) pa_nil))) pa_nil))))) (pg_tup rfl (pgs_cons (pg_name (i := 7) sc_law_right.nd rfl (.inr rfl)) (pgs_cons (pg_name (i := 5) sc_law_right.nd rfl (.inl rfl)) (pgs_nil))))
      (pss_cons (ps_if (PW.pt (pw_or (pt_not (pt_val (GD.pe_callG G_law_tried (hr.mono (by omega)) gd (by rfl) m_law_tried k_law_tried b_law_tried .nil pass0 (pa_cons (pv 9) (pa_cons (pv 7) (pa_cons (pv 2) (pa_cons (pv 5) pa_nil))))))) (pw_or1 (pt_cmpR (DN.op_neD hr.units) (pe_ref (k := k + 1) R rf TB rfl (List.mem_of_getElem? (i := 1) rfl) hq (hr.mono (by omega)) gd (by rfl) (LamX.lamS_by (sc := defScope s_law_right) (by decide +kernel)) rfl (fun _ _ _ _ _ => rfl) (fun A outer s H E f c' hr => CPL.pe_callP (pv 9) O_call G_callR (hr.mono (by omega)) (passes_call (takes_of rfl rfl rfl rfl) (fun _ _ _ _ h => h)) (pa_cons (pe_ix ix_tupK (pv 7) pe_int (fun _ _ => rfl)) (pa_cons (pe_ix ix_tupK (pv 7) pe_int (fun _ _ => rfl)) pa_nil)))) (pe_tup (pa_cons pe_str (pa_cons (pe_callB (SY.call_reprE rf.hy gd hu) (by rfl) m_repr (by decide +kernel) (pa_cons (pv 5) pa_nil)) pa_nil))) (nomark _))))) (pss_one (ps_ret pe_bl)) (pss_nil))
      (pss_cons (ps_set (i := 10) sc_law_right.nd rfl (.inr rfl) (pe_ifExp (pt_val (pv 1)) (pe_lst (pa_cons (pe_lst (pa_nil)) (pa_cons pe_non pa_nil))) (pe_lst (pa_cons pe_bl (pa_cons (pe_lst (pa_cons pe_int pa_nil)) pa_nil)))))
      (pss_one (ps_if (pt_cmpR (DN.op_neD hr.units) (pe_ref (k := k + 1) R rf TB rfl (List.mem_of_getElem? (i := 1) rfl) hq (hr.mono (by omega)) gd (by rfl) (LamX.lamS_by (sc := defScope s_law_right) (by decide +kernel)) rfl (fun _ _ _ _ _ => rfl) (fun A outer s H E f c' hr => pe_call G_law_set_in (hr.mono (by omega)) (by rfl) m_law_set_in k_law_set_in b_law_set_in .nil (passes_call (takes_of rfl rfl rfl rfl) (fun _ _ _ _ h => h)) (pa_cons (pv 9) (pa_cons (pv 7) (pa_cons (pe_ix ix_listK (pv 10) pe_int (fun _ _ => rfl)) pa_nil))))) (pe_tup (pa_cons pe_str (pa_cons (pe_callB (SY.call_reprE rf.hy gd hu) (by rfl) m_repr (by decide +kernel) (pa_cons (pv 5) pa_nil)) pa_nil))) (nomark _)) (pss_one (ps_ret pe_bl)) (pss_nil))))))
    (pss_cons (ps_for PassesOwn.never rfl (pi_list (pe_lst (pa_cons (pe_call G_law_one (hr.mono (by omega)) (by rfl) m_law_one k_law_one b_law_one .nil pass0 (pa_cons (pv 0) (pa_cons (pe_lst (pa_cons pe_int (pa_cons pe_str (pa_cons pe_non (pa_cons (pe_tup (pa_cons pe_int pa_nil)) (pa_cons (pe_tup (pa_cons pe_int (pa_cons pe_int (pa_cons pe_int pa_nil)))) (pa_cons (pe_tup (pa_nil)) (pa_cons (pe_lst (pa_cons pe_int (pa_cons pe_int pa_nil))) (pa_cons pe_dnewK pa_nil))))))))) pa_nil))) (pa_cons pe_int (pa_cons (pe_tup (pa_cons pe_str (pa_cons pe_int (pa_cons pe_str pa_nil)))) pa_nil))))) (pg_name (i := 6) sc_law_right.nd rfl (.inl rfl))
      (pss_one (ps_if (pt_not (pt_val (GD.pe_callG G_law_tried (hr.mono (by omega)) gd (by rfl) m_law_tried k_law_tried b_law_tried .nil pass0 (pa_cons (pv 9) (pa_cons (pv 6) (pa_cons (pv 2) (pa_cons (pv 6) pa_nil))))))) (pss_one (ps_ret pe_bl)) (pss_nil))))
    (pss_cons (ps_set (i := 8) sc_law_right.nd rfl (.inr rfl) (pe_call G_law_one (hr.mono (by omega)) (by rfl) m_law_one k_law_one b_law_one .nil pass0 (pa_cons (pv 0) (pa_cons (pe_ifExp (pt_val (pv 1)) (pe_lst (pa_cons pe_int (pa_cons pe_int (pa_cons pe_non (pa_cons pe_str (pa_cons (pe_lst (pa_cons pe_bl pa_nil)) (pa_cons (pe_tup (pa_cons pe_bl pa_nil)) pa_nil))))))) (pe_lst (pa_cons pe_bl (pa_cons pe_bl (pa_cons (pe_lst (pa_cons pe_int pa_nil)) (pa_cons pe_dnewK (pa_cons (pe_tup (pa_cons pe_int (pa_cons pe_bl pa_nil))) pa_nil))))))) pa_nil))))
    (pss_cons (ps_if (pt_cmpR (DN.op_neD hr.units) (pe_ref (k := k + 1) R rf TB rfl (List.mem_of_getElem? (i := 1) rfl) hq (hr.mono (by omega)) gd (by rfl) (LamX.lamS_by (sc := defScope s_law_right) (by decide +kernel)) rfl (fun _ _ _ _ _ => rfl) (fun A outer s H E f c' hr => pe_call G_law_set_in (hr.mono (by omega)) (by rfl) m_law_set_in k_law_set_in b_law_set_in .nil (passes_call (takes_of rfl rfl rfl rfl) (fun _ _ _ _ h => h)) (pa_cons (pv 9) (pa_cons (pe_tup (pa_cons pe_str (pa_cons pe_int pa_nil))) (pa_cons (pv 8) pa_nil))))) (pe_tup (pa_cons pe_str (pa_cons (pe_callB (SY.call_reprE rf.hy gd hu) (by rfl) m_repr (by decide +kernel) (pa_cons (pv 8) pa_nil)) pa_nil))) (nomark _)) (pss_one (ps_ret pe_bl)) (pss_nil))
    (pss_cons (ps_if (pt_cmpR (DN.op_neD hr.units) (pe_ref (k := k + 1) R rf TB rfl (List.mem_of_getElem? (i := 1) rfl) hq (hr.mono (by omega)) gd (by rfl) (LamX.lamS_by (sc := defScope s_law_right) (by decide +kernel)) rfl (fun _ _ _ _ _ => rfl) (fun A outer s H E f c' hr => pe_make M_G G_G (hr.mono (by omega)) (by rfl) m_G b_G .nil (passes_call (takes_of rfl rfl rfl rfl) (fun _ _ _ _ h => h)) (pa_cons (pe_lst (pa_cons (pv 8) pa_nil)) pa_nil))) (pe_tup (pa_cons pe_str (pa_cons (pe_callB (SY.call_reprE rf.hy gd hu) (by rfl) m_repr (by decide +kernel) (pa_cons (pe_lst (pa_cons (pv 8) pa_nil)) pa_nil)) pa_nil))) (nomark _)) (pss_one (ps_ret pe_bl)) (pss_nil))
    (pss_cons (ps_if (pt_cmpR (DN.op_neD hr.units) (pe_ref (k := k + 1) R rf TB rfl (List.mem_of_getElem? (i := 1) rfl) hq (hr.mono (by omega)) gd (by rfl) (LamX.lamS_by (sc := defScope s_law_right) (by decide +kernel)) rfl (fun _ _ _ _ _ => rfl) (fun A outer s H E f c' hr => pe_makeK0 M_G G_G (hr.mono (by omega)) (by rfl) m_G kb_G (passes_call (takes_of rfl rfl rfl rfl) (fun _ _ _ _ h => h)) (pk_cons (pe_tup (pa_cons pe_int (pa_cons pe_bl pa_nil))) pk_nil))) (pe_tup (pa_cons pe_str (pa_cons (pe_callB (SY.call_reprE rf.hy gd hu) (by rfl) m_repr (by decide +kernel) (pa_cons (pe_tup (pa_cons pe_int (pa_cons pe_bl pa_nil))) pa_nil)) pa_nil))) (nomark _)) (pss_one (ps_ret pe_bl)) (pss_nil))
    (pss_one (ps_ret (pe_and (pe_cmpR (DN.op_eqD hr.units) (pe_meth0 (pv 9) cl_C me_places G_places (hr.mono (by omega)) b_places .nil pass0) (pe_lst (pa_cons (pe_tup (pa_cons pe_str (pa_cons pe_int pa_nil))) pa_nil)) (nomark _)) (pe_and (pe_cmpR (DN.op_eqD hr.units) (OP.pe_ixO O_get G_get (hr.mono (by omega)) passF (pv 9) (pe_tup (pa_cons pe_str (pa_cons pe_int pa_nil)))) (pv 2) (nomark _)) (pe_one (pe_cmpR (DN.op_eqD hr.units) (OP.pe_ixO O_get G_get (hr.mono (by omega)) passF (pv 9) (pe_tup (pa_cons pe_str (pa_cons pe_int pa_nil)))) (pe_ifExp (pt_val (pv 1)) pe_bl pe_non) (nomark _)))))))))))))))))), ?_⟩
    refine ⟨_, rfl, p, x, u, 2, rfl, hp, by decide, .of (k := 3) (by decide) (by decide), fun r x1 u1 r0 r1 => ?_⟩
    have hT1 := tabs_del hT hp
    rw [← del_put (o := .lst [.int x1, .int u1])] at hT1
    have hd1 : del (upd H p (.lst [.int x1, .int u1])) p = del H p := del_put
    have hp1 := upd_same (H := H) (a := p) (o := .lst [.int x1, .int u1])
    have hT2 := tabs_sub hT1
    generalize upd H p (.lst [.int x1, .int u1]) = H1 at hT1 hT2 hd1 hp1
    refine ⟨rfl, (fun σ H' => ∃ (fl : Bool) (g e : Addr) (dv wv : V) (dd wd : PyData), σ = [some (.ref p), some (.bl fl), some wv, none, none, none, none, none, none, some (.ref g), none] ∧ Sg P w K C p fl g e dv dd [] H' ∧ Wr (del H' p) fl wv wd ∧ PyData.eqv wd dd = false ∧
      dv = (if fl then .bl false else .non) ∧ g ≠ p ∧ e ≠ p ∧ del H p e = none ∧ LamX.ExtN (del H p) (del H' p) ∧ ∃ G0, LamX.Tabs (TT K) G0 ∧ G0 e = none ∧ Same G0 H'), ?_, ?_⟩
    · generalize decide (V.int r = V.int 0) = fl
      have fin : ∀ (dv wv : V) (dd wd : PyData) (g e : Addr) (H2 : Hp), Wr H2 fl dv dd → Wr H2 fl wv wd → H1 g = none → Same H1 H2 → H1 e = none → e ≠ g → Gd P w C H2 g dv e [] → Sg P w K C p fl g e dv dd [] H2 ∧ Wr (del H2 p) fl wv wd ∧ g ≠ p ∧ e ≠ p ∧ del H p e = none ∧ LamX.ExtN (del H p) (del H2 p) := by
        intro dv wv dd wd g e H2 w1 w2 ng s2 ne neg gd
        have gp : g ≠ p := Ne.symm (ne_of_none hp1 ng)
        have ep : e ≠ p := Ne.symm (ne_of_none hp1 ne)
        obtain ⟨⟨dx, h1⟩, h2⟩ := gd
        have dl : ∀ {v : V} {d : PyData}, Wr H2 fl v d → Wr (del H2 p) fl v d := fun {v d} wr => wr.same fun a xs ea => del_at ea (fun z => by
          rw [z, s2 _ _ hp1] at ea
          cases ea)
        refine ⟨⟨⟨_, _, s2 _ _ hp1⟩, ⟨⟨dx, del_at h1 gp⟩, ⟨?_, fun x hx => by cases hx⟩⟩, dl w1, LamX.Tabs.ext hT2 s2⟩, dl w2, gp, ep, ?_, ?_⟩
        · exact del_at h2.1 ep
        · rw [← hd1, del_ne ep]
          exact ne
        · rw [← hd1]
          exact ext_del (ext_same s2)
      cases fl with
      | true =>
        refine ⟨_, rfl, true, rfl, iteT fun g dx ng ndx _ => init4_new (fl := true) (d := .bool false) ng ndx ⟨false, rfl, rfl⟩ fun H2 e s2 ne neg gd => ?_⟩
        refine ⟨_, rfl, true, rfl, iteT ⟨by show 2 ≤ sizeLine; decide, fun t nt => ?_⟩⟩
        have st := same_upd (o := .tup [V.ref g, V.bl true]) nt
        refine ⟨t, [V.ref g, V.bl true], rfl, .inl (.inl upd_same), rfl, _, _, rfl, _, _, rfl, rfl, ?_⟩
        obtain ⟨z1, z2, z3, z4, z5, z6⟩ := fin (.bl false) (.bl true) (.bool false) (.bool true) g e _ ⟨false, rfl, rfl⟩ ⟨true, rfl, rfl⟩ ng (s2.trans st) ne neg (gd.same st)
        exact ⟨true, g, e, _, _, _, _, rfl, z1, z2, rfl, rfl, z3, z4, z5, z6, H1, hT2, ne, s2.trans st⟩
      | false =>
        refine ⟨_, rfl, false, rfl, iteF fun g dx ng ndx _ => init4_new (fl := false) (d := .none) ng ndx ⟨_, Pl.non, by simp only [dat]⟩ fun H2 e s2 ne neg gd => ?_⟩
        refine ⟨_, rfl, false, rfl, iteF ⟨by show 2 ≤ sizeLine; decide, fun t nt => ?_⟩⟩
        have st := same_upd (o := .tup [V.ref g, V.int 5]) nt
        refine ⟨t, [V.ref g, V.int 5], rfl, .inl (.inl upd_same), rfl, _, _, rfl, _, _, rfl, rfl, ?_⟩
        obtain ⟨z1, z2, z3, z4, z5, z6⟩ := fin .non (.int 5) .none (.int 5) g e _ ⟨_, Pl.non, by simp only [dat]⟩ ⟨_, Pl.int 5, by simp only [dat]⟩ ng (s2.trans st) ne neg (gd.same st)
        exact ⟨false, g, e, _, _, _, _, rfl, z1, z2, rfl, rfl, z3, z4, z5, z6, H1, hT2, ne, s2.trans st⟩
    · rintro σ H2 ⟨fl, g, e, dv, wv, dd, wd, rfl, S, ww, ne, hdv, gp, ep, nee, e2, G0, hTG, neG, sG⟩
      clear hp hT hp1 hT1 hT2 r0 r1 hd1
      -- grid["a", 1] = worth
      refine ⟨_, rfl, _, rfl, by show 2 ≤ sizeLine; decide, fun t nt => ?_⟩
      obtain ⟨x2, u2, hp2⟩ := S.wl
      obtain ⟨s3, ht3, hp3⟩ := del_new (o := .tup [V.str "a", V.int 1]) hp2 nt
      have S3 := S.same (same_upd (o := .tup [V.str "a", V.int 1]) nt)
      have ww := ww.same (same_tup s3)
      have e2 := e2.trans (ext_same s3)
      have sG := sG.trans (same_upd (o := .tup [V.str "a", V.int 1]) nt)
      generalize upd H2 t (.tup [V.str "a", V.int 1]) = H3 at s3 ht3 hp3 S3 ww e2 sG
      have hpl : Plc (del H3 p) t (.tup [.text "a", .num 1]) := ⟨_, _, _, _, ht3, .str _, .int _, rfl⟩
      have S3 := S3
      obtain ⟨dx, hg⟩ := (S3.gd.same del_sub).1
      refine ⟨g, dx, _, rfl, hg, g, e, fl, dv, .ref t, wv, dd, [], rfl, S3.gd.same del_sub, S3.wd.same (same_tup del_sub), by decide, .inr ⟨t, _, rfl, hpl.same (same_tup del_sub), .inr ⟨wd, ww.same (same_tup del_sub), fun _ => ?_, (fun z => by rw [ne] at z; cases z), (fun z => by rw [ne] at z; cases z)⟩⟩⟩
      -- the state behind it
      have hk := hpl.key
      have ge : g ≠ e := fun z => by
        obtain ⟨dx', h1⟩ := S3.gd.1
        rw [z, S3.gd.2.1] at h1
        unfold dn at h1
        cases h1
      have eep : del (upd H3 e (dn P w e (putE [] (NestedKey.tup [.text "a", .num 1]) t wv))) p = upd (del H3 p) e (dn P w e (putE [] (NestedKey.tup [.text "a", .num 1]) t wv)) := by
        funext b
        by_cases z : b = p
        · rw [z, del_same, upd_ne (Ne.symm ep), del_same]
        · by_cases z2 : b = e
          · rw [z2, del_ne ep, upd_same, upd_same]
          · rw [del_ne z, upd_ne z2, upd_ne z2, del_ne z]
      have tpe := tp_dct (o := dn P w e (putE [] (NestedKey.tup [.text "a", .num 1]) t wv)) S3.gd.2
      have S4 : Sg P w K C p fl g e dv dd (putE [] (NestedKey.tup [.text "a", .num 1]) t wv) (upd H3 e (dn P w e (putE [] (NestedKey.tup [.text "a", .num 1]) t wv))) := by
        obtain ⟨dx', h1⟩ := S3.gd.1
        refine ⟨⟨x2, u2, by rw [upd_ne (Ne.symm ep)]; exact hp3⟩, ?_, ?_, LamX.Tabs.ext hTG fun b o hb => ?_⟩
        · rw [eep]
          exact ⟨⟨dx', by rw [upd_ne ge]; exact h1⟩, dct_put S3.gd.2 hk.1 hk.2⟩
        · rw [eep]
          exact S3.wd.same tpe
        · rw [upd_ne (fun z => by rw [z, neG] at hb; cases hb)]
          exact sG b o hb
      have ww : Wr (del (upd H3 e (dn P w e (putE [] (NestedKey.tup [.text "a", .num 1]) t wv))) p) fl wv wd := by
        rw [eep]
        exact ww.same tpe
      have hpl : Plc (del (upd H3 e (dn P w e (putE [] (NestedKey.tup [.text "a", .num 1]) t wv))) p) t (.tup [.text "a", .num 1]) := by
        rw [eep]
        exact hpl.same tpe
      have e2 : LamX.ExtN (del H p) (del (upd H3 e (dn P w e (putE [] (NestedKey.tup [.text "a", .num 1]) t wv))) p) := by
        rw [eep]
        intro b o hb n
        rw [upd_ne (fun z => by rw [z, nee] at hb; cases hb)]
        exact e2 b o hb n
      obtain ⟨x4, u4, hp4⟩ := S4.wl
      generalize upd H3 e (dn P w e (putE [] (NestedKey.tup [.text "a", .num 1]) t wv)) = H4 at S4 ww hpl e2 hp4
      have hxs : putE [] (NestedKey.tup [.text "a", .num 1]) t wv = [(NestedKey.tup [.text "a", .num 1], t, wv)] := rfl
      rw [hxs] at S4
      generalize hxe : [(NestedKey.tup [.text "a", .num 1], t, wv)] = xs at S4
      clear S3 s3 ht3 hp3 hg hk eep tpe hxs nt S hp2
      -- an odd thing
      refine ⟨_, rfl, by show 1 ≤ sizeLine; decide, fun a1 n1 => fun a2 n2 => ⟨by show 1 ≤ sizeLine; decide, fun a3 n3 => ⟨by show 2 ≤ sizeLine; decide, fun a4 n4 => ⟨by show 2 ≤ sizeLine; decide, fun a5 n5 => ⟨by show 5 ≤ sizeLine; decide, fun l nl => ?_⟩⟩⟩⟩⟩
      obtain ⟨y1, h1, hp4⟩ := del_new (o := .lst [V.int 1]) hp4 n1
      obtain ⟨y2, h2, hp4⟩ := del_new (o := .dK []) hp4 n2
      obtain ⟨y3, h3, hp4⟩ := del_new (o := .lst [V.int 2]) hp4 n3
      obtain ⟨y4, h4, hp4⟩ := del_new (o := .tup [V.int 1, V.ref a3]) hp4 n4
      obtain ⟨y5, h5, hp4⟩ := del_new (o := .lst [V.int 0, V.int 1]) hp4 n5
      have np : p ≠ l := ne_of_none hp4 nl
      obtain ⟨y6, h6, hp4⟩ := del_new (o := .lst [V.bl true, V.ref a1, V.ref a2, V.ref a4, V.ref a5]) hp4 nl
      have sm := ((((same_upd (o := .lst [V.int 1]) n1).trans (same_upd (o := .dK []) n2)).trans (same_upd (o := .lst [V.int 2]) n3)).trans (same_upd (o := .tup [V.int 1, V.ref a3]) n4)).trans ((same_upd (o := .lst [V.int 0, V.int 1]) n5).trans (same_upd (o := .lst [V.bl true, V.ref a1, V.ref a2, V.ref a4, V.ref a5]) nl))
      have h1 := (((((y2.trans y3).trans y4).trans y5).trans y6)) _ _ h1
      have h2 := ((((y3).trans y4).trans y5).trans y6) _ _ h2
      have h3 := (((y4).trans y5).trans y6) _ _ h3
      have h4 := ((y5).trans y6) _ _ h4
      have h5 := y6 _ _ h5
      have yy := ((((y1.trans y2).trans y3).trans y4).trans y5).trans y6
      have S5 := S4.same sm
      generalize upd (upd (upd (upd (upd (upd H4 a1 (.lst [V.int 1])) a2 (.dK [])) a3 (.lst [V.int 2])) a4 (.tup [V.int 1, V.ref a3])) a5 (.lst [V.int 0, V.int 1])) l (.lst [V.bl true, V.ref a1, V.ref a2, V.ref a4, V.ref a5]) = H5 at h1 h2 h3 h4 h5 h6 hp4 yy S5
      have ww := ww.same (same_tup yy)
      have hpl := hpl.same (same_tup yy)
      have e2 := e2.trans (ext_same yy)
      clear y1 y2 y3 y4 y5 y6 sm S4 n1 n2 n3 n4 n5 nl yy
      refine ⟨p, l, _, _, _, rfl, hp4, .inl (.inl (del_sub _ _ h6)), fun x' c' => .inl (.inl (by rw [upd_ne (Ne.symm np)]; exact del_sub _ _ h6)), (by show 0 < 5; decide), (by show 5 ≤ 1000; decide), fun odd x6 u6 hodd => ?_⟩
      have hodd : ∃ D, Bad K (del H5 p) odd D := by
        simp only [List.mem_cons, List.not_mem_nil, or_false] at hodd
        rcases hodd with rfl | rfl | rfl | rfl | rfl
        · exact ⟨_, PN.odd (.inl ⟨_, rfl⟩) 4, .bl _, sh_of (by decide +kernel)⟩
        · exact ⟨_, PN.odd (.inr (.inl ⟨_, _, rfl, h1⟩)) 4, .lst h1 (.cons (.int _) .nil), sh_of (by decide +kernel)⟩
        · exact ⟨_, PN.odd (.inr (.inr (.inl ⟨_, _, rfl, h2⟩))) 4, .dct h2 .nil, sh_of (by decide +kernel)⟩
        · exact ⟨_, pn_snd h4 (PN.leaf rfl 3) (PN.odd (.inr (.inl ⟨_, _, rfl, h3⟩)) 3), .tup h4 (.cons (.int _) (.cons (.lst h3 (.cons (.int _) .nil)) .nil)), sh_of (by decide +kernel)⟩
        · exact ⟨_, PN.odd (.inr (.inl ⟨_, _, rfl, h5⟩)) 4, .lst h5 (.cons (.int _) (.cons (.int _) .nil)), sh_of (by decide +kernel)⟩
      obtain ⟨Do, hodd⟩ := hodd
      have S6 := S5.put (x := x6) (u := u6)
      rw [← del_put (H := H5) (p := p) (o := .lst [.int x6, .int u6])] at hodd hpl ww e2
      have hp6 := upd_same (H := H5) (a := p) (o := .lst [.int x6, .int u6])
      generalize upd H5 p (.lst [.int x6, .int u6]) = H6 at S6 hodd hpl ww e2 hp6
      clear h1 h2 h3 h4 h5 h6 S5 hp4 np
      -- another
      refine ⟨_, rfl, by show 0 ≤ sizeLine; decide, fun a1 n1 => ⟨by show 2 ≤ sizeLine; decide, fun a2 n2 => fun a3 n3 => ⟨upd_same, [(.inr "b", .int 1)], rfl, by decide, ?_⟩⟩⟩
      rw [upd_upd]
      refine ⟨by show 4 ≤ sizeLine; decide, fun l nl => ?_⟩
      obtain ⟨y1, h1, hp6⟩ := del_new (o := .lst []) hp6 n1
      obtain ⟨y2, h2, hp6⟩ := del_new (o := .tup [V.str "a", V.bl true]) hp6 n2
      obtain ⟨y3, h3, hp6⟩ := del_new (o := .dK (mergeK [] [(.inr "b", .int 1)])) hp6 n3
      have np : p ≠ l := ne_of_none hp6 nl
      obtain ⟨y4, h4, hp6⟩ := del_new (o := .lst [V.bl false, V.ref a1, V.ref a2, V.ref a3]) hp6 nl
      have sm := ((same_upd (o := .lst []) n1).trans (same_upd (o := .tup [V.str "a", V.bl true]) n2)).trans ((same_upd (o := .dK (mergeK [] [(.inr "b", .int 1)])) n3).trans (same_upd (o := .lst [V.bl false, V.ref a1, V.ref a2, V.ref a3]) nl))
      have h1 := ((y2.trans y3).trans y4) _ _ h1
      have h2 := (y3.trans y4) _ _ h2
      have h3 := y4 _ _ h3
      have yy := ((y1.trans y2).trans y3).trans y4
      have S7 := S6.same sm
      have he3 : (mergeK [] [((.inr "b" : L2.Key), V.int 1)]) = [(.inr "b", .int 1)] := rfl
      rw [he3] at h3 y3 y4 hp6 sm h1 h2 h4 yy S7
      generalize hX : upd (upd (upd (upd H6 a1 (.lst [])) a2 (.tup [V.str "a", V.bl true])) a3 (.dK [(.inr "b", .int 1)])) l (.lst [V.bl false, V.ref a1, V.ref a2, V.ref a3]) = H7 at h1 h2 h3 h4 hp6 yy S7
      have ww := ww.same (same_tup yy)
      have hpl := hpl.same (same_tup yy)
      have e2 := e2.trans (ext_same yy)
      have hodd := hodd.ext (ext_same yy)
      rw [he3, hX]
      clear y1 y2 y3 y4 sm S6 n1 n2 n3 nl yy hX he3
      refine ⟨p, l, _, _, _, rfl, hp6, .inl (.inl (del_sub _ _ h4)), fun x' c' => .inl (.inl (by rw [upd_ne (Ne.symm np)]; exact del_sub _ _ h4)), (by show 0 < 4; decide), (by show 4 ≤ 1000; decide), fun oth x8 u8 hoth => ?_⟩
      have hoth : ∃ D, Bad K (del H7 p) oth D := by
        simp only [List.mem_cons, List.not_mem_nil, or_false] at hoth
        rcases hoth with rfl | rfl | rfl | rfl
        · exact ⟨_, PN.odd (.inl ⟨_, rfl⟩) 4, .bl _, sh_of (by decide +kernel)⟩
        · exact ⟨_, PN.odd (.inr (.inl ⟨_, _, rfl, h1⟩)) 4, .lst h1 .nil, sh_of (by decide +kernel)⟩
        · exact ⟨_, pn_snd h2 (PN.leaf rfl 3) (PN.odd (.inl ⟨_, rfl⟩) 3), .tup h2 (.cons (.str _) (.cons (.bl _) .nil)), sh_of (by decide +kernel)⟩
        · exact ⟨_, PN.odd (.inr (.inr (.inl ⟨_, _, rfl, h3⟩))) 4, .dct h3 (.cons (.int _) .nil), sh_of (by decide +kernel)⟩
      obtain ⟨Dt, hoth⟩ := hoth
      have S8 := S7.put (x := x8) (u := u8)
      rw [← del_put (H := H7) (p := p) (o := .lst [.int x8, .int u8])] at hodd hoth hpl ww e2
      generalize upd H7 p (.lst [.int x8, .int u8]) = H8 at S8 hodd hoth hpl ww e2
      clear h1 h2 h3 h4 S7 hp6 np
      -- three pairs
      refine ⟨_, rfl, by show 2 ≤ sizeLine; decide, fun b1 m1 => ⟨_, rfl, by show 2 ≤ sizeLine; decide, fun c1 m2 => ⟨_, rfl, by show 2 ≤ sizeLine; decide, fun b2 m3 => ⟨_, rfl, by show 2 ≤ sizeLine; decide, fun c2 m4 => ⟨_, rfl, _, rfl, by show 2 ≤ sizeLine; decide, fun b3 m5 => ⟨_, rfl, by show 2 ≤ sizeLine; decide, fun c3 m6 => ⟨by show 3 ≤ sizeLine; decide, fun l nl => ?_⟩⟩⟩⟩⟩⟩⟩
      obtain ⟨x8', u8', hp8⟩ := S8.wl
      have z1 := same_upd (o := .tup [odd, V.int 0]) m1
      have z2 := same_upd (o := .tup [V.ref b1, odd]) m2
      have z3 := same_upd (o := .tup [V.int 0, oth]) m3
      have z4 := same_upd (o := .tup [V.ref b2, oth]) m4
      have z5 := same_upd (o := .tup [odd, oth]) m5
      have z6 := same_upd (o := .tup [V.ref b3, odd]) m6
      have z7 := same_upd (o := .lst [V.ref c1, V.ref c2, V.ref c3]) nl
      have f1 := (z2.trans (z3.trans (z4.trans (z5.trans (z6.trans z7))))) _ _ (upd_same (H := H8) (a := b1) (o := .tup [odd, V.int 0]))
      have f2 := (z3.trans (z4.trans (z5.trans (z6.trans z7)))) _ _ (upd_same (a := c1) (o := .tup [V.ref b1, odd]))
      have f3 := (z4.trans (z5.trans (z6.trans z7))) _ _ (upd_same (a := b2) (o := .tup [V.int 0, oth]))
      have f4 := (z5.trans (z6.trans z7)) _ _ (upd_same (a := c2) (o := .tup [V.ref b2, oth]))
      have f5 := (z6.trans z7) _ _ (upd_same (a := b3) (o := .tup [odd, oth]))
      have f6 := z7 _ _ (upd_same (a := c3) (o := .tup [V.ref b3, odd]))
      have f7 := upd_same (H := upd (upd (upd (upd (upd (upd H8 b1 (.tup [odd, V.int 0])) c1 (.tup [V.ref b1, odd])) b2 (.tup [V.int 0, oth])) c2 (.tup [V.ref b2, oth])) b3 (.tup [odd, oth])) c3 (.tup [V.ref b3, odd])) (a := l) (o := .lst [V.ref c1, V.ref c2, V.ref c3])
      have zz := z1.trans (z2.trans (z3.trans (z4.trans (z5.trans (z6.trans z7)))))
      generalize upd (upd (upd (upd (upd (upd (upd H8 b1 (.tup [odd, V.int 0])) c1 (.tup [V.ref b1, odd])) b2 (.tup [V.int 0, oth])) c2 (.tup [V.ref b2, oth])) b3 (.tup [odd, oth])) c3 (.tup [V.ref b3, odd])) l (.lst [V.ref c1, V.ref c2, V.ref c3]) = HB at f1 f2 f3 f4 f5 f6 f7 zz
      have SB := S8.same zz
      have ww := ww.same (same_tup (same_del zz))
      have hpl := hpl.same (same_tup (same_del zz))
      have e2 := e2.trans (ext_same (same_del zz))
      have hoB := hodd.ext (ext_same (del_sub.trans zz))
      have htB := hoth.ext (ext_same (del_sub.trans zz))
      have hprs : ∀ y ∈ [V.ref c1, V.ref c2, V.ref c3], ∃ c b due D, y = V.ref c ∧ HB c = some (.tup [V.ref b, due]) ∧ Pb K HB b due D := fun y hy => by
        simp only [List.mem_cons, List.not_mem_nil, or_false] at hy
        rcases hy with rfl | rfl | rfl
        · exact ⟨_, _, _, _, rfl, f2, ⟨_, _, f1, .inl ⟨hoB.pn, rfl⟩⟩, hoB.say, hoB.shn⟩
        · exact ⟨_, _, _, _, rfl, f4, ⟨_, _, f3, .inr ⟨PN.leaf rfl 4, htB.pn, rfl⟩⟩, htB.say, htB.shn⟩
        · exact ⟨_, _, _, _, rfl, f6, ⟨_, _, f5, .inl ⟨hoB.pn, rfl⟩⟩, hoB.say, hoB.shn⟩
      have lx : xs.length = 1 := by
        rw [← hxe]
        rfl
      clear z1 z2 z3 z4 z5 z6 z7 f1 f2 f3 f4 f5 f6 m1 m2 m3 m4 m5 m6 nl zz hp8 S8 hodd hoth hoB htB
      refine ⟨l, rfl, ⟨_, .inl (.inl f7)⟩, for_list (K := K) (a := l) (xs := [V.ref c1, V.ref c2, V.ref c3]) (fun i σ H' => ∃ v5 v7 v10 : Option V, σ = [some (.ref p), some (.bl fl), some wv, some odd, some oth, v5, none, v7, none, some (.ref g), v10] ∧ LamX.ExtN HB H' ∧ LamX.Tabs (TT K) H')
        ⟨_, _, _, rfl, .refl _, SB.tb⟩ (fun i σ H' _ ⟨_, _, _, _, e', _⟩ => .inl (.inl (e' _ _ f7 fun _ z => by cases z))) ?_ ?_⟩
      · rintro i y σ H' hi ⟨v5, v7, v10, rfl, e', t'⟩
        obtain ⟨c, b, due, D, rfl, hc, hb⟩ := hprs y (List.mem_of_getElem? hi)
        have hcx := e' _ _ hc fun _ z => by cases z
        have hb' := hb.ext e'
        have S' := SB.ext e' t'
        refine ⟨c, [V.ref b, due], rfl, .inl (.inl hcx), rfl, _, _, rfl, _, _, rfl, rfl, ?_⟩
        refine ⟨_, rfl, _, rfl, _, rfl, _, rfl, g, e, fl, dv, .ref b, wv, due, dd, xs, D, rfl, S'.gd.same del_sub, S'.wd.same (same_tup del_sub), by omega, hb'.bad, hb'.say, hb'.shn, t', fun H1 e1 t1 => ⟨true, rfl, ?_⟩⟩
        have at0 : ∀ {x y : V}, atI [x, y] 0 = some x := fun {x y} => rfl
        have at1 : ∀ {x y : V}, atI [x, y] 1 = some y := fun {x y} => rfl
        refine iteF (test_ref (K := K) (CB := CB) (D := D) t1 hb'.shn (fun H2 e2 E2 Q2 hE => ?_) (fun H2 Q2 e2 hq2 => ⟨_, rfl, hq2 _ _ (.refl _) (hb'.say.stay (e1.trans e2))⟩) fun H2 e2 t2 => iteF ?_)
        · obtain ⟨x, y, hbx, hx⟩ := (hb'.ext (e1.trans e2)).ex
          have S2 := (gd_ext (S'.gd.same del_sub) (e1.trans e2))
          obtain ⟨dx2, hg2⟩ := S2.1
          refine ⟨_, rfl, g, rfl, _, rfl, b, _, 0, x, rfl, rfl, .inl (.inl hbx), at0, _, rfl, b, _, 1, y, rfl, rfl, .inl (.inl hbx), at1, .inr ⟨dx2, _, hg2⟩, g, e, x, y, dv, xs, rfl, S2, due, hx, fun d H3 nd s3 hd => hE d H3 due s3 hd ((hb'.say.stay (e1.trans e2)).stay (ext_same s3))⟩
        refine wrong_ok (fl := fl) rfl fun H3 wl v0 v1 s3 hw => ?_
        have e3 := (e1.trans e2).trans (ext_same s3)
        refine test_ref (K := K) (CB := CB) (D := D) (LamX.Tabs.ext t2 s3) hb'.shn (fun H4 e4 E4 Q4 hE => ?_) (fun H4 Q4 e4 hq4 => ⟨_, rfl, hq4 _ _ (.refl _) (hb'.say.stay (e3.trans e4))⟩) fun H4 e4 t4 => iteF ?_
        · have hw4 := e4 _ _ hw fun _ z => by cases z
          exact ⟨_, rfl, _, rfl, _, rfl, wl, _, 0, v0, rfl, rfl, .inl (.inl hw4), at0, g, e, fl, dv, .ref b, v0, dd, xs, rfl, gd_ext (S'.gd.same del_sub) (e3.trans e4), S'.wd.same (ext_tp ((ext_same del_sub).trans (e3.trans e4))), by omega, .inl ⟨due, (hb'.ext (e3.trans e4)).bad, fun d H5 nd s5 hd => hE d H5 due s5 hd ((hb'.say.stay (e3.trans e4)).stay (ext_same s5))⟩⟩
        · exact ⟨_, _, _, rfl, e'.trans (e3.trans e4), t4⟩
      · rintro σ H' ⟨v5, v7, v10, rfl, e', t'⟩
        have S' := SB.ext e' t'
        have ww := ww.same (ext_tp (ext_del e'))
        have hpl := hpl.same (ext_tp (ext_del e'))
        have e2 := e2.trans (ext_del e')
        clear hprs f7 SB e'
        obtain ⟨xc, uc, hpc⟩ := S'.wl
        -- things that are no pairs
        refine ⟨_, rfl, by show 1 ≤ sizeLine; decide, fun a1 n1 => ⟨by show 3 ≤ sizeLine; decide, fun a2 n2 => ⟨by show 0 ≤ sizeLine; decide, fun a3 n3 => ⟨by show 2 ≤ sizeLine; decide, fun a4 n4 => fun a5 n5 => ⟨by show 8 ≤ sizeLine; decide, fun l nl => ?_⟩⟩⟩⟩⟩
        obtain ⟨y1, h1, hpc⟩ := del_new (o := .tup [V.int 1]) hpc n1
        obtain ⟨y2, h2, hpc⟩ := del_new (o := .tup [V.int 1, V.int 2, V.int 3]) hpc n2
        obtain ⟨y3, h3, hpc⟩ := del_new (o := .tup []) hpc n3
        obtain ⟨y4, h4, hpc⟩ := del_new (o := .lst [V.int 0, V.int 1]) hpc n4
        obtain ⟨y5, h5, hpc⟩ := del_new (o := .dK []) hpc n5
        have np : p ≠ l := ne_of_none hpc nl
        obtain ⟨y6, h6, hpc⟩ := del_new (o := .lst [V.int 0, V.str "ab", V.non, V.ref a1, V.ref a2, V.ref a3, V.ref a4, V.ref a5]) hpc nl
        have sm := (same_upd (o := .tup [V.int 1]) n1).trans ((same_upd (o := .tup [V.int 1, V.int 2, V.int 3]) n2).trans ((same_upd (o := .tup []) n3).trans ((same_upd (o := .lst [V.int 0, V.int 1]) n4).trans ((same_upd (o := .dK []) n5).trans (same_upd (o := .lst [V.int 0, V.str "ab", V.non, V.ref a1, V.ref a2, V.ref a3, V.ref a4, V.ref a5]) nl)))))
        have h1 := (y2.trans (y3.trans (y4.trans (y5.trans y6)))) _ _ h1
        have h2 := (y3.trans (y4.trans (y5.trans y6))) _ _ h2
        have h3 := (y4.trans (y5.trans y6)) _ _ h3
        have h4 := (y5.trans y6) _ _ h4
        have h5 := y6 _ _ h5
        have yy := same_del (p := p) sm
        have S5 := S'.same sm
        generalize upd (upd (upd (upd (upd (upd H' a1 (.tup [V.int 1])) a2 (.tup [V.int 1, V.int 2, V.int 3])) a3 (.tup [])) a4 (.lst [V.int 0, V.int 1])) a5 (.dK [])) l (.lst [V.int 0, V.str "ab", V.non, V.ref a1, V.ref a2, V.ref a3, V.ref a4, V.ref a5]) = H5 at h1 h2 h3 h4 h5 h6 hpc yy S5
        have ww := ww.same (same_tup yy)
        have hpl := hpl.same (same_tup yy)
        have e2 := e2.trans (ext_same yy)
        clear y1 y2 y3 y4 y5 y6 sm S' n1 n2 n3 n4 n5 nl yy
        refine ⟨p, l, _, _, _, rfl, hpc, .inl (.inl (del_sub _ _ h6)), fun x' c' => .inl (.inl (by rw [upd_ne (Ne.symm np)]; exact del_sub _ _ h6)), (by show 0 < 8; decide), (by show 8 ≤ 1000; decide), fun thg x6 u6 hthg => ?_⟩
        have hthg : ∃ D, NoT K (del H5 p) thg D := by
          simp only [List.mem_cons, List.not_mem_nil, or_false] at hthg
          rcases hthg with rfl | rfl | rfl | rfl | rfl | rfl | rfl | rfl
          · exact ⟨_, .inl ⟨_, .base (.int _), kit_bb (by decide +kernel)⟩, .int _, sh_of (by decide +kernel)⟩
          · exact ⟨_, .inl ⟨_, .base (.str _), kit_bb (by decide +kernel)⟩, .str _, sh_of (by decide +kernel)⟩
          · exact ⟨_, .inl ⟨_, .base .non, kit_bb (by decide +kernel)⟩, .non, sh_of (by decide +kernel)⟩
          · exact ⟨_, .inr ⟨_, _, rfl, h1, (by show 1 ≠ 2; decide)⟩, .tup h1 (.cons (.int _) .nil), sh_of (by decide +kernel)⟩
          · exact ⟨_, .inr ⟨_, _, rfl, h2, (by show 3 ≠ 2; decide)⟩, .tup h2 (.cons (.int _) (.cons (.int _) (.cons (.int _) .nil))), sh_of (by decide +kernel)⟩
          · exact ⟨_, .inr ⟨_, _, rfl, h3, (by show 0 ≠ 2; decide)⟩, .tup h3 .nil, sh_of (by decide +kernel)⟩
          · exact ⟨_, .inl ⟨_, .base (.lst h4), kit_bb (by decide +kernel)⟩, .lst h4 (.cons (.int _) (.cons (.int _) .nil)), sh_of (by decide +kernel)⟩
          · exact ⟨_, .inl ⟨_, .base (.dK h5), kit_bb (by decide +kernel)⟩, .dct h5 .nil, sh_of (by decide +kernel)⟩
        obtain ⟨Dg, hthg⟩ := hthg
        have S6 := S5.put (x := x6) (u := u6)
        rw [← del_put (H := H5) (p := p) (o := .lst [.int x6, .int u6])] at hthg hpl ww e2
        generalize upd H5 p (.lst [.int x6, .int u6]) = H6 at S6 hthg hpl ww e2
        clear h1 h2 h3 h4 h5 h6 S5 hpc np
        refine ⟨by show 3 ≤ sizeLine; decide, fun a6 n6 => ⟨by show 3 ≤ sizeLine; decide, fun l2 nl2 => ?_⟩⟩
        have z1 := same_upd (o := .tup [V.str "a", V.int 1, V.str "a"]) n6
        have z2 := same_upd (o := .lst [thg, V.int 7, V.ref a6]) nl2
        have f1 := z2 _ _ (upd_same (H := H6) (a := a6) (o := .tup [V.str "a", V.int 1, V.str "a"]))
        have f2 := upd_same (H := upd H6 a6 (.tup [V.str "a", V.int 1, V.str "a"])) (a := l2) (o := .lst [thg, V.int 7, V.ref a6])
        have zz := z1.trans z2
        generalize upd (upd H6 a6 (.tup [V.str "a", V.int 1, V.str "a"])) l2 (.lst [thg, V.int 7, V.ref a6]) = HC at f1 f2 zz
        have SC := S6.same zz
        have ww := ww.same (same_tup (same_del zz))
        have hpl := hpl.same (same_tup (same_del zz))
        have e2 := e2.trans (ext_same (same_del zz))
        have hths : ∀ y ∈ [thg, V.int 7, V.ref a6], ∃ D, NoT K HC y D := fun y hy => by
          simp only [List.mem_cons, List.not_mem_nil, or_false] at hy
          rcases hy with rfl | rfl | rfl
          · exact ⟨_, hthg.ext (ext_same (del_sub.trans zz))⟩
          · exact ⟨_, .inl ⟨_, .base (.int _), kit_bb (by decide +kernel)⟩, .int _, sh_of (by decide +kernel)⟩
          · exact ⟨_, .inr ⟨_, _, rfl, f1, (by show 3 ≠ 2; decide)⟩, .tup f1 (.cons (.str _) (.cons (.int _) (.cons (.str _) .nil))), sh_of (by decide +kernel)⟩
        clear z1 z2 n6 nl2 zz S6 hthg
        refine ⟨l2, rfl, ⟨_, .inl (.inl f2)⟩, for_list (K := K) (a := l2) (xs := [thg, V.int 7, V.ref a6]) (fun i σ H' => ∃ v6 : Option V, σ = [some (.ref p), some (.bl fl), some wv, some odd, some oth, v5, v6, v7, none, some (.ref g), v10] ∧ LamX.ExtN HC H' ∧ LamX.Tabs (TT K) H')
          ⟨_, rfl, .refl _, SC.tb⟩ (fun i σ H' _ ⟨_, _, e', _⟩ => .inl (.inl (e' _ _ f2 fun _ z => by cases z))) ?_ ?_⟩
        · rintro i y σ H3 hi ⟨v6, rfl, e3, t3⟩
          obtain ⟨D, hy⟩ := hths y (List.mem_of_getElem? hi)
          have hy := hy.ext e3
          have S3 := SC.ext e3 t3
          refine ⟨_, rfl, _, rfl, _, rfl, _, rfl, g, e, fl, dv, y, wv, y, dd, xs, D, rfl, S3.gd.same del_sub, S3.wd.same (same_tup del_sub), by omega, .inl ⟨hy.np, rfl⟩, hy.say, hy.shn, t3, fun H4 e4 t4 => ⟨true, rfl, iteF ?_⟩⟩
          exact ⟨_, rfl, e3.trans e4, t4⟩
        · rintro σ H3 ⟨v6, rfl, e3, t3⟩
          have S3 := SC.ext e3 t3
          have ww := ww.same (ext_tp (ext_del e3))
          have hpl := hpl.same (ext_tp (ext_del e3))
          have e2 := e2.trans (ext_del e3)
          clear hths f2 SC
          obtain ⟨x3, u3, hp3⟩ := S3.wl
          refine bad_ok (K := K) (fl := fl) (p := p) rfl rfl hp3 fun H4 x4 u4 bad D s4 hbad say sh1 sh2 => ?_
          have S4 := (S3.same s4).put (x := x4) (u := u4)
          have ww := ww.same (same_tup (same_del s4))
          have hpl := hpl.same (same_tup (same_del s4))
          have e2 := e2.trans (ext_same (same_del s4))
          rw [← del_put (H := H4) (p := p) (o := .lst [.int x4, .int u4])] at hbad say hpl ww e2
          generalize upd H4 p (.lst [.int x4, .int u4]) = H5 at S4 hbad say hpl ww e2
          clear S3 hp3 s4
          have nbL : ∀ {H : Hp} {a : Addr} {ys : List V}, H a = some (.lst ys) → BadD K CF H (.ref a) := fun {H a ys} h => ⟨_, .base (.lst h), kL _ (by decide), kit_bb (by decide +kernel), PN.odd (.inr (.inl ⟨_, _, rfl, h⟩)) 4⟩
          refine test_ref (K := K) (CB := CB) (D := D) S4.tb sh1 (fun H6 e6 E6 Q6 hE => ?_) (fun H6 Q6 e6 hq6 => ⟨_, rfl, hq6 _ _ (.refl _) ((say.stay (ext_same del_sub)).stay e6)⟩) fun H6 e6 t6 => iteF ?_
          · refine ⟨_, rfl, by show 2 ≤ sizeLine; decide, fun tt ntt => ?_⟩
            have s7 := same_upd (o := .tup [V.str "a", V.int 1]) ntt
            have e7 := e6.trans (ext_same s7)
            exact ⟨_, rfl, g, e, fl, dv, .ref tt, bad, dd, xs, rfl, gd_ext (S4.gd.same del_sub) e7, S4.wd.same (ext_tp ((ext_same del_sub).trans e7)), by omega, .inr ⟨tt, _, rfl, ⟨_, _, _, _, upd_same, .str _, .int _, rfl⟩, .inl ⟨(hbad.ext (ext_same del_sub)).ext e7, fun d H8 nd s8 hd => hE d H8 bad (s7.trans s8) hd (((say.stay (ext_same del_sub)).stay e7).stay (ext_same s8))⟩⟩⟩
          refine test_ref (K := K) (CB := CB) (D := .list [D]) t6 sh2 (fun H7 e7 E7 Q7 hE => ?_) (fun H7 Q7 e7 hq7 => ⟨_, rfl, by show 1 ≤ sizeLine; decide, fun a na => hq7 _ _ (same_upd na) (.lst upd_same (.cons (((say.stay (ext_same del_sub)).stay (e6.trans e7)).stay (ext_same (same_upd na))) .nil))⟩) fun H7 e7 t7 => iteF ?_
          · refine ⟨_, rfl, by show 1 ≤ sizeLine; decide, fun a na => fun x dx nx ndx _ => ?_⟩
            have s8 := same_upd (o := .lst [bad]) na
            have sm : Same (upd H7 a (.lst [bad])) (upd (upd (upd H7 a (.lst [bad])) dx (.own x)) x (.ins C dx [])) := fun b o eb => by
              rw [upd_ne (ne_of_none eb nx), upd_ne (ne_of_none eb ndx)]
              exact eb
            have ha := sm _ _ (upd_same (H := H7) (a := a) (o := .lst [bad]))
            refine ⟨x, dx, .ref a, rfl, upd_same, .inr ⟨nbL ha, fun d H9 nd s9 hd => hE d H9 (.ref a) (s8.trans (sm.trans s9)) hd (.lst (s9 _ _ ha) (.cons ((((say.stay (ext_same del_sub)).stay (e6.trans e7)).stay (ext_same (s8.trans (sm.trans s9))))) .nil))⟩⟩
          refine test_ref (K := K) (CB := CB) (D := .tuple [.int 1, .bool true]) t7 (sh_of (by decide +kernel)) (fun H8 e8 E8 Q8 hE => ?_) (fun H8 Q8 e8 hq8 => ⟨by show 2 ≤ sizeLine; decide, fun a na => hq8 _ _ (same_upd na) (.tup upd_same (.cons (.int _) (.cons (.bl _) .nil)))⟩) fun H8 e8 t8 => iteF ?_
          · refine ⟨by show 2 ≤ sizeLine; decide, fun a na => ⟨rfl, rfl, fun x dx nx ndx _ => ?_⟩⟩
            rw [hgV]
            have s8 := same_upd (o := .tup [V.int 1, V.bl true]) na
            have sm : Same (upd H8 a (.tup [V.int 1, V.bl true])) (upd (upd (upd H8 a (.tup [V.int 1, V.bl true])) dx (.own x)) x (.ins C dx [])) := fun b o eb => by
              rw [upd_ne (ne_of_none eb nx), upd_ne (ne_of_none eb ndx)]
              exact eb
            have ha := sm _ _ (upd_same (H := H8) (a := a) (o := .tup [V.int 1, V.bl true]))
            exact ⟨x, dx, .ref a, rfl, upd_same, .inr ⟨⟨_, .base (.tup ha), kL _ (by decide), kit_bb (by decide +kernel), pn_snd ha (PN.leaf rfl 3) (PN.odd (.inl ⟨_, rfl⟩) 3)⟩, fun d H9 nd s9 hd => hE d H9 (.ref a) (s8.trans (sm.trans s9)) hd (.tup (s9 _ _ ha) (.cons (.int _) (.cons (.bl _) .nil)))⟩⟩
          have eF := (e6.trans e7).trans e8
          have SF := S4.ext eF t8
          have ww := ww.same (ext_tp (ext_del eF))
          have hpl := hpl.same (ext_tp (ext_del eF))
          have e2 := e2.trans (ext_del eF)
          clear hbad say S4 nbL e6 e7 e8 eF
          obtain ⟨dx, hg⟩ := (SF.gd.same del_sub).1
          refine ⟨_, rfl, g, dx, _, rfl, hg, rfl, g, e, dv, xs, rfl, SF.gd.same del_sub, fun l nl => ?_⟩
          have s1 := same_upd (o := .lst (keyRefs xs)) nl
          have hl := upd_same (H := H8) (a := l) (o := .lst (keyRefs xs))
          generalize upd H8 l (.lst (keyRefs xs)) = H9 at s1 hl
          refine ⟨by show 2 ≤ sizeLine; decide, fun t2 nt2 => ⟨by show 1 ≤ sizeLine; decide, fun l2 nl2 => ?_⟩⟩
          have s2 := same_upd (o := .tup [V.str "a", V.int 1]) nt2
          have s3 := same_upd (o := .lst [V.ref t2]) nl2
          have ht2 := s3 _ _ (upd_same (H := H9) (a := t2) (o := .tup [V.str "a", V.int 1]))
          have hl2 := upd_same (H := upd H9 t2 (.tup [V.str "a", V.int 1])) (a := l2) (o := .lst [V.ref t2])
          have hl := (s2.trans s3) _ _ hl
          have sA := s1.trans (s2.trans s3)
          generalize upd (upd H9 t2 (.tup [V.str "a", V.int 1])) l2 (.lst [V.ref t2]) = HA at ht2 hl2 hl sA
          clear s1 s2 s3 nl nt2 nl2
          have hplA := hpl.same (same_tup (del_sub.trans sA))
          have d1 : RZ.Shw HA (.ref l) (.list [.tuple [.str "a", .int 1]]) := by
            rw [← hxe] at hl
            refine .lst hl (.cons ?_ .nil)
            obtain ⟨_, _, _, _, et, k1, k2, ek⟩ := hplA.ex
            cases ek
            cases k1.key
            cases k2.key
            exact .tup et (.cons (.str _) (.cons (.int _) .nil))
          have d2 : RZ.Shw HA (.ref l2) (.list [.tuple [.str "a", .int 1]]) := .lst hl2 (.cons (.tup ht2 (.cons (.str _) (.cons (.int _) .nil))) .nil)
          refine ⟨_, _, d1, d2, by decide +kernel, ?_⟩
          rw [eqv_self d1]
          have hat : at_ xs (.tup [.text "a", .num 1]) = some wv := by
            rw [← hxe]
            simp [at_]
          have hat0 : at_ xs (.tup [.text "a", .num 0]) = none := by
            rw [← hxe]
            simp [at_]
          have SA := SF.gd.same (del_sub.trans sA)
          have wA := ww.same (same_tup (del_sub.trans sA))
          have vA := SF.wd.same (same_tup (del_sub.trans sA))
          obtain ⟨dxA, hgA⟩ := SA.1
          refine ⟨true, rfl, iteT ?_⟩
          refine ⟨_, rfl, by show 2 ≤ sizeLine; decide, fun t3 nt3 => ?_⟩
          have s3 := same_upd (o := .tup [V.str "a", V.int 1]) nt3
          refine ⟨g, dxA, _, rfl, s3 _ _ hgA, g, e, .ref t3, dv, xs, rfl, SA.same s3, .inl ⟨t3, _, rfl, ⟨_, _, _, _, upd_same, .str _, .int _, rfl⟩, ?_⟩⟩
          have w3 := (wA.same (same_tup s3)).shw
          rw [hat]
          refine ⟨_, rfl, wd, wd, w3.1, w3.1, Nat.le_trans w3.2 (by decide), ?_⟩
          rw [eqv_self w3.1]
          refine ⟨true, rfl, iteT ?_⟩
          refine ⟨_, rfl, by show 2 ≤ sizeLine; decide, fun t4 nt4 => ?_⟩
          have s4 := s3.trans (same_upd (o := .tup [V.str "a", V.int 0]) nt4)
          refine ⟨g, dxA, _, rfl, s4 _ _ hgA, g, e, .ref t4, dv, xs, rfl, SA.same s4, .inl ⟨t4, _, rfl, ⟨_, _, _, _, upd_same, .str _, .int _, rfl⟩, ?_⟩⟩
          have v4 := (vA.same (same_tup s4)).shw
          rw [hat0]
          have hend := q _ (e2.trans (ext_same (same_del (sA.trans s4)))) (LamX.Tabs.ext SF.tb (sA.trans s4))
          refine ⟨_, rfl, fl, rfl, ?_⟩
          cases fl with
          | true =>
            have hdv' : dv = .bl false := hdv
            rw [hdv'] at v4 ⊢
            refine iteT ⟨dd, dd, v4.1, v4.1, Nat.le_trans v4.2 (by decide), ?_⟩
            rw [eqv_self v4.1]
            exact hend
          | false =>
            have hdv' : dv = .non := hdv
            rw [hdv'] at v4 ⊢
            refine iteF ⟨dd, dd, v4.1, v4.1, Nat.le_trans v4.2 (by decide), ?_⟩
            rw [eqv_self v4.1]
            exact hend
end
end K04
set_option Elab.async false
set_option linter.all false
set_option maxRecDepth 100000
set_option maxHeartbeats 2000000
namespace K04
open PySem PySem.Spec PyProof.Rows L2 CM DN GR
section
variable {P : Program} {w : World} {K : PySem.W.Frag} {mg : Str → Option Value} {base : Heap}
/-! ### two thousand deep -/
def TD (H : Hp) : Nat → V → Prop
  | 0, v => v = .int 0
  | n + 1, v => ∃ a u, v = .ref a ∧ H a = some (.tup [u]) ∧ TD H n u
theorem TD.same {H H' : Hp} (s : Same H H') : ∀ {n : Nat} {v : V}, TD H n v → TD H' n v
  | 0, _, h => h
  | _ + 1, _, ⟨a, u, e, h, t⟩ => ⟨a, u, e, s _ _ h, t.same s⟩
theorem TD.pn {H : Hp} : ∀ (n : Nat) {m : Nat} {v : V}, TD H (n + 1 + m) v → PN K H n v false
  | 0, m, v, h => by
    rw [show 0 + 1 + m = m + 1 by omega] at h
    obtain ⟨a, u, rfl, e, _⟩ := h
    exact .inr (.inr ⟨a, [u], rfl, e, rfl⟩)
  | n + 1, m, v, h => by
    rw [show n + 1 + 1 + m = (n + 1 + m) + 1 by omega] at h
    obtain ⟨a, u, rfl, e, t⟩ := h
    exact pn_fst e (TD.pn n t)
def DeepV (K : PySem.W.Frag) (H : Hp) (v : V) : Prop := (∃ a u, v = .ref a ∧ H a = some (.lst [u])) ∨ ∃ a u, v = .ref a ∧ H a = some (.tup [u]) ∧ PN K H 4 v false
section
variable {H H' : Hp} {v : V}
theorem DeepV.ext (h : DeepV K H v) (s : LamX.ExtN H H') : DeepV K H' v := by
  rcases h with ⟨a, u, e, h⟩ | ⟨a, u, e, h, pn⟩
  · exact .inl ⟨a, u, e, s _ _ h fun _ z => by cases z⟩
  · exact .inr ⟨a, u, e, s _ _ h (fun _ z => by cases z), pn_ext s pn⟩
theorem DeepV.pn (h : DeepV K H v) : PN K H 4 v false := by
  rcases h with ⟨a, u, rfl, h⟩ | ⟨a, u, rfl, h, pn⟩
  · exact PN.odd (.inr (.inl ⟨_, _, rfl, h⟩)) 4
  · exact pn
theorem DeepV.ty (h : DeepV K H v) : ∃ T ∈ ["list", "tuple"], TyX K H v (.type T) := by
  rcases h with ⟨a, u, rfl, h⟩ | ⟨a, u, rfl, h, pn⟩
  · exact ⟨_, by decide, .base (.lst h)⟩
  · exact ⟨_, by decide, .base (.tup h)⟩
theorem DeepV.noPair (h : DeepV K H v) : NoPair K H v := by
  rcases h with ⟨a, u, rfl, h⟩ | ⟨a, u, rfl, h, pn⟩
  · exact .inl ⟨_, .base (.lst h), kit_bb (by decide +kernel)⟩
  · exact .inr ⟨_, _, rfl, h, by show 1 ≠ 2; decide⟩
theorem DeepV.noBool (h : DeepV K H v) : ∃ t, TyX K H v t ∧ PySem.W.kitOne K t (.type "bool") = some false := by
  rcases h with ⟨a, u, rfl, h⟩ | ⟨a, u, rfl, h, pn⟩
  · exact ⟨_, .base (.lst h), kit_bb (by decide +kernel)⟩
  · exact ⟨_, .base (.tup h), kit_bb (by decide +kernel)⟩
theorem DeepV.noPl (h : DeepV K H v) : NoPl K H v := by
  rcases h.noPair with h | ⟨a, xs, e, h, l⟩
  · exact .inl h
  · exact .inr ⟨a, xs, e, h, .inl l⟩
end
def spAbyss (K : PySem.W.Frag) : Sp := fun vs H Q _ => ∃ z : Str, vs = [.str z] ∧ ∀ H' v, Same H H' → DeepV K H' v → Q v H'
theorem ok_abyss {f : Addr} {fd : FuncData} {k : Nat} (F : FnP K "_law_abyss" "_law_abyss" s_law_abyss f fd) (m_range : mg "range" = none) : FnOk P w K mg base CX0 (k + 1) f fd ["_law_word"] (spAbyss K) := by
  refine F.ok sc_law_abyss (fun vs H Q E h => ?_) (fun cdv A outer s H vs Q E hr h => ?_)
  · obtain ⟨z, rfl, _⟩ := h
    rfl
  · obtain ⟨z, rfl, q⟩ := h
    refine ⟨_, PSs.nox (pss_cons (ps_set (i := 1) sc_law_abyss.nd rfl (.inl rfl) pe_int)
    (pss_cons (ps_for PassesOwn.never rfl (pi_range1 (by rfl) m_range (pa_cons pe_int pa_nil)) (pg_name (i := 2) sc_law_abyss.nd rfl (.inl rfl))
      (pss_one (ps_set (i := 1) sc_law_abyss.nd rfl (.inl rfl) (pe_ifExp (pt_cmpR op_eq (pv 0) pe_str (nomark _)) (pe_tup (pa_cons (pv 1) pa_nil)) (pe_lst (pa_cons (pv 1) pa_nil))))))
    (pss_one (ps_ret (pv 1))))), ?_⟩
    refine ⟨_, rfl, by decide, by decide, for_range (n := 2000) (fun j σ H' => ∃ (t : V) (v2 : Option V), σ = [some (.str z), some t, v2] ∧ Same H H' ∧ ((z = "tuple" ∧ TD H' j t) ∨ (z ≠ "tuple" ∧ (j = 0 ∨ ∃ a u, t = .ref a ∧ H' a = some (.lst [u]))))) ?_ ?_ ?_⟩
    · refine ⟨.int 0, none, rfl, fun _ _ e => e, ?_⟩
      by_cases hz : z = "tuple"
      · exact .inl ⟨hz, rfl⟩
      · exact .inr ⟨hz, .inl rfl⟩
    · rintro j σ H1 hj ⟨t, v2, rfl, s1, ht⟩
      refine ⟨_, rfl, rfl, _, rfl, ?_⟩
      rcases ht with ⟨hz, ht⟩ | ⟨hz, ht⟩
      · rw [decide_eq_true (by rw [hz])]
        refine iteT ⟨_, rfl, by show 1 ≤ sizeLine; decide, fun p np => ?_⟩
        exact ⟨_, _, rfl, s1.trans (same_upd np), .inl ⟨hz, p, t, rfl, upd_same, ht.same (same_upd np)⟩⟩
      · rw [decide_eq_false (fun e => hz (V.str.inj e))]
        refine iteF ⟨_, rfl, by show 1 ≤ sizeLine; decide, fun p np => ?_⟩
        exact ⟨_, _, rfl, s1.trans (same_upd np), .inr ⟨hz, .inr ⟨p, t, rfl, upd_same⟩⟩⟩
    · rintro σ H1 ⟨t, v2, rfl, s1, ht⟩
      refine ⟨_, rfl, q H1 t s1 ?_⟩
      rcases ht with ⟨hz, ht⟩ | ⟨hz, ht | ht⟩
      · have p4 : PN K H1 4 t false := TD.pn (m := 1995) 4 ht
        obtain ⟨a, u, rfl, e, _⟩ := ht
        exact .inr ⟨a, u, rfl, e, p4⟩
      · cases ht
      · exact .inl ht
end
end K04
set_option Elab.async false
set_option linter.all false
set_option maxRecDepth 100000
set_option maxHeartbeats 2000000
namespace K04
open PySem PySem.Spec PyProof.Rows L2 CM DN GR
section
variable {P : Program} {w : World} {K : PySem.W.Frag} {mg : Str → Option Value} {base : Heap}
theorem test_bad {CB : Addr} {T : XK → TE} {σ : L2.St} {H : Hp} {k : Bool → Hp → Prop} (hT : LamX.Tabs (TT K) H)
    (hbody : ∀ H1, LamX.ExtN H H1 → ∀ (E : XK) (Q : VK), (∀ (v : V), Bv CB E H1 v) → T E σ H1 Q)
    (hk : ∀ H', LamX.ExtN H H' → LamX.Tabs (TT K) H' → k false H') : tNot (tB (LamX.tLam (TT K) (TTbad CB) T)) σ H k := by
  refine ⟨hT, fun H1 e1 t1 => ?_⟩
  intro E1 Q1 hE
  exact hbody H1 e1 E1 Q1 fun v d H2 nd s2 hd => hE d H2 ⟨true, rfl, hk _ (e1.trans (ext_same s2)) (LamX.Tabs.ext t1 s2)⟩
theorem test_badO {CB : Addr} {T : XK → TE} {σ : L2.St} {H : Hp} {k : Bool → Hp → Prop} {tb : L2.TT} (hT : LamX.Tabs (TT K) H)
    (hbody : ∀ H1, LamX.ExtN H H1 → ∀ (E : XK) (Q : VK), (∀ (v : V), Bv CB E H1 v) → T E σ H1 Q)
    (hk : ∀ H', LamX.ExtN H H' → LamX.Tabs (TT K) H' → tb σ H' k) : tOr (tNot (tB (LamX.tLam (TT K) (TTbad CB) T))) tb σ H k :=
  test_bad hT hbody (fun H' e t => iteF (hk H' e t))
theorem if_bad {CB : Addr} {T : XK → TE} {σ : L2.St} {H : Hp} {A B : TS} {D : Ends} (hT : LamX.Tabs (TT K) H)
    (hbody : ∀ H1, LamX.ExtN H H1 → ∀ (E : XK) (Q : VK), (∀ (v : V), Bv CB E H1 v) → T E σ H1 Q)
    (hk : ∀ H', LamX.ExtN H H' → LamX.Tabs (TT K) H' → B D σ H') : tIfS (tNot (tB (LamX.tLam (TT K) (TTbad CB) T))) A B D σ H :=
  test_bad hT hbody (fun H' e t => iteF (hk H' e t))
def spDeep (K : PySem.W.Frag) : Sp := fun vs H Q _ => vs = [] ∧ LamX.Tabs (TT K) H ∧ ∀ H', Q (.bl true) H'
theorem ok_deep {C CF CB fG g0 g1 g2 g3 : Addr} {fd fdG : FuncData} {k : Nat} (F : FnP K "_law_deep_right" "_law_deep_right" s_law_deep_right (He.fAd K ("_law_deep_right", none)) fd) (TB : LamX.TabB base mg (He.cT K ("_law_deep_right", none)).1 (He.cT K ("_law_deep_right", none)).2) (ds : Dst K)
    (R2 : Tells K mg "_law_is_bad" s_law_is_bad) (rf : RefF K mg CB) (m_G : mg "Grid" = some (.ref C)) (M_G : Mk K C fG) (cl_C : Cls K C) (kL : ∀ T ∈ ["list", "tuple"], PySem.W.kitOne K (.type T) (.ref CF) = some false)
    (G_G : FnOk P w K mg base (L2.CX P w) k fG fdG ["self", "default"] (spInit4 P w K C CF CB)) (b_G : Binds K fdG ["self", "default"] []) {ds0 : List Value} (b_G0 : Binds K fdG ["self", "default"] ds0) (r_G0 : Vals [V.bl false] ds0) (nq_C : PySem.W.noSeq K C = true)
    (O_set : OP.Own K C "__setitem__" g0) (G_set : FnR P w K mg base (L2.CX P w) k g0 (spSet4 P w K C CB)) (O_get : OP.Own K C "__getitem__" g1) (G_get : FnR P w K mg base (L2.CX P w) k g1 (spGet4 P w K C CB)) (O_call : StX.CallO K C g2) (G_callR : FnR P w K mg base (L2.CX P w) k g2 (spCall4 P w K C CB))
    (O_con : OP.Own K C "__contains__" g3) (G_con : FnR P w K mg base CX0 k g3 (spCon P w K C)) (C_abyss : Cal P w K mg base CX0 "_law_abyss" k ["_law_word"] (spAbyss K)) (C_set : Cal P w K mg base (L2.CX P w) "_law_set_in" k ["_law_grid", "_law_at", "_law_worth"] (spSet4 P w K C CB))
    (C_places : CalM P w K mg base CX0 C "places" k ["self"] (spPlaces P w C)) : GD.FnG P w K mg base CX0 (k + 6) (He.fAd K ("_law_deep_right", none)) fd [] (spDeep K) := by
  obtain ⟨f_law_abyss, fd_law_abyss, G_law_abyss, b_law_abyss, m_law_abyss, k_law_abyss⟩ := C_abyss
  obtain ⟨f_law_set_in, fd_law_set_in, G_law_set_in, b_law_set_in, m_law_set_in, k_law_set_in⟩ := C_set
  obtain ⟨f_places, fd_places, G_places, b_places, me_places⟩ := C_places
  refine SY.okCG F sc_law_deep_right (fun vs H Q E h => ?_) (fun A outer s H vs Q E hr gd h => ?_)
  · obtain ⟨rfl, _⟩ := h
    rfl
  · obtain ⟨rfl, hT, q⟩ := h
    have hq := tt_c ds
    refine ⟨_, PSs.nox (pss_cons (ps_for PassesOwn.never rfl (pi_list (pe_lst (pa_cons pe_str (pa_cons pe_str pa_nil)))) (pg_name (i := 0) sc_law_deep_right.nd rfl (.inl rfl))
      (pss_cons (ps_asg (pe_tup (pa_cons (pe_call G_law_abyss (hr.mono (by omega)) (by rfl) m_law_abyss k_law_abyss b_law_abyss .nil pass0 (pa_cons (pv 0) pa_nil)) (pa_cons (pe_make0 M_G G_G (hr.mono (by omega)) (by rfl) m_G b_G0 r_G0 passF) pa_nil))) (pg_tup rfl (pgs_cons (pg_name (i := 2) sc_law_deep_right.nd rfl (.inr rfl)) (pgs_cons (pg_name (i := 1) sc_law_deep_right.nd rfl (.inr rfl)) (pgs_nil)))))
      (pss_cons (ps_if (PW.pt (pw_or (pt_not (pt_val (pe_bad (k := k + 1) R2 rf TB rfl (List.mem_of_getElem? (i := 2) rfl) hq (hr.mono (by omega)) (by rfl) (LamX.lamS_by (sc := defScope s_law_deep_right) (by decide +kernel)) rfl (fun _ _ _ _ _ => rfl) (fun A outer s H E f c' hr => CPL.pe_callP (pv 1) O_call G_callR (hr.mono (by omega)) (passes_call (takes_of rfl rfl rfl rfl) (fun _ _ _ _ h => h)) (pa_cons (pv 2) (pa_cons pe_int pa_nil)))))) (pw_or (pt_cmpR (OP.op_inO O_con G_con (hr.mono (by omega)) pass0) (pv 2) (pv 1) (by rfl)) (pw_or1 (pt_cmpR (OP.op_inO O_con G_con (hr.mono (by omega)) pass0) (pe_tup (pa_cons pe_int (pa_cons (pv 2) pa_nil))) (pv 1) (by rfl)))))) (pss_one (ps_ret pe_bl)) (pss_nil))
      (pss_cons (ps_if (pt_not (pt_val (pe_bad (k := k + 1) R2 rf TB rfl (List.mem_of_getElem? (i := 2) rfl) hq (hr.mono (by omega)) (by rfl) (LamX.lamS_by (sc := defScope s_law_deep_right) (by decide +kernel)) rfl (fun _ _ _ _ _ => rfl) (fun A outer s H E f c' hr => OP.pe_ixO O_get G_get (hr.mono (by omega)) (passes_call (takes_of rfl rfl rfl rfl) (fun _ _ _ _ h => h)) (pv 1) (pe_tup (pa_cons pe_int (pa_cons (pv 2) pa_nil))))))) (pss_one (ps_ret pe_bl)) (pss_nil))
      (pss_cons (ps_if (pt_not (pt_val (pe_bad (k := k + 1) R2 rf TB rfl (List.mem_of_getElem? (i := 2) rfl) hq (hr.mono (by omega)) (by rfl) (LamX.lamS_by (sc := defScope s_law_deep_right) (by decide +kernel)) rfl (fun _ _ _ _ _ => rfl) (fun A outer s H E f c' hr => OP.pe_ixO O_get G_get (hr.mono (by omega)) (passes_call (takes_of rfl rfl rfl rfl) (fun _ _ _ _ h => h)) (pv 1) (pv 2))))) (pss_one (ps_ret pe_bl)) (pss_nil))
      (pss_cons (ps_if (pt_not (pt_val (pe_bad (k := k + 1) R2 rf TB rfl (List.mem_of_getElem? (i := 2) rfl) hq (hr.mono (by omega)) (by rfl) (LamX.lamS_by (sc := defScope s_law_deep_right) (by decide +kernel)) rfl (fun _ _ _ _ _ => rfl) (fun A outer s H E f c' hr => pe_make M_G G_G (hr.mono (by omega)) (by rfl) m_G b_G .nil (passes_call (takes_of rfl rfl rfl rfl) (fun _ _ _ _ h => h)) (pa_cons (pv 2) pa_nil))))) (pss_one (ps_ret pe_bl)) (pss_nil))
      (pss_cons (ps_if (pt_not (pt_val (pe_bad (k := k + 1) R2 rf TB rfl (List.mem_of_getElem? (i := 2) rfl) hq (hr.mono (by omega)) (by rfl) (LamX.lamS_by (sc := defScope s_law_deep_right) (by decide +kernel)) rfl (fun _ _ _ _ _ => rfl) (fun A outer s H E f c' hr => pe_call G_law_set_in (hr.mono (by omega)) (by rfl) m_law_set_in k_law_set_in b_law_set_in .nil (passes_call (takes_of rfl rfl rfl rfl) (fun _ _ _ _ h => h)) (pa_cons (pv 1) (pa_cons (pe_tup (pa_cons pe_int (pa_cons (pv 2) pa_nil))) (pa_cons pe_bl pa_nil))))))) (pss_one (ps_ret pe_bl)) (pss_nil))
      (pss_one (ps_if (PW.pt (pw_or (pt_not (pt_val (pe_bad (k := k + 1) R2 rf TB rfl (List.mem_of_getElem? (i := 2) rfl) hq (hr.mono (by omega)) (by rfl) (LamX.lamS_by (sc := defScope s_law_deep_right) (by decide +kernel)) rfl (fun _ _ _ _ _ => rfl) (fun A outer s H E f c' hr => pe_call G_law_set_in (hr.mono (by omega)) (by rfl) m_law_set_in k_law_set_in b_law_set_in .nil (passes_call (takes_of rfl rfl rfl rfl) (fun _ _ _ _ h => h)) (pa_cons (pv 1) (pa_cons (pe_tup (pa_cons pe_int (pa_cons pe_int pa_nil))) (pa_cons (pv 2) pa_nil))))))) (pw_or1 (pt_cmpR (op_neNil hr.units) (pe_meth0 (pv 1) cl_C me_places G_places (hr.mono (by omega)) b_places .nil pass0) (pe_lst (pa_nil)) (nomark _))))) (pss_one (ps_ret pe_bl)) (pss_nil))))))))))
    (pss_one (ps_ret pe_bl))), ?_⟩
    refine ⟨by show 2 ≤ sizeLine; decide, fun L nL => ?_⟩
    have hL := upd_same (H := H) (a := L) (o := .lst [V.str "tuple", V.str "list"])
    have hT := LamX.Tabs.ext hT (same_upd (o := .lst [V.str "tuple", V.str "list"]) nL)
    generalize upd H L (.lst [V.str "tuple", V.str "list"]) = HL at hL hT
    refine ⟨L, rfl, ⟨_, .inl (.inl hL)⟩, for_list (K := K) (a := L) (xs := [V.str "tuple", V.str "list"]) (fun i σ H' => ∃ v0 v1 v2 : Option V, σ = [v0, v1, v2] ∧ LamX.ExtN HL H' ∧ LamX.Tabs (TT K) H')
      ⟨_, _, _, rfl, .refl _, hT⟩ (fun i σ H' _ ⟨_, _, _, _, e', _⟩ => .inl (.inl (e' _ _ hL fun _ z => by cases z))) ?_ ?_⟩
    · rintro i y σ H1 hi ⟨v0, v1, v2, rfl, e1, t1⟩
      obtain ⟨z, rfl⟩ : ∃ z, y = .str z := by
        have := List.mem_of_getElem? hi
        simp only [List.mem_cons, List.not_mem_nil, or_false] at this
        rcases this with rfl | rfl <;> exact ⟨_, rfl⟩
      refine ⟨_, rfl, z, rfl, fun H2 v s2 dv => ?_⟩
      refine fun g dx ng ndx _ => init4_new (fl := true) (d := .bool false) ng ndx ⟨false, rfl, rfl⟩ fun H3 e s3 ne neg gd => ⟨by show 2 ≤ sizeLine; decide, fun t nt => ?_⟩
      have s4 := same_upd (o := .tup [v, V.ref g]) nt
      have ht := upd_same (H := H3) (a := t) (o := .tup [v, V.ref g])
      have e4 : LamX.ExtN HL (upd H3 t (.tup [v, V.ref g])) := e1.trans (ext_same (s2.trans (s3.trans s4)))
      have t4 := LamX.Tabs.ext t1 (s2.trans (s3.trans s4))
      have dv := dv.ext (ext_same (s3.trans s4))
      have gd := gd.same s4
      generalize upd H3 t (.tup [v, V.ref g]) = H4 at ht e4 t4 dv gd
      clear s2 s3 s4 ng ndx ne nt t1 e1
      refine ⟨t, [v, V.ref g], rfl, .inl (.inl ht), rfl, _, _, rfl, _, _, rfl, rfl, ?_⟩
      have w4 : Wr H4 true (.bl false) (.bool false) := ⟨false, rfl, rfl⟩
      have ins : ∀ {H5 : Hp}, LamX.ExtN H4 H5 → ∃ dx, H5 g = some (.ins C dx [("default", .bl false), ("entries", .ref e)]) := fun {H5} s => (gd_ext gd s).1
      have plc0 : ∀ {H5 : Hp} {tt : Addr}, H5 tt = some (.tup [V.int 0, v]) → LamX.ExtN H4 H5 → BadP K H5 (.ref tt) v := fun {H5 tt} h s => .inr ⟨tt, _, _, rfl, h, .inr ⟨PN.leaf rfl 4, (dv.ext s).pn, rfl⟩⟩
      refine test_badO (K := K) (CB := CB) t4 (fun H5 e5 E5 Q5 hE => ?_) ?_
      · obtain ⟨dx5, hg5⟩ := ins e5
        exact ⟨_, rfl, g, rfl, _, rfl, .inr ⟨dx5, _, hg5⟩, g, e, v, .int 0, .bl false, [], rfl, gd_ext gd e5, v, .inl ⟨(dv.ext e5).pn, rfl⟩, hE v⟩
      intro H5 e5 t5
      obtain ⟨dx5, hg5⟩ := ins e5
      refine ⟨_, rfl, _, rfl, g, dx5, _, rfl, hg5, g, e, v, .bl false, [], rfl, gd_ext gd e5, .inl ⟨(dv.ext e5).noPl, false, rfl, false, rfl, iteF ?_⟩⟩
      refine ⟨_, rfl, by show 2 ≤ sizeLine; decide, fun a na => ?_⟩
      have s6 := same_upd (o := .tup [V.int 0, v]) na
      have ha := upd_same (H := H5) (a := a) (o := .tup [V.int 0, v])
      have e6 := e5.trans (ext_same s6)
      have t6 := LamX.Tabs.ext t5 s6
      generalize upd H5 a (.tup [V.int 0, v]) = H6 at ha e6 t6
      clear s6 na t5 e5 hg5
      obtain ⟨dx6, hg6⟩ := ins e6
      refine ⟨_, rfl, g, dx6, _, rfl, hg6, g, e, .ref a, .bl false, [], rfl, gd_ext gd e6, .inl ⟨.inr ⟨a, _, rfl, ha, .inr ⟨_, _, rfl, .inr ⟨PN.leaf rfl 4, (dv.ext e6).pn⟩⟩⟩, false, rfl, false, rfl, iteF ?_⟩⟩
      refine if_bad (K := K) (CB := CB) t6 (fun H7 e7 E7 Q7 hE => ?_) ?_
      · refine ⟨_, rfl, _, rfl, by show 2 ≤ sizeLine; decide, fun tt ntt => ?_⟩
        have s8 := same_upd (o := .tup [V.int 0, v]) ntt
        have e8 := (e6.trans e7).trans (ext_same s8)
        obtain ⟨dx8, hg8⟩ := ins e8
        exact ⟨g, dx8, _, rfl, hg8, g, e, .ref tt, .bl false, [], rfl, gd_ext gd e8, .inr ⟨v, plc0 upd_same e8, (hE v).same s8⟩⟩
      intro H7 e7 t7
      refine if_bad (K := K) (CB := CB) t7 (fun H8 e8 E8 Q8 hE => ?_) ?_
      · have e8 := (e6.trans e7).trans e8
        obtain ⟨dx8, hg8⟩ := ins e8
        exact ⟨_, rfl, _, rfl, g, dx8, _, rfl, hg8, g, e, v, .bl false, [], rfl, gd_ext gd e8, .inr ⟨v, .inl ⟨(dv.ext e8).noPair, rfl⟩, hE v⟩⟩
      intro H8 e8 t8
      refine if_bad (K := K) (CB := CB) t8 (fun H9 e9 E9 Q9 hE => ?_) ?_
      · have e9 := ((e6.trans e7).trans e8).trans e9
        refine ⟨_, rfl, fun x dx nx ndx _ => ?_⟩
        have sm : Same H9 (upd (upd H9 dx (.own x)) x (.ins C dx [])) := fun b o eb => by
          rw [upd_ne (ne_of_none eb nx), upd_ne (ne_of_none eb ndx)]
          exact eb
        have d9 := dv.ext (e9.trans (ext_same sm))
        obtain ⟨T, hT, ty⟩ := d9.ty
        have kb : PySem.W.kitOne K (.type T) (.type "bool") = some false := by
          simp only [List.mem_cons, List.not_mem_nil, or_false] at hT
          rcases hT with rfl | rfl
          · exact kit_bb (by decide +kernel)
          · exact kit_bb (by decide +kernel)
        exact ⟨x, dx, v, rfl, upd_same, .inr ⟨⟨_, ty, kL _ hT, kb, d9.pn⟩, (hE v).same sm⟩⟩
      intro H9 e9 t9
      have e9 := ((e6.trans e7).trans e8).trans e9
      clear e7 e8 t6 t7 t8
      refine if_bad (K := K) (CB := CB) t9 (fun HA eA EA QA hE => ?_) ?_
      · refine ⟨_, rfl, _, rfl, by show 2 ≤ sizeLine; decide, fun tt ntt => ?_⟩
        have s8 := same_upd (o := .tup [V.int 0, v]) ntt
        have e8 := (e9.trans eA).trans (ext_same s8)
        exact ⟨g, e, true, .bl false, .ref tt, .bl true, .bool false, [], rfl, gd_ext gd e8, ⟨false, rfl, rfl⟩, by decide, .inl ⟨v, plc0 upd_same e8, (hE v).same s8⟩⟩
      intro HA eA tA
      have eA := e9.trans eA
      refine test_badO (K := K) (CB := CB) tA (fun HB eB EB QB hE => ?_) ?_
      · refine ⟨_, rfl, by show 2 ≤ sizeLine; decide, fun tt ntt => ⟨_, rfl, ?_⟩⟩
        have s8 := same_upd (o := .tup [V.int 0, V.int 1]) ntt
        have e8 := (eA.trans eB).trans (ext_same s8)
        exact ⟨g, e, true, .bl false, .ref tt, v, .bool false, [], rfl, gd_ext gd e8, ⟨false, rfl, rfl⟩, by decide, .inr ⟨tt, _, rfl, ⟨_, _, _, _, upd_same, .int _, .int _, rfl⟩, .inl ⟨(dv.ext e8).noBool, (hE v).same s8⟩⟩⟩
      intro HB eB tB
      have eB := eA.trans eB
      obtain ⟨dxB, hgB⟩ := ins eB
      refine ⟨_, rfl, g, dxB, _, rfl, hgB, rfl, g, e, .bl false, [], rfl, gd_ext gd eB, fun l nl => ⟨by show 0 ≤ sizeLine; decide, fun l2 nl2 => ?_⟩⟩
      have s1 := same_upd (o := .lst (keyRefs [])) nl
      have s2 := same_upd (o := .lst []) nl2
      refine ⟨l, l2, [], rfl, rfl, .inl (.inl (s2 _ _ upd_same)), .inl (.inl upd_same), false, rfl, iteF ?_⟩
      exact ⟨_, _, _, rfl, e4.trans (eB.trans (ext_same (s1.trans s2))), LamX.Tabs.ext tB (s1.trans s2)⟩
    · rintro σ H1 ⟨v0, v1, v2, rfl, _, _⟩
      exact q _
end
end K04
set_option Elab.async false
set_option linter.all false
set_option maxRecDepth 100000
set_option maxHeartbeats 2000000
namespace K04
open PySem PySem.Spec PyProof.Rows L2 CM DN GR
section
variable {P : Program} {w : World} {K : PySem.W.Frag} {mg : Str → Option Value} {base : Heap}
theorem raw4 {CX : CXT} {k : Nat} {f : Addr} {fd : FuncData} {ps : List Str} {sp : Sp} (G : FnOk P w K mg base CX k f fd ps sp) (b : Binds K fd ps []) : FnR P w K mg base CX k f sp :=
  (FnOk.raw G b .nil).imp fun vs H Q E h => by
    rw [List.append_nil]
    exact h
theorem cut_mem {xs : List V} {lo hi : Option Int} {v : V} (h : v ∈ cutV xs lo hi) : v ∈ xs := List.mem_of_mem_drop (List.mem_of_mem_take h)
def spLaw (K : PySem.W.Frag) : Sp := fun vs H Q _ => ∃ (a : Addr) (ns : List Int), vs = [.ref a] ∧ SqL K H a (ns.map V.int) ∧ ns.length ≤ 63 ∧ LamX.Tabs (TT K) H ∧ ∀ H', Q (.bl true) H'
theorem ok_law {f : Addr} {fd : FuncData} {k : Nat} (F : FnP K "law" "law" s_law f fd) (C_well : Cal P w K mg base CX0 "_law_well" k ["_law_cell"] spWell) (C_right : GD.CalG P w K mg base CX0 "_law_right" k ["_law_well_here"] (spRight K))
    (C_deep : GD.CalG P w K mg base CX0 "_law_deep_right" k [] (spDeep K)) : GD.FnG P w K mg base CX0 (k + 1) f fd ["_law_script"] (spLaw K) := by
  obtain ⟨f_law_well, fd_law_well, G_law_well, b_law_well, m_law_well, k_law_well⟩ := C_well
  obtain ⟨f_law_right, fd_law_right, G_law_right, b_law_right, m_law_right, k_law_right⟩ := C_right
  obtain ⟨f_law_deep_right, fd_law_deep_right, G_law_deep_right, b_law_deep_right, m_law_deep_right, k_law_deep_right⟩ := C_deep
  refine GD.okG F sc_law (fun vs H Q E h => ?_) (fun cdv A outer s H vs Q E hr gd h => ?_)
  · obtain ⟨a, ns, rfl, _⟩ := h
    rfl
  · obtain ⟨a, ns, rfl, ha, hz, hT, q⟩ := h
    refine ⟨_, PSs.nox (pss_cons (ps_for PassesOwn.never rfl (pi_list (pe_op op_cat (pe_slice sl_list (pv 0) po_none (po_some pe_int)) (pe_lst (pa_cons pe_int pa_nil)))) (pg_name (i := 1) sc_law.nd rfl (.inl rfl))
      (pss_one (ps_if (pt_not (pt_val (GD.pe_callG G_law_right (hr.mono (by omega)) gd (by rfl) m_law_right k_law_right b_law_right .nil pass0 (pa_cons (pe_call G_law_well (hr.mono (by omega)) (by rfl) m_law_well k_law_well b_law_well .nil pass0 (pa_cons (pv 1) pa_nil)) pa_nil)))) (pss_one (ps_ret pe_bl)) (pss_nil))))
    (pss_one (ps_ret (GD.pe_callG0 G_law_deep_right (hr.mono (by omega)) gd (by rfl) m_law_deep_right k_law_deep_right b_law_deep_right .nil pass0)))), ?_⟩
    refine ⟨_, rfl, 6, rfl, a, _, rfl, ha, fun c nc => ⟨by show 1 ≤ sizeLine; decide, fun d nd => ?_⟩⟩
    have hc : (upd (upd H c (.lst (cutV (ns.map V.int) none (some 6)))) d (.lst [V.int 0])) c = some (.lst (cutV (ns.map V.int) none (some 6))) := by
      rw [upd_ne (ne_of_none upd_same nd), upd_same]
    have hl : (cutV (ns.map V.int) none (some 6)).length ≤ 63 := Nat.le_trans (cutV_length ..) (by rw [List.length_map]; exact hz)
    refine ⟨c, d, _, _, rfl, rfl, hc, upd_same, Nat.le_of_lt (small1000 (by rw [List.length_singleton]; omega)), fun e ne => ?_⟩
    generalize hX : cutV (ns.map V.int) none (some 6) ++ [V.int 0] = X
    have hXi : ∀ v ∈ X, ∃ z : Int, v = .int z := fun v hv => by
      rw [← hX] at hv
      rcases List.mem_append.mp hv with h1 | h1
      · obtain ⟨z, _, rfl⟩ := List.mem_map.mp (cut_mem h1)
        exact ⟨z, rfl⟩
      · exact ⟨0, List.mem_singleton.mp h1⟩
    have hT1 := LamX.Tabs.ext hT ((same_upd (o := .lst (cutV (ns.map V.int) none (some 6))) nc).trans (same_upd (o := .lst [V.int 0]) nd))
    generalize upd (upd H c (.lst (cutV (ns.map V.int) none (some 6)))) d (.lst [V.int 0]) = H1 at ne hT1
    refine ⟨e, rfl, ⟨X, .inl (.inl upd_same)⟩, for_list (K := K) (a := e) (xs := X) (fun i σ H' => ∃ v1 : Option V, σ = [some (.ref a), v1] ∧ H' e = some (.lst X) ∧ LamX.Tabs (TT K) H')
      ⟨none, rfl, upd_same, LamX.Tabs.ext hT1 (same_upd ne)⟩ (fun i σ H' _ ⟨_, _, he, _⟩ => .inl (.inl he)) ?_ ?_⟩
    · rintro i y σ H2 hi ⟨v1, rfl, he, hTi⟩
      obtain ⟨z, rfl⟩ := hXi y (List.mem_of_getElem? hi)
      refine ⟨_, rfl, z, rfl, fun p np => ⟨p, z, 0, rfl, upd_same, LamX.Tabs.ext hTi (same_upd np), fun H3 ex hT3 => ⟨true, rfl, iteF ?_⟩⟩⟩
      have hpe : e ≠ p := ne_of_none he np
      exact ⟨_, rfl, del_sub _ _ (ex _ _ (del_at (same_upd np _ _ he) hpe) fun _ z => by cases z), hT3⟩
    · rintro σ H2 ⟨v1, rfl, he, hTi⟩
      exact ⟨rfl, hTi, fun H' => q H'⟩
end
end K04
set_option Elab.async false
set_option linter.all false
set_option maxRecDepth 100000
set_option maxHeartbeats 2000000
namespace K04
open PySem PySem.Spec PyProof.Rows L2 CM DN GR
section
variable {P : Program} {w : World} {K : PySem.W.Frag} {mg : Str → Option Value} {base : Heap}
/-! ### the head -/
def d_BadValue___init : He.DefD := ⟨("BadValue", some "__init__"), "__init__", "BadValue.__init__", defArgs s_BadValue___init, defBody s_BadValue___init, defScope s_BadValue___init, [], []⟩
def d_is_int : He.DefD := ⟨("is_int", none), "is_int", "is_int", defArgs s_is_int, defBody s_is_int, defScope s_is_int, [], []⟩
def d_is_flag : He.DefD := ⟨("is_flag", none), "is_flag", "is_flag", defArgs s_is_flag, defBody s_is_flag, defScope s_is_flag, [], []⟩
def d_is_plain : He.DefD := ⟨("is_plain", none), "is_plain", "is_plain", defArgs s_is_plain, defBody s_is_plain, defScope s_is_plain, [], []⟩
def d_is_plain_within : He.DefD := ⟨("is_plain_within", none), "is_plain_within", "is_plain_within", defArgs s_is_plain_within, defBody s_is_plain_within, defScope s_is_plain_within, [], []⟩
def d_Grid___init : He.DefD := ⟨("Grid", some "__init__"), "__init__", "Grid.__init__", defArgs s_Grid___init, defBody s_Grid___init, defScope s_Grid___init, [.bl false], []⟩
def d_Grid___getitem : He.DefD := ⟨("Grid", some "__getitem__"), "__getitem__", "Grid.__getitem__", defArgs s_Grid___getitem, defBody s_Grid___getitem, defScope s_Grid___getitem, [], []⟩
def d_Grid___setitem : He.DefD := ⟨("Grid", some "__setitem__"), "__setitem__", "Grid.__setitem__", defArgs s_Grid___setitem, defBody s_Grid___setitem, defScope s_Grid___setitem, [], []⟩
def d_Grid___call : He.DefD := ⟨("Grid", some "__call__"), "__call__", "Grid.__call__", defArgs s_Grid___call, defBody s_Grid___call, defScope s_Grid___call, [], []⟩
def d_Grid___contains : He.DefD := ⟨("Grid", some "__contains__"), "__contains__", "Grid.__contains__", defArgs s_Grid___contains, defBody s_Grid___contains, defScope s_Grid___contains, [], []⟩
def d_Grid_places : He.DefD := ⟨("Grid", some "places"), "places", "Grid.places", defArgs s_Grid_places, defBody s_Grid_places, defScope s_Grid_places, [], []⟩
def d_Grid_has_value : He.DefD := ⟨("Grid", some "has_value"), "has_value", "Grid.has_value", defArgs s_Grid_has_value, defBody s_Grid_has_value, defScope s_Grid_has_value, [], []⟩
def d_is_place : He.DefD := ⟨("is_place", none), "is_place", "is_place", defArgs s_is_place, defBody s_is_place, defScope s_is_place, [], []⟩
def d_checked_place : He.DefD := ⟨("checked_place", none), "checked_place", "checked_place", defArgs s_checked_place, defBody s_checked_place, defScope s_checked_place, [], []⟩
def d_law_well : He.DefD := ⟨("_law_well", none), "_law_well", "_law_well", defArgs s_law_well, defBody s_law_well, defScope s_law_well, [], []⟩
def d_law_draw : He.DefD := ⟨("_law_draw", none), "_law_draw", "_law_draw", defArgs s_law_draw, defBody s_law_draw, defScope s_law_draw, [], []⟩
def d_law_one : He.DefD := ⟨("_law_one", none), "_law_one", "_law_one", defArgs s_law_one, defBody s_law_one, defScope s_law_one, [], []⟩
def d_law_refused : He.DefD := ⟨("_law_refused", none), "_law_refused", "_law_refused", defArgs s_law_refused, defBody s_law_refused, defScope s_law_refused, [], []⟩
def d_law_set_in : He.DefD := ⟨("_law_set_in", none), "_law_set_in", "_law_set_in", defArgs s_law_set_in, defBody s_law_set_in, defScope s_law_set_in, [], []⟩
def d_law_tried : He.DefD := ⟨("_law_tried", none), "_law_tried", "_law_tried", defArgs s_law_tried, defBody s_law_tried, defScope s_law_tried, [], []⟩
def d_law_right : He.DefD := ⟨("_law_right", none), "_law_right", "_law_right", defArgs s_law_right, defBody s_law_right, defScope s_law_right, [], []⟩
def d_law_abyss : He.DefD := ⟨("_law_abyss", none), "_law_abyss", "_law_abyss", defArgs s_law_abyss, defBody s_law_abyss, defScope s_law_abyss, [], []⟩
def d_law_is_bad : He.DefD := ⟨("_law_is_bad", none), "_law_is_bad", "_law_is_bad", defArgs s_law_is_bad, defBody s_law_is_bad, defScope s_law_is_bad, [], []⟩
def d_law_deep_right : He.DefD := ⟨("_law_deep_right", none), "_law_deep_right", "_law_deep_right", defArgs s_law_deep_right, defBody s_law_deep_right, defScope s_law_deep_right, [], []⟩
def d_law : He.DefD := ⟨("law", none), "law", "law", defArgs s_law, defBody s_law, defScope s_law, [], []⟩
def fn : List He.DefD := [d_BadValue___init, d_is_int, d_is_flag, d_is_plain, d_is_plain_within, d_Grid___init, d_Grid___getitem, d_Grid___setitem, d_Grid___call, d_Grid___contains, d_Grid_places, d_Grid_has_value, d_is_place, d_checked_place, d_law_well, d_law_draw, d_law_one, d_law_refused, d_law_set_in, d_law_tried, d_law_right, d_law_abyss, d_law_is_bad, d_law_deep_right, d_law]
def fa : List He.Fa := [.glo "is_int", .glo "is_flag", .glo "is_plain", .glo "is_plain_within", .glo "is_place", .glo "checked_place", .glo "_law_well", .glo "_law_draw", .glo "_law_one", .glo "_law_refused", .glo "_law_set_in", .glo "_law_tried", .glo "_law_right", .glo "_law_abyss", .glo "_law_is_bad", .glo "_law_deep_right", .glo "law", .glo "Grid", .cls "Grid", .meth "Grid" "__init__", .meth "Grid" "__getitem__", .meth "Grid" "__setitem__", .meth "Grid" "__call__", .meth "Grid" "__contains__", .meth "Grid" "places", .meth "Grid" "has_value", .glo "Filling", .cls "Filling", .glo "BadValue", .free "int", .free "len", .free "range", .free "list", .free "tuple", .free "str", .free "bool", .free "repr", .free "isinstance", .int "DEEPEST" 4, .mkr "Grid", .noat "Grid" "default", .noat "Grid" "entries"]
def loose : List PySem.Str := ["_wall", "GroveError", "BadValue", "DEEPEST", "is_int", "is_flag", "by_repr", "is_plain", "is_plain_within", "Filling", "Grid", "is_place", "checked_place", "standing_in", "_law_well", "_law_draw", "_law_one", "_law_refused", "_law_set_in", "_law_tried", "_law_right", "_law_abyss", "_law_is_bad", "_law_deep_right"]
def ex (K : PySem.W.Frag) : Bool := OX.errB K (He.ga K "BadValue") "value" && (ownB K (He.ga K "Grid") "__getitem__" && (ownB K (He.ga K "Grid") "__setitem__" && (ownB K (He.ga K "Grid") "__contains__" && (ownB K (He.ga K "Grid") "__call__" && (PySem.W.noSeq K (He.ga K "Grid") && (notB K (He.ga K "Filling") && (decide (PySem.W.kitOne K (.type "list") (.ref (He.ga K "Filling")) = some false) && (decide ((He.cT K ("_law_tried", none)).2 ≠ (He.cT K ("_law_right", none)).2) && (decide ((He.cT K ("_law_tried", none)).2 ≠ (He.cT K ("_law_deep_right", none)).2) && (decide ((He.cT K ("_law_right", none)).2 ≠ (He.cT K ("_law_deep_right", none)).2) && (K.lookup sysModules).isSome))))))))))
abbrev R : PySem.W.OpenRow := PySem.W.OpenLaw.row PySem.Challenge.rw_kindgrove_k04_what_grids_refuse
def tf : List He.Defn := [("_law_tried", none), ("_law_right", none), ("_law_deep_right", none)]
def da : List He5.DefA := []
abbrev hk : PySem.W.Hook := SM.hookZ 6 fa fn tf da ex
def ob (s : PySem.W.SharedT) : SM.AlZ := SM.obsZ 6 fa fn tf da ex (HandSHeadRun.getT s)
theorem ob_eq (s : PySem.W.SharedT) : ob s = hk.obs s.abs := SM.obsZ_eq (HandSHeadRun.getT_eq s)
theorem run (w : World) : HandSHeadRun.RunEq R (PySem.W.view R.prog [28]) hk ob 6000 loose w := by
  intro os
  kernel_rfl
theorem glo {h : Heap} (X : K.In h) (G : h.Ns mainGlobals mg) (c : He.SaysD fa fn K) {x : Str} (hx : He.Fa.glo x ∈ fa) : mg x = some (.ref (He.ga K x)) := He.glo_ok X G (c.facts hx)
theorem fre {h : Heap} (X : K.In h) (G : h.Ns mainGlobals mg) (c : He.SaysD fa fn K) {x : Str} (hx : He.Fa.free x ∈ fa) : mg x = none := He.free_ok X G (c.facts hx)
theorem cal {h : Heap} (X : K.In h) (G : h.Ns mainGlobals mg) (c : He.SaysD fa fn K) {x qn : Str} {st : Stmt} {fd : FuncData} {k : Nat} {ps : List Str} {sp : Sp} (F : FnP K x qn st (He.ga K x) fd)
    (hx : He.Fa.glo x ∈ fa) (ok : FnOk P w K mg base CX0 k (He.ga K x) fd ps sp)
    (hb : ∀ (kV doc pm : Value) (an : Option Addr) (cdv ct : Value) (us : List Value), us.length = ps.length → bindArgs (PySem.W.fnOf x qn (defArgs st) (defBody st) (defScope st) .none kV doc pm an cdv ct) ⟨us, []⟩ = pure (ps.zip us)) : Cal P w K mg base CX0 x k ps sp :=
  ⟨He.ga K x, fd, ok, F.bindsN hb, glo X G c hx, F.kp⟩
theorem calm (c : He.SaysD fa fn K) {C m qn : Str} {st : Stmt} {fd : FuncData} {k : Nat} {ps : List Str} {sp : Sp} (F : FnP K m qn st (He.ma K (He.ga K C) m) fd)
    (hx : He.Fa.meth C m ∈ fa) (ok : FnOk P w K mg base CX0 k (He.ma K (He.ga K C) m) fd ps sp)
    (hb : ∀ (kV doc pm : Value) (an : Option Addr) (cdv ct : Value) (us : List Value), us.length = ps.length → bindArgs (PySem.W.fnOf m qn (defArgs st) (defBody st) (defScope st) .none kV doc pm an cdv ct) ⟨us, []⟩ = pure (ps.zip us)) : CalM P w K mg base CX0 (He.ga K C) m k ps sp :=
  ⟨He.ma K (He.ga K C) m, fd, ok, F.bindsN hb, He.meth_ok (c.facts hx)⟩
theorem tabs_of {H : Hp} (h : ∀ p ∈ tf.map (He.cT K), H p.2 = some (.tbl #[])) : LamX.Tabs (TT K) H := fun p hp => by
  simp only [TT, List.mem_cons, List.not_mem_nil, or_false] at hp
  rcases hp with rfl | rfl | rfl
  · exact LamX.TabS.nil (h _ (List.mem_map.mpr ⟨("_law_tried", none), by decide, rfl⟩))
  · exact LamX.TabS.nil (h _ (List.mem_map.mpr ⟨("_law_right", none), by decide, rfl⟩))
  · exact LamX.TabS.nil (h _ (List.mem_map.mpr ⟨("_law_deep_right", none), by decide, rfl⟩))
theorem facts {h : Heap} {f : Addr} (X : K.In h) (G : h.Ns mainGlobals mg) (hfa : mg ("law" : Str) = some (.ref f)) (c : He.SaysD fa fn K) (m : ex K = true) :
    ∃ fd : FuncData, (∀ (s : Shared) (v : Value), BindsTo s fd ⟨[v], []⟩ [("_law_script", v)]) ∧ ∀ base : Heap, K.In base → base.Ns mainGlobals mg → (∀ p ∈ tf.map (He.cT K), LamX.TabB base mg p.1 p.2) → GD.FnG P w K mg base CX0 18 f fd ["_law_script"] (spLaw K) := by
  obtain ⟨m1, m⟩ := He.ba m
  obtain ⟨m2, m⟩ := He.ba m
  obtain ⟨m3, m⟩ := He.ba m
  obtain ⟨m4, m⟩ := He.ba m
  obtain ⟨m5, m⟩ := He.ba m
  obtain ⟨m6, m⟩ := He.ba m
  obtain ⟨m7, m⟩ := He.ba m
  obtain ⟨m8, m⟩ := He.ba m
  obtain ⟨m9, m⟩ := He.ba m
  obtain ⟨ma, m⟩ := He.ba m
  obtain ⟨mb, mc⟩ := He.ba m
  have EB := OX.errB_ok m1
  have ds : Dst K := ⟨of_decide_eq_true m9, of_decide_eq_true ma, of_decide_eq_true mb⟩
  obtain ⟨fd_law, F_law⟩ : ∃ fd, FnP K "law" "law" s_law (He.ga K "law") fd := c.def_ 24 (d := d_law) rfl
  obtain ⟨fd_law_well, F_law_well⟩ : ∃ fd, FnP K "_law_well" "_law_well" s_law_well (He.ga K "_law_well") fd := c.def_ 14 (d := d_law_well) rfl
  obtain ⟨fd_law_draw, F_law_draw⟩ : ∃ fd, FnP K "_law_draw" "_law_draw" s_law_draw (He.ga K "_law_draw") fd := c.def_ 15 (d := d_law_draw) rfl
  obtain ⟨fd_law_one, F_law_one⟩ : ∃ fd, FnP K "_law_one" "_law_one" s_law_one (He.ga K "_law_one") fd := c.def_ 16 (d := d_law_one) rfl
  obtain ⟨fd_law_refused, F_law_refused⟩ : ∃ fd, FnP K "_law_refused" "_law_refused" s_law_refused (He.ga K "_law_refused") fd := c.def_ 17 (d := d_law_refused) rfl
  obtain ⟨fd_law_set_in, F_law_set_in⟩ : ∃ fd, FnP K "_law_set_in" "_law_set_in" s_law_set_in (He.ga K "_law_set_in") fd := c.def_ 18 (d := d_law_set_in) rfl
  obtain ⟨fd_law_tried, F_law_tried⟩ : ∃ fd, FnP K "_law_tried" "_law_tried" s_law_tried (He.ga K "_law_tried") fd := c.def_ 19 (d := d_law_tried) rfl
  obtain ⟨fd_law_right, F_law_right⟩ : ∃ fd, FnP K "_law_right" "_law_right" s_law_right (He.ga K "_law_right") fd := c.def_ 20 (d := d_law_right) rfl
  obtain ⟨fd_law_abyss, F_law_abyss⟩ : ∃ fd, FnP K "_law_abyss" "_law_abyss" s_law_abyss (He.ga K "_law_abyss") fd := c.def_ 21 (d := d_law_abyss) rfl
  obtain ⟨fd_law_is_bad, F_law_is_bad⟩ : ∃ fd, FnP K "_law_is_bad" "_law_is_bad" s_law_is_bad (He.ga K "_law_is_bad") fd := c.def_ 22 (d := d_law_is_bad) rfl
  obtain ⟨fd_law_deep_right, F_law_deep_right⟩ : ∃ fd, FnP K "_law_deep_right" "_law_deep_right" s_law_deep_right (He.ga K "_law_deep_right") fd := c.def_ 23 (d := d_law_deep_right) rfl
  obtain ⟨fd_is_int, F_is_int⟩ : ∃ fd, FnP K "is_int" "is_int" s_is_int (He.ga K "is_int") fd := c.def_ 1 (d := d_is_int) rfl
  obtain ⟨fd_is_flag, F_is_flag⟩ : ∃ fd, FnP K "is_flag" "is_flag" s_is_flag (He.ga K "is_flag") fd := c.def_ 2 (d := d_is_flag) rfl
  obtain ⟨fd_is_plain, F_is_plain⟩ : ∃ fd, FnP K "is_plain" "is_plain" s_is_plain (He.ga K "is_plain") fd := c.def_ 3 (d := d_is_plain) rfl
  obtain ⟨fd_is_plain_within, F_is_plain_within⟩ : ∃ fd, FnP K "is_plain_within" "is_plain_within" s_is_plain_within (He.ga K "is_plain_within") fd := c.def_ 4 (d := d_is_plain_within) rfl
  obtain ⟨fd_is_place, F_is_place⟩ : ∃ fd, FnP K "is_place" "is_place" s_is_place (He.ga K "is_place") fd := c.def_ 12 (d := d_is_place) rfl
  obtain ⟨fd_checked_place, F_checked_place⟩ : ∃ fd, FnP K "checked_place" "checked_place" s_checked_place (He.ga K "checked_place") fd := c.def_ 13 (d := d_checked_place) rfl
  obtain ⟨fd_BadValue___init, F_BadValue___init⟩ : ∃ fd, FnP K "__init__" "BadValue.__init__" s_BadValue___init (He.ma K (He.ga K "BadValue") "__init__") fd := c.def_ 0 (d := d_BadValue___init) rfl
  obtain ⟨fd_Grid___init, F_Grid___init⟩ : ∃ fd, FunD K "__init__" "Grid.__init__" (defArgs s_Grid___init) (defBody s_Grid___init) (defScope s_Grid___init) [(He.Dv.v K (.bl false : He.Dv))] [] (He.ma K (He.ga K "Grid") "__init__") fd := c.def_ 5 (d := d_Grid___init) rfl
  obtain ⟨fd_Grid___getitem, F_Grid___getitem⟩ : ∃ fd, FnP K "__getitem__" "Grid.__getitem__" s_Grid___getitem (He.ma K (He.ga K "Grid") "__getitem__") fd := c.def_ 6 (d := d_Grid___getitem) rfl
  obtain ⟨fd_Grid___setitem, F_Grid___setitem⟩ : ∃ fd, FnP K "__setitem__" "Grid.__setitem__" s_Grid___setitem (He.ma K (He.ga K "Grid") "__setitem__") fd := c.def_ 7 (d := d_Grid___setitem) rfl
  obtain ⟨fd_Grid___call, F_Grid___call⟩ : ∃ fd, FnP K "__call__" "Grid.__call__" s_Grid___call (He.ma K (He.ga K "Grid") "__call__") fd := c.def_ 8 (d := d_Grid___call) rfl
  obtain ⟨fd_Grid___contains, F_Grid___contains⟩ : ∃ fd, FnP K "__contains__" "Grid.__contains__" s_Grid___contains (He.ma K (He.ga K "Grid") "__contains__") fd := c.def_ 9 (d := d_Grid___contains) rfl
  obtain ⟨fd_Grid_places, F_Grid_places⟩ : ∃ fd, FnP K "places" "Grid.places" s_Grid_places (He.ma K (He.ga K "Grid") "places") fd := c.def_ 10 (d := d_Grid_places) rfl
  obtain ⟨fd_Grid_has_value, F_Grid_has_value⟩ : ∃ fd, FnP K "has_value" "Grid.has_value" s_Grid_has_value (He.ma K (He.ga K "Grid") "has_value") fd := c.def_ 11 (d := d_Grid_has_value) rfl
  have e := hfa.symm.trans (glo X G c (x := "law") (List.mem_of_getElem? (i := 16) rfl))
  cases e
  have b := FunD.bindsA (ps := ["_law_script"]) F_law fun _ _ _ _ _ _ us hl => match us, hl with | [_], _ => rfl
  refine ⟨fd_law, fun s v => b s [v] rfl, fun base _ _ tb => ?_⟩
  have m_int := fre X G c (List.mem_of_getElem? (i := 29) rfl)
  have m_len := fre X G c (List.mem_of_getElem? (i := 30) rfl)
  have m_range := fre X G c (List.mem_of_getElem? (i := 31) rfl)
  have m_list := fre X G c (List.mem_of_getElem? (i := 32) rfl)
  have m_tuple := fre X G c (List.mem_of_getElem? (i := 33) rfl)
  have m_str := fre X G c (List.mem_of_getElem? (i := 34) rfl)
  have m_bool := fre X G c (List.mem_of_getElem? (i := 35) rfl)
  have m_repr := fre X G c (List.mem_of_getElem? (i := 36) rfl)
  have m_isinstance := fre X G c (List.mem_of_getElem? (i := 37) rfl)
  have cl := He.cls_ok (c.facts (List.mem_of_getElem? (i := 18) rfl))
  have gc : GCls K (He.ga K "Grid") := ⟨cl, He.noat_ok (c.facts (List.mem_of_getElem? (i := 40) rfl)), He.noat_ok (c.facts (List.mem_of_getElem? (i := 41) rfl))⟩
  have m_G := glo X G c (x := "Grid") (List.mem_of_getElem? (i := 17) rfl)
  have m_F := glo X G c (x := "Filling") (List.mem_of_getElem? (i := 26) rfl)
  have m_B := glo X G c (x := "BadValue") (List.mem_of_getElem? (i := 28) rfl)
  have O_get := ownB_ok m2
  have O_set := ownB_ok m3
  have O_con := ownB_ok m4
  have O_call := ownB_call m5
  have nq : PySem.W.noSeq K (He.ga K "Grid") = true := m6
  have kF := notB_ok m7
  have kL : ∀ T ∈ ["list", "tuple"], PySem.W.kitOne K (.type T) (.ref (He.ga K "Filling")) = some false := fun T hT => by
    simp only [List.mem_cons, List.not_mem_nil, or_false] at hT
    rcases hT with rfl | rfl
    · exact of_decide_eq_true m8
    · exact kF _ (by decide)
  obtain ⟨td, hD⟩ := He.int_ok X G (c.facts (List.mem_of_getElem? (i := 38) rfl))
  have CWl : Cal P w K mg base CX0 "_law_well" 17 ["_law_cell"] spWell := (cal X G c F_law_well (List.mem_of_getElem? (i := 6) rfl) ((ok_well (k := 0) F_law_well m_int).mono (by omega)) fun _ _ _ _ _ _ us hl => match us, hl with | [_], _ => rfl)
  have CDr : ∀ k, Cal P w K mg base CX0 "_law_draw" (k + 1) ["_law_well_here", "_law_many"] spDraw := fun k => (cal X G c F_law_draw (List.mem_of_getElem? (i := 7) rfl) ((ok_draw (k := 0) F_law_draw m_int).mono (by omega)) fun _ _ _ _ _ _ us hl => match us, hl with | [_, _], _ => rfl)
  have COn : Cal P w K mg base CX0 "_law_one" 11 ["_law_well_here", "_law_some"] (spOne K) := (cal X G c F_law_one (List.mem_of_getElem? (i := 8) rfl) ((ok_one F_law_one (CDr 0) m_len).mono (by omega)) fun _ _ _ _ _ _ us hl => match us, hl with | [_, _], _ => rfl)
  have CIn : Cal P w K mg base CX0 "is_int" 1 ["thing"] (spInt K) := (cal X G c F_is_int (List.mem_of_getElem? (i := 0) rfl) (ok_int F_is_int m_isinstance m_int m_bool) fun _ _ _ _ _ _ us hl => match us, hl with | [_], _ => rfl)
  have CFl : Cal P w K mg base CX0 "is_flag" 7 ["thing"] (spFlag K) := (cal X G c F_is_flag (List.mem_of_getElem? (i := 1) rfl) ((ok_flag (k := 0) F_is_flag m_isinstance m_bool).mono (by omega)) fun _ _ _ _ _ _ us hl => match us, hl with | [_], _ => rfl)
  have CPw : Cal P w K mg base CX0 "is_plain_within" 6 ["thing", "deepest"] (spW K 5) := (cal X G c F_is_plain_within (List.mem_of_getElem? (i := 3) rfl) (ok_within F_is_plain_within m_isinstance m_str m_tuple m_len CIn (F_is_plain_within.bindsN (ps := ["thing", "deepest"]) fun _ _ _ _ _ _ us hl => match us, hl with | [_, _], _ => rfl) (glo X G c (List.mem_of_getElem? (i := 3) rfl)) F_is_plain_within.kp 5) fun _ _ _ _ _ _ us hl => match us, hl with | [_, _], _ => rfl)
  have CPl : Cal P w K mg base CX0 "is_plain" 7 ["thing"] (spPlain K) := (cal X G c F_is_plain (List.mem_of_getElem? (i := 2) rfl) (ok_plain F_is_plain hD CPw) fun _ _ _ _ _ _ us hl => match us, hl with | [_], _ => rfl)
  have GE := ok_err (P := P) (w := w) (mg := mg) (base := base) (k := 0) F_BadValue___init EB.ox EB.no
  have bE := F_BadValue___init.bindsN (ps := ["self", "value"]) fun _ _ _ _ _ _ us hl => match us, hl with | [_, _], _ => rfl
  have ER : Er P w K mg base (He.ga K "BadValue") (He.ma K (He.ga K "BadValue") "__init__") fd_BadValue___init := ⟨m_B, EB.ox, EB.iC, EB.tI, GE, bE⟩
  have rf : RefF K mg (He.ga K "BadValue") := ⟨mc, m_B, m_repr, EB.xf, EB.no, EB.te⟩
  have bC4 := F_checked_place.bindsN (ps := ["thing"]) fun _ _ _ _ _ _ us hl => match us, hl with | [_], _ => rfl
  have CCh : Cal P w K mg base (L2.CX P w) "checked_place" 8 ["thing"] (spChk4 K (He.ga K "BadValue")) := ⟨_, _, ok_chk4 (k := 5) F_checked_place m_isinstance m_tuple m_len ER CPl, bC4, glo X G c (List.mem_of_getElem? (i := 5) rfl), F_checked_place.kp⟩
  have CPc : Cal P w K mg base CX0 "is_place" 8 ["thing"] (spPlace K) := (cal X G c F_is_place (List.mem_of_getElem? (i := 4) rfl) (ok_place F_is_place m_isinstance m_tuple m_len CPl) fun _ _ _ _ _ _ us hl => match us, hl with | [_], _ => rfl)
  have GI := ok_init4 (P := P) (w := w) (base := base) (k := 5) F_Grid___init m_isinstance m_F kF gc ER CFl CPl
  have GG := ok_get4 (P := P) (w := w) (base := base) F_Grid___getitem gc CCh
  have bG := F_Grid___getitem.bindsN (ps := ["self", "at"]) fun _ _ _ _ _ _ us hl => match us, hl with | [_, _], _ => rfl
  have RG := raw4 GG bG
  have DH : CalM P w K mg base CX0 (He.ga K "Grid") "has_value" 8 ["self", "thing"] (spHas4 K (He.ga K "Grid")) := (calm c F_Grid_has_value (List.mem_of_getElem? (i := 25) rfl) (ok_has4 F_Grid_has_value gc CFl CPl) fun _ _ _ _ _ _ us hl => match us, hl with | [_, _], _ => rfl)
  have GS := ok_set4 (P := P) (w := w) (base := base) (k := 6) F_Grid___setitem gc ER CCh DH
  have bS := F_Grid___setitem.bindsN (ps := ["self", "at", "worth"]) fun _ _ _ _ _ _ us hl => match us, hl with | [_, _, _], _ => rfl
  have RS := raw4 GS bS
  have GC := ok_call4 (P := P) (w := w) (base := base) F_Grid___call O_get RG
  have bC := F_Grid___call.bindsN (ps := ["self", "one", "other"]) fun _ _ _ _ _ _ us hl => match us, hl with | [_, _, _], _ => rfl
  have RC := raw4 GC bC
  have RN := raw0 (ok_con (P := P) (w := w) (base := base) F_Grid___contains gc CPc) (F_Grid___contains.bindsN (ps := ["self", "x"]) fun _ _ _ _ _ _ us hl => match us, hl with | [_, _], _ => rfl)
  have DP : CalM P w K mg base CX0 (He.ga K "Grid") "places" 11 ["self"] (spPlaces P w (He.ga K "Grid")) := (calm c F_Grid_places (List.mem_of_getElem? (i := 24) rfl) ((ok_places (k := 0) F_Grid_places gc m_list).mono (by omega)) fun _ _ _ _ _ _ us hl => match us, hl with | [_], _ => rfl)
  obtain ⟨its, kbG⟩ := FunD.kbindsD (ps := ["self", "default"]) F_Grid___init 1 ["default"] (fun us _ ws => us ++ ws) (by simp) (fun r1 _ r3 => r1.append r3) (by
    intro T kV doc pm an cdv ct us its ws h1 h2 h3
    match us, its, ws, h1, h2, h3 with
    | [_], [_], [_], _, _, _ => exact ⟨_, rfl, rfl⟩)
  obtain ⟨ds8, r8, b8⟩ := FunD.binds1 (ps := ["self", "default"]) F_Grid___init 1 0 (by simp) (by simp) (by
    intro T kV doc pm an cdv ct us its h1 h2
    match us, its, h1, h2 with
    | [_], [_], _, _ => exact ⟨_, rfl, rfl⟩)
  obtain ⟨ds0, r0, b0⟩ := FunD.binds1 (ps := ["self", "default"]) F_Grid___init 2 1 (by simp) (by simp) (by
    intro T kV doc pm an cdv ct us its h1 h2
    match us, its, h1, h2 with
    | [_, _], [_], _, _ => exact ⟨_, rfl, rfl⟩)
  cases r0
  have M_G := He.mkr_ok (c.facts (List.mem_of_getElem? (i := 39) rfl))
  have bA : ∀ (x : Str) (hx : x = "_law_ask") (us : List Value), True := fun _ _ _ => trivial
  have bR := F_law_refused.bindsN (ps := ["_law_ask"]) fun _ _ _ _ _ _ us hl => match us, hl with | [_], _ => rfl
  have bI := F_law_is_bad.bindsN (ps := ["_law_ask"]) fun _ _ _ _ _ _ us hl => match us, hl with | [_], _ => rfl
  have RR : Tells K mg "_law_refused" s_law_refused := tells_of F_law_refused (glo X G c (List.mem_of_getElem? (i := 9) rfl)) bR
  have RI : Tells K mg "_law_is_bad" s_law_is_bad := tells_of F_law_is_bad (glo X G c (List.mem_of_getElem? (i := 14) rfl)) bI
  have bSI := F_law_set_in.bindsN (ps := ["_law_grid", "_law_at", "_law_worth"]) fun _ _ _ _ _ _ us hl => match us, hl with | [_, _, _], _ => rfl
  have GSI := ok_setin (P := P) (w := w) (base := base) F_law_set_in nq O_set RS
  have CSI : ∀ j, 10 ≤ j → Cal P w K mg base (L2.CX P w) "_law_set_in" j ["_law_grid", "_law_at", "_law_worth"] (spSet4 P w K (He.ga K "Grid") (He.ga K "BadValue")) := fun j hj => ⟨_, _, GSI.mono hj, bSI, glo X G c (List.mem_of_getElem? (i := 10) rfl), F_law_set_in.kp⟩
  have tbT := tb _ (List.mem_map.mpr ⟨("_law_tried", none), by decide, rfl⟩)
  have tbR := tb _ (List.mem_map.mpr ⟨("_law_right", none), by decide, rfl⟩)
  have tbD := tb _ (List.mem_map.mpr ⟨("_law_deep_right", none), by decide, rfl⟩)
  have GT := ok_tried (P := P) (w := w) (base := base) (k := 10) F_law_tried tbT ds RR rf O_get (RG.mono (by omega)) (CSI 10 (by omega))
  have CTr : GD.CalG P w K mg base CX0 "_law_tried" 16 ["_law_grid", "_law_at", "_law_worth", "_law_due"] (spTried P w K (He.ga K "Grid")) := ⟨_, _, GT.mono (by omega), F_law_tried.bindsN fun _ _ _ _ _ _ us hl => match us, hl with | [_, _, _, _], _ => rfl, glo X G c (List.mem_of_getElem? (i := 11) rfl), F_law_tried.kp⟩
  have GR := ok_right (P := P) (w := w) (base := base) (k := 11) F_law_right tbR ds RR rf m_G M_G cl kL (GI.mono (by omega)) b0 kbG rfl nq O_set (RS.mono (by omega)) O_get (RG.mono (by omega)) O_call (RC.mono (by omega)) (CDr 10) COn (CSI 11 (by omega)) CTr DP
  have GDp := ok_deep (P := P) (w := w) (base := base) (k := 11) F_law_deep_right tbD ds RI rf m_G M_G cl kL (GI.mono (by omega)) b0 b8 r8 nq O_set (RS.mono (by omega)) O_get (RG.mono (by omega)) O_call (RC.mono (by omega)) O_con (RN.mono (by omega)) (cal X G c F_law_abyss (List.mem_of_getElem? (i := 13) rfl) ((ok_abyss (k := 0) F_law_abyss m_range).mono (by omega)) fun _ _ _ _ _ _ us hl => match us, hl with | [_], _ => rfl) (CSI 11 (by omega)) DP
  exact ok_law (k := 17) F_law CWl ⟨_, _, GR, F_law_right.bindsN fun _ _ _ _ _ _ us hl => match us, hl with | [_], _ => rfl, glo X G c (List.mem_of_getElem? (i := 12) rfl), F_law_right.kp⟩ ⟨_, _, GDp, F_law_deep_right.bindsN fun _ _ _ _ _ _ us hl => match us, hl with | [], _ => rfl, glo X G c (List.mem_of_getElem? (i := 15) rfl), F_law_deep_right.kp⟩
end
end K04
open PySem PySem.W PySem.Calls PyProof.Rows
set_option maxRecDepth 100000 in
set_option maxHeartbeats 0 in
theorem PySem.Challenge.cw_kindgrove_k04_what_grids_refuse_holds : PySem.Challenge.rw_kindgrove_k04_what_grids_refuse.Holds := by
  w_on; o_law
  refine HandSHeadRun.head_any (r := OpenLaw.row PySem.Challenge.rw_kindgrove_k04_what_grids_refuse) (q := view (OpenLaw.row PySem.Challenge.rw_kindgrove_k04_what_grids_refuse).prog [28]) (H := K04.hk) (ob := K04.ob) (M := 6000) (loose := K04.loose) (d := HandSHeadRun.topDef (OpenLaw.row PySem.Challenge.rw_kindgrove_k04_what_grids_refuse).prog 28) (kwd := []) K04.ob_eq
    (by kernel_rfl) (fun s => by kernel_rfl) K04.run (by kernel_rfl) (by kernel_rfl) (by kernel_rfl) (by rfl) (by first | assumption | decide +kernel) (by decide +kernel) ⟨rfl, rfl, rfl, rfl, rfl, by decide +kernel⟩ ?hw ?hc
  case hw => w_witness2
  case hc =>
    refine GD.walk_G (l := PySem.Challenge.rw_kindgrove_k04_what_grids_refuse) (n := 63) (k := 18) (x := "_law_script") (CX := fun _ => L2.CX0) rfl (by decide) (by kernel_rfl) ⟨rfl, by decide, by decide⟩ ?F (fun _ _ _ _ _ z => z)
    intro w mg fa h Y G hmg0
    obtain ⟨K, KX, c⟩ := Y
    have hmg : mg ("law" : PySem.Str) = some (.ref fa) := by
      have e : (HandSHeadRun.topDef (OpenLaw.row PySem.Challenge.rw_kindgrove_k04_what_grids_refuse).prog 28).name = ("law" : PySem.Str) := by kernel_rfl
      rw [← e]
      exact hmg0
    obtain ⟨fd, hb, hF⟩ := K04.facts (P := (PySem.Challenge.rw_kindgrove_k04_what_grids_refuse).prog) (w := w) KX G hmg c.x.t.d c.x.more
    refine ⟨K, KX, fd, K04.tf.map (He.cT K), K04.spLaw K, fun p hp => ?_, hb, fun H a ns hl hTb hS => ⟨a, ns, rfl, hS, hl, K04.tabs_of hTb, fun _ => rfl⟩, hF⟩
    obtain ⟨p0, hp0, rfl⟩ := List.mem_map.mp hp
    exact ⟨c.x.empty p0 hp0, c.x.out p0 hp0, PySem.W.codeHd_of_K KX (c.x.hd p0 hp0)⟩
