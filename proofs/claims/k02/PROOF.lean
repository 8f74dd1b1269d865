import PyProof.Rows.All
import Wide.All
import OpenK.AllK
import Wide.FinOn
import HandS.ForMost
import HandS.ExcInit
import HandS.ExcValue
import HandS.Defaults
import HandS.IsInst
import HandS.MakeKw
import HandS.ExcIs
import KE.KExcIs
import HandS.Wide
import HandS.NoneIn
import HandS.Style
import HandS.DeepEq
import PyProof.NeKinds
import HandS.HeadHook4
import HandS.Head0
import HandS.Head1
import HandS.Head2
import HandS.HeadEnd
import HandS.Walk
import PySem.Challenge.RW_kindgrove_k02_errors_apart
set_option Elab.async false
set_option linter.all false
set_option maxRecDepth 100000
set_option maxHeartbeats 4000000
namespace PySem
namespace EXV
open PySem.W PySem.Calls PyProof.Rows PySem.HandSPX
section
variable {prog : Program} {w : World} {A : Around} {R : Result → Shared → Prop} {hh : Heap} {gg : Array GenState} {dd : Drawn} {tt : Nat} {oo : OsState}
variable {nm q : Str} {C N : Addr} {bs bm bmB : List Value} {hdct : Bool} {sn : List Str} {sub : List Value} {ab : Bool} {col : Option Bool} {di : Option Addr} {k0 k1 k2 k3 k5 : Option Value} {B newId initId : String}
variable {xs : List Value} {kw : List (Str × Value)} {fI : Addr}

theorem chk_newK {M : Model} {E : Value → Shared → Prop} (F : ExcBaseFacts B newId initId bmB) (hT : ∀ Y : String, bm.contains (.type Y) = bmB.contains (.type Y)) {Q : Unit → Shared → Prop}
    (hC : hh.get? C = some (excClassObj nm q C N bs bm hdct sn sub ab col di k0 k1 k2 k3 k5 newId)) (hq : Q () ⟨hh, gg, dd, tt, oo⟩) :
    wpAny M A (checkBuiltinCall newId ⟨.ref C :: xs, kw⟩) Q E ⟨hh, gg, dd, tt, oo⟩ := by
  have has : (Value.ref C :: bm).contains (.type B) = true := by
    rw [List.contains_cons, hT, F.hasB, Bool.or_true]
  have star := F.noStar
  simp only [checkBuiltinCall, F.newKind, F.newSplit, F.newRow]
  repeat (first | refine wpAny_loadPart_at hC ?_ | (refine wpAny_isSubtype_exc hC ?_; rw [has]) | refine wpAny_staticBase_exc hC ?_ | refine wpAny_madeBy_exc hC ?_ | simp only [bne_self_eq_false, Bool.false_eq_true, if_false] | wp_step)
  exact hq
theorem newK (F : ExcBaseFacts B newId initId bmB) (hT : ∀ Y : String, bm.contains (.type Y) = bmB.contains (.type Y))
    (hC : hh.get? C = some (excClassObj nm q C N bs bm hdct sn sub ab col di k0 k1 k2 k3 k5 newId)) (hl : xs.length ≤ sizeLine)
    (hq : R (.ok (.ret (.ref (hh.objs.size + 1)))) ⟨(hh.push (W.kdv_tup xs)).push (excO C hh.objs.size), gg, dd, tt, oo⟩) :
    codeAny (model prog w) A (.builtin newId ⟨.ref C :: xs, kw⟩) R ⟨hh, gg, dd, tt, oo⟩ := by
  have ends := F.ends
  have c1 : (Value.ref C :: bm).contains (.type B) = true := by
    rw [List.contains_cons, hT, F.hasB, Bool.or_true]
  have c2 : (Value.ref C :: bm).contains (.type "AttributeError") = false := by
    rw [List.contains_cons, hT, F.noAttr]; rfl
  have c3 : (Value.ref C :: bm).contains (.type "NameError") = false := by
    rw [List.contains_cons, hT, F.noName]; rfl
  refine codeAny_builtinAt F.entry ?_
  unfold Builtin.«BaseException.__new__»
  refine wpAt_bind ?_
  show wpAt _ _ _ (stack >>= _) _ _ _
  refine wpAt_bind (wpAt_stack fun pp low => wpAt_of_wpAny ?_)
  wp_walk
  refine wpAt_of_wpAny ?_
  rw [F.owner]
  repeat (first | with_reducible refine wpAny_madeHere_exc F.canon hC ?_ | with_reducible refine wpAny_loadPart_at hC ?_ | (with_reducible refine wpAny_isSubtype_exc hC ?_; first | rw [c1] | rw [c2] | rw [c3]) | wp_step)
  show R _ _
  rw [Heap.size_push]
  exact hq
theorem type_callK (F : ExcBaseFacts B newId initId bmB) (hT : ∀ Y : String, bm.contains (.type Y) = bmB.contains (.type Y)) {Q : Fin → Shared → Prop} {E : Value → Shared → Prop}
    (hC : hh.get? C = some (excClassObj nm q C N bs bm hdct sn sub ab col di k0 k1 k2 k3 k5 newId))
    (hi : W.Looks (model prog w) hh (typeLookup (.ref C) "__init__") (some (.ref fI))) (hb : ∀ me, W.Looks (model prog w) hh (bindSpecial (.ref fI) me) (.ref fI, [me])) (hl : xs.length ≤ sizeLine)
    (hq : codeAny (model prog w) A (.call (.ref fI) ⟨.ref (hh.objs.size + 1) :: xs, kw⟩)
      (fun r s' => match r with | .ok (.ret v) => v = .none ∧ Q (.done (.ret (.ref (hh.objs.size + 1)))) s' | .ok _ => False | .error e => E e s')
      ⟨(hh.push (W.kdv_tup xs)).push (excO C hh.objs.size), gg, dd, tt, oo⟩) :
    wpAny (model prog w) A (Builtin.«type.__call__» ⟨.ref C :: xs, kw⟩) Q E ⟨hh, gg, dd, tt, oo⟩ := by
  repeat (first | with_reducible refine wpAny_loadPart_at hC ?_ | with_reducible refine wpAny_madeBy_exc hC ?_ | wp_step)
  refine codeAny_call_builtin_code (Code.quiet_builtin _ F.quiet) (chk_newK F hT hC ?_)
  refine newK F hT hC hl ?_
  show wpAny _ _ _ _ _ _
  have k : ∀ b o, hh.get? b = some o → ((hh.push (W.kdv_tup xs)).push (excO C hh.objs.size)).get? b = some o := fun b o z => Heap.get?_push_of_some _ (Heap.get?_push_of_some _ z)
  have hC1 := k _ _ hC
  have hg : ((hh.push (W.kdv_tup xs)).push (excO C hh.objs.size)).get? (hh.objs.size + 1) = some (excO C hh.objs.size) := by heap_get
  have cC : (Value.ref C :: bm).contains (.ref C) = true := by simp
  have i1 := hi.keeps k
  have b1 := (hb (.ref (hh.objs.size + 1))).keeps k
  unfold isInstance
  repeat (first | with_reducible refine wpAny_loadPart_at hg ?_ | (with_reducible refine wpAny_isSubtype_exc hC1 ?_; rw [cC]) | wp_step)
  show wpAny _ _ (typeLookup (.ref C) _) _ _ _
  refine i1.at ?_
  refine wpAny_holding (wpAny_bind (b1.at ?_))
  refine wpAny_bind (wpAny_call (codeAny_mono hq fun r s' z => ?_))
  rcases r with e | (v | _ | _ | _) <;> first | exact z | exact z.elim | skip
  obtain ⟨rfl, z⟩ := z
  first
    | exact wpAny_pure (wpAny_pure z)
    | (wp_walk; exact z)
theorem callK (F : ExcBaseFacts B newId initId bmB) (hT : ∀ Y : String, bm.contains (.type Y) = bmB.contains (.type Y))
    (hC : hh.get? C = some (excClassObj nm q C N bs bm hdct sn sub ab col di k0 k1 k2 k3 k5 newId))
    (hi : W.Looks (model prog w) hh (typeLookup (.ref C) "__init__") (some (.ref fI))) (hb : ∀ me, W.Looks (model prog w) hh (bindSpecial (.ref fI) me) (.ref fI, [me])) (hl : xs.length ≤ sizeLine)
    (hq : codeAny (model prog w) (A.under (.builtin "type.__call__" ⟨.ref C :: xs, kw⟩)) (.call (.ref fI) ⟨.ref (hh.objs.size + 1) :: xs, kw⟩) (W.InitBack (hh.objs.size + 1) R)
      ⟨(hh.push (W.kdv_tup xs)).push (excO C hh.objs.size), gg, dd, tt, oo⟩) :
    codeAny (model prog w) A (.call (.ref C) ⟨xs, kw⟩) R ⟨hh, gg, dd, tt, oo⟩ := by
  have f1 := tc_lookup
  have f2 := tc_bind (.ref C)
  have ty : (⟨hh, gg, dd, tt, oo⟩ : Shared).TypeIs (.ref C) "type" := ⟨_, hC, rfl⟩
  refine codeAny_of_tree ?_
  show wpAny _ _ (callAny (.ref C) _) _ _ _
  repeat (any_goals (first | assumption | with_reducible refine wpAny_loadPart_at hC ?_ | wp_step))
  refine ⟨rfl, ?_⟩
  refine codeAny_call_builtin_at (Code.quiet_builtin _ (by decide +kernel)) entry_typeCall (wpAny_check_type_call_sub hC (type_callK F hT hC hi hb hl ?_))
  refine codeAny_mono hq fun r s' z => ?_
  rcases r with e | (v | _ | _ | _) <;> exact z
end
end EXV
end PySem
set_option Elab.async false
set_option linter.all false
set_option maxRecDepth 100000
set_option maxHeartbeats 4000000
namespace EX
open PySem PySem.Spec PyProof.Rows L2
/-- what isinstance and attributes ask of a class of exceptions -/
structure ExcK (K : PySem.W.Frag) (D : Addr) : Prop where
  cl : (PySem.W.clsIn K D).isSome = true
  ga : PySem.W.findIn K (.ref D) "__getattribute__" = some (some (.builtin "BaseException.__getattribute__"))
  gt : PySem.W.findIn K (.ref D) "__getattr__" = some none
  sb : PySem.W.subIn K (.ref D) (.type "BaseException") = some true
  hd : PySem.W.hasDictIn K D = true
  ca : PySem.W.findIn K (.ref D) "__class__" = some (some (.builtin "object.__class__"))
  gs : PySem.W.specialIn K (.builtin "object.__class__") "__get__" = some (some (.builtin "getset_descriptor.__get__"))
  tk : PySem.W.takesIn K (.builtin "object.__class__") = some true
  mr : PySem.W.mroIn K D (.type "object") = some true
/-- an exception of the class at C with these attributes stands at a -/
def ExAt (H : Hp) (a C : Addr) (fs : List (Str × V)) : Prop := (∃ d, H a = some (exo a C (some d)) ∧ H d = some (exd d fs)) ∨ (fs = [] ∧ H a = some (ExO (.ref C) a))
section
variable {X : Cx} {pins : List (Addr × Obj)} {σ : L2.St} {H : Hp} {s : Shared} {a C : Addr} {fs : List (Str × V)}
theorem ExAt.mono {H' : Hp} (h : ExAt H a C fs) (k : Same H H') : ExAt H' a C fs := by
  rcases h with ⟨d, h1, h2⟩ | ⟨e, h1⟩
  · exact .inl ⟨d, k _ _ h1, k _ _ h2⟩
  · exact .inr ⟨e, k _ _ h1⟩
/-- the object itself -/
theorem ExAt.obj (I : Inv X pins σ H s) (h : ExAt H a C fs) : ∃ (ox : Obj) (od : Option Obj), PySem.W.InstAt s.heap a ox C od ∧
    ((fs = [] ∧ od = none) ∨ ∃ (dx : Addr) (o : Obj) (mA : Str → Option Value), od = some o ∧ s.heap.Ns1 dx mA ∧ s.heap.get? dx = some o ∧ ∀ f, RelO (fs.lookup f) (mA f)) := by
  rcases h with ⟨d, h1, h2⟩ | ⟨e, h1⟩
  · obtain ⟨t1, ho⟩ := exo_at I.hok h1
    obtain ⟨mA, hns, rel⟩ := exd_at I.hok h2
    have hns' := hns
    obtain ⟨o, es, ep, q1, q2⟩ := hns'
    exact ⟨_, some o, ⟨ho, rfl, rfl, q1⟩, .inr ⟨d, o, mA, rfl, hns, q1, rel⟩⟩
  · have q : ObjOk X.prog X.w H s.heap a (ExO (.ref C) a) := I.hok a _ h1
    obtain ⟨⟨oe, vs, g, z, dt, _⟩, _, _⟩ := q
    refine ⟨oe, none, ⟨g, z.1, ?_, ?_⟩, .inl ⟨e, rfl⟩⟩
    · unfold PySem.W.notCls
      rw [dt] <;> rfl
    · rw [z.2]
      trivial
def rIsX (K : PySem.W.Frag) : List V → Hp → VK → Prop := fun xs H Q => ∃ (a C : Addr) (fs : List (Str × V)) (c : V) (cv : Value) (b : Bool),
  xs = [.ref a, c] ∧ ExAt H a C fs ∧ ExcK K C ∧ ClsV c cv ∧ PySem.W.kitOne K (.ref C) cv = some b ∧ Q (.bl b) H
theorem call_isX : CallR X (.builtin "isinstance") (rIsX X.K) := by
  intro pns s1 s2 H1 ys us Q I r h
  obtain ⟨a, C, fs, c, cv, b, rfl, ea, T, k, e, q⟩ := h
  obtain ⟨u1, u2, rfl, r1, r2⟩ := vals2 r
  cases (show u1 = Value.ref a from r1)
  have e2 := k.eq r2
  subst e2
  obtain ⟨ox, od, J, _⟩ := ea.obj I
  exact PySem.W.kia_one (PySem.W.kitx_exc (od := od) (ox := ox) T.cl T.ga T.gt T.sb T.ca T.gs T.tk T.mr) I.kIn J e (fun z => by cases z) fun tk => ⟨.bl b, H1, I.tok tk, rfl, q⟩
/-- e.f of an exception -/
def tXat (K : PySem.W.Frag) (f : Str) (te : TE) : TE := fun σ H Q => te σ H fun x H1 => ∃ (a C : Addr) (fs : List (Str × V)) (v : V),
  x = .ref a ∧ ExAt H1 a C fs ∧ ExcK K C ∧ PySem.W.findIn K (.ref C) f = some none ∧ fs.lookup f = some v ∧ Q v H1
theorem pe_xat {e : Expr} {f : Str} {te : TE} {pos : Pos} (he : PE X e te) (hb : attributeBase e f X.env (eval e X.env) = eval e X.env := by rfl) : PE X (.Attribute e f pos) (tXat X.K f te) := by
  refine ⟨fun pns s1 s2 H1 Q I h => ?_⟩
  refine attr_of hb (thn (he.run pns s1 s2 H1 _ I h) fun u s3 hh => ?_)
  obtain ⟨x, H2, I1, rx, a, C, fs, v, ex, ea, T, hn, hl, q⟩ := hh
  subst ex
  cases (show u = Value.ref a from rx)
  obtain ⟨ox, od, J, o⟩ := ea.obj I1
  rcases o with ⟨e0, _⟩ | ⟨dx, od', mA, e1, hns, hdx, rel⟩
  · rw [e0] at hl
    cases hl
  · subst e1
    obtain ⟨u, hu, ru⟩ := RelO.some_of (v := v) (o := mA f) (by rw [← hl]; exact rel f)
    obtain ⟨od2, ho2, l2⟩ := lookIn_ns hns
    rw [hdx] at ho2
    cases ho2
    exact HandSPX.exc_get I1.kIn J T.ga T.gt T.sb (PySem.W.findObj_own T.hd hn rfl (by rw [l2, hu])) (handed_of ru) ⟨v, H2, I1.tok _, ru, q⟩
end
end EX
set_option Elab.async false
set_option linter.all false
set_option maxRecDepth 100000
set_option maxHeartbeats 4000000
namespace EX
open PySem PySem.Spec PyProof.Rows L2
/-- C(e, .., k = v, ..) as a value, C an own exception class with an __init__ that keeps sp -/
def tNewX (C : Addr) (n m : Nat) (sp : Sp) (gV : List V → List V → List V) (t tk : TA) : TE := fun σ H Q => t σ H fun vs H1 => tk σ H1 fun zs H2 => vs.length = n ∧ zs.length = m ∧
  ∀ a, H2 a = none → sp (gV (.ref a :: vs) zs) (upd H2 a (exo a C none)) (fun v H3 => v = .non ∧ Q (.ref a) H3) (fun _ _ _ => False)
section
variable {X : Cx} {CX : CXT} {k n : Nat} {fI C : Addr} {fd : FuncData} {ps ks : List Str} {sp : Sp} {x : Str} {p pos : Pos} {e : Expr} {es : List Expr} {kws : List Keyword} {t tk : TA} {g : List Value → List Value → List Value} {gV : List V → List V → List V}
theorem run_newX {pns : List (Addr × Obj)} {σ : L2.St} {H : Hp} {s : Shared} {Q : VK} {us ws : List Value} {vs zs : List V} (T : OexC X.K C) (iC : PySem.W.findIn X.K (.ref C) "__init__" = some (some (.ref fI)))
    (tI : PySem.W.typeIn X.K (.ref fI) = some (.type "function")) (G : FnOk X.prog X.w X.K X.mg X.base CX k fI fd ps sp) (hr : Room (k + 1) X.A) (hb : KBn X.K fd ps (n + 1) ks g gV) (hx : Passes CX X (fun _ _ _ => False))
    (I : Inv X pns σ H s) (r : Vals vs us) (rz : Vals zs ws) (l1 : vs.length = n) (l2 : zs.length = ks.length) (hn : n ≤ 1000)
    (h : ∀ a, H a = none → sp (gV (.ref a :: vs) zs) (upd H a (exo a C none)) (fun v H2 => v = .non ∧ Q (.ref a) H2) (fun _ _ _ => False)) :
    wpAny (model X.prog X.w) X.A (call (.ref C) us (ks.zip ws)) (EP X pns σ Q) X.xe s := by
  obtain ⟨nm, q, N, bs, bm, sn, sub, ab, col, di, k0, k1, k2, k3, k5, hC, hbm⟩ := T.cls
  obtain ⟨hp, g0, dr, tk0, os⟩ := s
  have up : hp.objs.size ≤ hp.objs.size + 1 := Nat.le_succ _
  have hfree : H (hp.objs.size + 1) = none := I.hok.fresh up
  have hq := h (hp.objs.size + 1) hfree
  have kk : ∀ b o, hp.get? b = some o → ((hp.push (PySem.W.kdv_tup us)).push (PySem.HandSPX.excO C hp.objs.size)).get? b = some o := fun b o z => Heap.get?_push_of_some _ (Heap.get?_push_of_some _ z)
  have hg : ((hp.push (PySem.W.kdv_tup us)).push (PySem.HandSPX.excO C hp.objs.size)).get? (hp.objs.size + 1) = some (PySem.HandSPX.excO C hp.objs.size) := by heap_get
  have J : Inv X pns σ (upd H (hp.objs.size + 1) (exo (hp.objs.size + 1) C none)) ⟨(hp.push (PySem.W.kdv_tup us)).push (PySem.HandSPX.excO C hp.objs.size), g0, dr, tk0, os⟩ :=
    I.laid (t' := tk0) (a := hp.objs.size + 1) (o := exo (hp.objs.size + 1) C none) (h' := (hp.push (PySem.W.kdv_tup us)).push (PySem.HandSPX.excO C hp.objs.size)) kk up (exo_ok hg)
  have r1 : Vals (V.ref (hp.objs.size + 1) :: vs) (Value.ref (hp.objs.size + 1) :: us) := .cons rfl r
  have r2 := hb.rel r1 rz
  have n1 : (Value.ref (hp.objs.size + 1) :: us).length = n + 1 := by
    rw [List.length_cons, ← r.length, l1]
  have hus : us.length ≤ sizeLine := by
    rw [← Paired.length r, sizeLine_eq]
    omega
  refine wpAny_call (PySem.EXV.callK PySem.F.excBase_ValueError (fun Y => PySem.HandSPX.refsVE_contains Y bm hbm) (I.kIn _ _ hC) (PySem.W.looks_findIn I.kIn iC) (fun me => PySem.W.bind_fn I.kIn me tI) hus
    (codeAny_mono (G.run _ X.stack _ _ ⟨Value.ref (hp.objs.size + 1) :: us, ks.zip ws⟩ (g (Value.ref (hp.objs.size + 1) :: us) ws) _ _ (fun _ _ _ => False) (hr.make C us (ks.zip ws)) (J.env0.make C us (ks.zip ws))
      (hb.to _ (Value.ref (hp.objs.size + 1) :: us) ws J.kIn n1 (rz.length.symm.trans l2)) r2 hq) fun r s' hq' => ?_))
  cases r with
  | error er => exact hx pns σ _ _ er s' J hq'
  | ok fl =>
    cases fl with
    | ret u =>
      obtain ⟨v, H3, I3, rv, ev, q3⟩ := J.after hq'
      subst ev
      exact ⟨rv, V.ref (hp.objs.size + 1), H3, I3, rfl, q3⟩
    | next => exact False.elim hq'
    | brk => exact False.elim hq'
    | cont => exact False.elim hq'
theorem pe_newX (T : OexC X.K C) (iC : PySem.W.findIn X.K (.ref C) "__init__" = some (some (.ref fI))) (tI : PySem.W.typeIn X.K (.ref fI) = some (.type "function"))
    (F : FnOk X.prog X.w X.K X.mg X.base CX k fI fd ps sp) (hr : Room (k + 1) X.A) (hb : KBn X.K fd ps (n + 1) [] g gV) (hx : Passes CX X (fun _ _ _ => False)) (hg : Gl X x) (hm : X.mg x = some (.ref C)) (hn : n ≤ 1000) (ha : PA X (e :: es) t)
    (hdb : (x == ("__debug__" : Str)) = false := by decide) (he : starEach (e :: es) X.env = (false, eval e X.env) :: starEach es X.env := by rfl) (hpl : (backTo pos (starEach es X.env)).any (·.1) = false := by rfl) :
    PE X (.Call (.Name x p) (e :: es) [] pos) (tNewX C n 0 sp gV t tNil) := by
  refine ⟨fun pns s σ H Q I h => wpAny_Call_Name_kw (ld_glob I hg hm ?_ hdb)⟩
  refine PySem.W.callWith_K (h₀ := X.base) I.ok.mod.kin T.kC (thn (ha.run pos pns s σ H _ I h) fun us s1 ⟨vs, H1, I1, r1, h1, h2, q1⟩ => ⟨I1.kIn, ?_⟩) he hpl
  exact run_newX (ws := []) (zs := []) T iC tI F hr hb hx I1 r1 .nil h1 rfl hn q1
theorem pe_newXK (T : OexC X.K C) (iC : PySem.W.findIn X.K (.ref C) "__init__" = some (some (.ref fI))) (tI : PySem.W.typeIn X.K (.ref fI) = some (.type "function"))
    (F : FnOk X.prog X.w X.K X.mg X.base CX k fI fd ps sp) (hr : Room (k + 1) X.A) (hb : KBn X.K fd ps 1 ks g gV) (hx : Passes CX X (fun _ _ _ => False)) (hg : Gl X x) (hm : X.mg x = some (.ref C)) (hkw : PK X kws tk)
    (hall : (backToKw pos (keywordEach kws X.env)).all (·.1.isSome) = true := by rfl) (hks : (backToKw pos (keywordEach kws X.env)).filterMap (·.1) = ks := by rfl) (hdb : (x == ("__debug__" : Str)) = false := by decide)
    (hpl : ((backTo pos (starEach [] X.env)).any (·.1) || (backToKw pos (keywordEach kws X.env)).any (·.1.isNone)) = false := by rfl) :
    PE X (.Call (.Name x p) [] kws pos) (tNewX C 0 ks.length sp gV tNil tk) := by
  refine ⟨fun pns s σ H Q I h => wpAny_Call_Name_kw (ld_glob I hg hm ?_ hdb)⟩
  refine PySem.W.callWith_KW0 (h₀ := X.base) I.ok.mod.kin T.kC hall ?_ hpl
  refine thn (hkw.run pos pns s σ H _ I h) fun ws s2 ⟨zs, H2, I2, rz, l1, l2, q2⟩ => ⟨I2.kIn, ?_⟩
  rw [hks]
  exact run_newX (us := []) (vs := []) T iC tI F hr hb hx I2 .nil rz l1 l2 (Nat.zero_le _) q2
/-- C() as a value, C without an __init__ -/
theorem pe_newX0 {bmB : List Value} {B newId initId : String} (F : ExcBaseFacts B newId initId bmB) (q : PySem.W.excIn X.K C bmB newId = true) (gC : X.mg x = some (.ref C)) (kC : PySem.W.keepIn X.K (.ref C) = true) (hg : Gl X x)
    (hdb : (x == ("__debug__" : Str)) = false := by decide) : PE X (.Call (.Name x p) [] [] pos) (fun σ H Q => ∀ a, H a = none → Q (.ref a) (upd H a (ExO (.ref C) a))) := by
  refine ⟨fun pns s σ H Q I h => wpAny_Call_Name_kw (ld_glob I hg gC ?_ hdb)⟩
  refine PySem.W.callWith_K0 I.kIn kC ?_
  show wpAny _ _ (call (.ref C) []) _ _ _
  obtain ⟨bm, N, nm, qn, bs, hdct, sn, sub, ab, col, dd, k0, k1, k2, k3, k5, mN, hC, hN, hni, T⟩ := exc_obj I.kIn q
  refine wpAny_call_exc_subT F T hC hN hni (fun h' a hm => ?_) (Nat.zero_le _)
  have hn : H a = none := I.hok.gone hm.new
  obtain ⟨t, ht, _, _⟩ := hm.there
  exact ⟨.ref a, upd H a (ExO (.ref C) a), I.laidN hm.keeps hm.new hn (exO_ok ht ⟨rfl, rfl⟩ rfl rfl rfl (show 4 < 6 by decide)), rfl, h a hn⟩
end
end EX
set_option Elab.async false
set_option linter.all false
set_option maxRecDepth 100000
set_option maxHeartbeats 4000000
namespace CM
open PySem PySem.Spec PyProof.Rows L2
/-- a def of the text, by the module's name of it -/
structure Cal (P : Program) (w : World) (K : PySem.W.Frag) (mg : Str → Option Value) (base : Heap) (CX : CXT) (x : Str) (k : Nat) (ps : List Str) (sp : Sp) : Prop where
  ex : ∃ (f : Addr) (fd : FuncData), FnOk P w K mg base CX k f fd ps sp ∧ Binds K fd ps [] ∧ mg x = some (.ref f) ∧ PySem.W.keepIn K (.ref f) = true
/-- a value that is equal to itself at once -/
def okV (v : V) : Prop := flatB v = true ∨ ∃ a, v = .ref a
theorem okV_ref (a : Addr) : okV (.ref a) := .inr ⟨a, rfl⟩
theorem okV_int (i : Int) : okV (.int i) := .inl rfl
theorem eqAt_ok {A : Around} {s : Shared} {v : V} {u u' : Value} (h : okV v) (r : RelV v u) (r' : RelV v u') : SeqAt.EqAt A s u u' true := by
  rcases h with f | ⟨a, rfl⟩
  · exact eqAt_same r r' f
  · cases (show u = Value.ref a from r)
    cases (show u' = Value.ref a from r')
    exact SeqAt.EqAt.same _
theorem vals_eqAt {A : Around} {s : Shared} : ∀ {xs : List V} {us ws : List Value}, (∀ v ∈ xs, okV v) → Vals xs us → Vals xs ws → ∀ j (h1 : j < us.length) (h2 : j < ws.length), SeqAt.EqAt A s us[j] ws[j] true
  | [], _, _, _, r1, _, j, h1, _ => by
    cases r1
    exact absurd h1 (Nat.not_lt_zero j)
  | v :: xs, _, _, ok, .cons a1 b1, .cons a2 b2, 0, _, _ => eqAt_ok (ok v (List.mem_cons_self ..)) a1 a2
  | v :: xs, _, _, ok, .cons a1 b1, .cons a2 b2, j + 1, h1, h2 => vals_eqAt (fun z hz => ok z (List.mem_cons_of_mem _ hz)) b1 b2 j (Nat.lt_of_succ_lt_succ h1) (Nat.lt_of_succ_lt_succ h2)
section
variable {X : Cx}
theorem pe_gref {x : Str} {C : Addr} {pos : Pos} (hg : Gl X x) (hm : X.mg x = some (.ref C)) (hdb : (x == ("__debug__" : Str)) = false := by decide) : PE X (.Name x pos) (tC (.ref C)) := pe_glob (v := .ref C) hg hm rfl hdb
/-- a != b of two lists of the very same items -/
def rNeS (K : PySem.W.Frag) : R2 := fun x y H Q => ∃ (a b : Addr) (xs : List V), x = .ref a ∧ y = .ref b ∧ SqL K H a xs ∧ SqL K H b xs ∧ (∀ v ∈ xs, okV v) ∧ Q (.bl false) H
theorem op_neS (hu : X.A.units + 64 < cLine) : OpR X (compareOp .NotEq) (rNeS X.K) := by
  intro pns s σ H x y v u Q I rx ry h
  obtain ⟨a, b, xs, rfl, rfl, ha, hb, ok, q⟩ := h
  cases (show v = Value.ref a from rx)
  cases (show u = Value.ref b from ry)
  obtain ⟨us, r1, p1, _⟩ := I.list ha
  obtain ⟨ws, r2, p2, _⟩ := I.list hb
  have hz : us.toArray.size = ws.toArray.size := by
    rw [List.size_toArray, List.size_toArray, ← r1.length, ← r2.length]
  refine SeqAt.RcNeAt.lists (e := fun _ => true) p1.isList p2.isList hz (by omega) (fun j h1 h2 => ?_) X.prog X.w X.xe _ ?_
  · have z := vals_eqAt (A := X.A.in1) (s := s) ok r1 r2 j (by simpa using h1) (by simpa using h2)
    simpa using z
  · rw [show ((List.range us.toArray.size).all fun _ => true) = true from List.all_eq_true.mpr fun _ _ => rfl]
    exact ⟨.bl false, H, I, rfl, q⟩
end
end CM
set_option Elab.async false
set_option linter.all false
set_option maxRecDepth 100000
set_option maxHeartbeats 2000000
namespace K02
open PySem PySem.Spec PyProof.Rows L2 CM
def topS (i : Nat) : Stmt := PySem.Challenge.pw_kindgrove_k02_errors_apart.main.body.getD i (.Pass ⟨0, 0, 0, 0⟩)
abbrev s_BadValue___init : Stmt := inClass (topS 2) 0
abbrev n_BadValue___init : List Str := ["self", "value"]
theorem sc_BadValue___init : FnScope n_BadValue___init ["self", "value"] (defScope s_BadValue___init) := ⟨rfl, rfl, rfl, by decide +kernel, rfl, by decide +kernel, by decide +kernel⟩
abbrev s_BadCount___init : Stmt := inClass (topS 3) 0
abbrev n_BadCount___init : List Str := ["self", "count"]
theorem sc_BadCount___init : FnScope n_BadCount___init ["self", "count"] (defScope s_BadCount___init) := ⟨rfl, rfl, rfl, by decide +kernel, rfl, by decide +kernel, by decide +kernel⟩
abbrev s_NotGiven___init : Stmt := inClass (topS 4) 0
abbrev n_NotGiven___init : List Str := ["self", "name"]
theorem sc_NotGiven___init : FnScope n_NotGiven___init ["self", "name"] (defScope s_NotGiven___init) := ⟨rfl, rfl, rfl, by decide +kernel, rfl, by decide +kernel, by decide +kernel⟩
abbrev s_NoLabel___init : Stmt := inClass (topS 7) 0
abbrev n_NoLabel___init : List Str := ["self", "label"]
theorem sc_NoLabel___init : FnScope n_NoLabel___init ["self", "label"] (defScope s_NoLabel___init) := ⟨rfl, rfl, rfl, by decide +kernel, rfl, by decide +kernel, by decide +kernel⟩
abbrev s_NoPair___init : Stmt := inClass (topS 8) 0
abbrev n_NoPair___init : List Str := ["self", "label", "key"]
theorem sc_NoPair___init : FnScope n_NoPair___init ["self", "label", "key"] (defScope s_NoPair___init) := ⟨rfl, rfl, rfl, by decide +kernel, rfl, by decide +kernel, by decide +kernel⟩
abbrev s_BadRecipe___init : Stmt := inClass (topS 9) 0
abbrev n_BadRecipe___init : List Str := ["self", "at"]
theorem sc_BadRecipe___init : FnScope n_BadRecipe___init ["self", "at"] (defScope s_BadRecipe___init) := ⟨rfl, rfl, rfl, by decide +kernel, rfl, by decide +kernel, by decide +kernel⟩
abbrev s_BadWay___init : Stmt := inClass (topS 10) 0
abbrev n_BadWay___init : List Str := ["self", "at"]
theorem sc_BadWay___init : FnScope n_BadWay___init ["self", "at"] (defScope s_BadWay___init) := ⟨rfl, rfl, rfl, by decide +kernel, rfl, by decide +kernel, by decide +kernel⟩
abbrev s_BadShape___init : Stmt := inClass (topS 11) 0
abbrev n_BadShape___init : List Str := ["self", "path"]
theorem sc_BadShape___init : FnScope n_BadShape___init ["self", "path"] (defScope s_BadShape___init) := ⟨rfl, rfl, rfl, by decide +kernel, rfl, by decide +kernel, by decide +kernel⟩
abbrev s_NoRow___init : Stmt := inClass (topS 13) 0
abbrev n_NoRow___init : List Str := ["self", "number"]
theorem sc_NoRow___init : FnScope n_NoRow___init ["self", "number"] (defScope s_NoRow___init) := ⟨rfl, rfl, rfl, by decide +kernel, rfl, by decide +kernel, by decide +kernel⟩
abbrev s_BadWork___init : Stmt := inClass (topS 15) 0
abbrev n_BadWork___init : List Str := ["self", "at"]
theorem sc_BadWork___init : FnScope n_BadWork___init ["self", "at"] (defScope s_BadWork___init) := ⟨rfl, rfl, rfl, by decide +kernel, rfl, by decide +kernel, by decide +kernel⟩
abbrev s_BadOrder___init : Stmt := inClass (topS 16) 0
abbrev n_BadOrder___init : List Str := ["self", "at"]
theorem sc_BadOrder___init : FnScope n_BadOrder___init ["self", "at"] (defScope s_BadOrder___init) := ⟨rfl, rfl, rfl, by decide +kernel, rfl, by decide +kernel, by decide +kernel⟩
abbrev s_law_well : Stmt := topS 18
abbrev n_law_well : List Str := ["_law_cell"]
theorem sc_law_well : FnScope n_law_well ["_law_cell"] (defScope s_law_well) := ⟨rfl, rfl, rfl, by decide +kernel, rfl, by decide +kernel, by decide +kernel⟩
abbrev s_law_draw : Stmt := topS 19
abbrev n_law_draw : List Str := ["_law_well_here", "_law_many", "_law_digit", "_law_figure", "_law_more"]
theorem sc_law_draw : FnScope n_law_draw ["_law_well_here", "_law_many"] (defScope s_law_draw) := ⟨rfl, rfl, rfl, by decide +kernel, rfl, by decide +kernel, by decide +kernel⟩
abbrev s_law_one : Stmt := topS 20
abbrev n_law_one : List Str := ["_law_well_here", "_law_some"]
theorem sc_law_one : FnScope n_law_one ["_law_well_here", "_law_some"] (defScope s_law_one) := ⟨rfl, rfl, rfl, by decide +kernel, rfl, by decide +kernel, by decide +kernel⟩
abbrev s_law_kinds : Stmt := topS 21
abbrev n_law_kinds : List Str := ["_law_e", "_law_found"]
theorem sc_law_kinds : FnScope n_law_kinds ["_law_e"] (defScope s_law_kinds) := ⟨rfl, rfl, rfl, by decide +kernel, rfl, by decide +kernel, by decide +kernel⟩
abbrev s_law_made : Stmt := topS 22
abbrev n_law_made : List Str := ["_law_one_here", "_law_other", "_law_found"]
theorem sc_law_made : FnScope n_law_made ["_law_one_here", "_law_other"] (defScope s_law_made) := ⟨rfl, rfl, rfl, by decide +kernel, rfl, by decide +kernel, by decide +kernel⟩
abbrev s_law_named : Stmt := topS 23
abbrev n_law_named : List Str := ["_law_one_here", "_law_other", "_law_found"]
theorem sc_law_named : FnScope n_law_named ["_law_one_here", "_law_other"] (defScope s_law_named) := ⟨rfl, rfl, rfl, by decide +kernel, rfl, by decide +kernel, by decide +kernel⟩
abbrev s_law_borne : Stmt := topS 24
abbrev n_law_borne : List Str := ["_law_found", "_law_a", "_law_b", "_law_c", "_law_d", "_law_e", "_law_f", "_law_g", "_law_h", "_law_i", "_law_j", "_law_k"]
theorem sc_law_borne : FnScope n_law_borne ["_law_found"] (defScope s_law_borne) := ⟨rfl, rfl, rfl, by decide +kernel, rfl, by decide +kernel, by decide +kernel⟩
abbrev s_law : Stmt := topS 25
abbrev n_law : List Str := ["_law_script", "_law_cell", "_law_well_here", "_law_some", "_law_one_here", "_law_other", "_law_made_here", "_law_n", "_law_e", "_law_bearing", "_law_due", "_law_k"]
theorem sc_law : FnScope n_law ["_law_script"] (defScope s_law) := ⟨rfl, rfl, rfl, by decide +kernel, rfl, by decide +kernel, by decide +kernel⟩
abbrev FnP (K : PySem.W.Frag) (x q : Str) (st : Stmt) (f : Addr) (fd : FuncData) : Prop := FunD K x q (defArgs st) (defBody st) (defScope st) [] [] f fd
/-! ### draws -/
def spWell : Sp := fun vs H Q _ => ∃ i : Int, vs = [.int i] ∧ ∀ p, H p = none → Q (.ref p) (upd H p (.lst [.int i, .int 0]))
def spDraw : Sp := fun vs H Q _ => ∃ (a : Addr) (x c m : Int), vs = [.ref a, .int m] ∧ H a = some (.lst [.int x, .int c]) ∧ 0 < m ∧ m < 1073741824 ∧
  ∀ r x' c' : Int, 0 ≤ r → r < m → Q (.int r) (upd H a (.lst [.int x', .int c']))
section
variable {P : Program} {w : World} {K : PySem.W.Frag} {mg : Str → Option Value} {base : Heap}
theorem ok_well {f : Addr} {fd : FuncData} {k : Nat} (F : FnP K "_law_well" "_law_well" s_law_well f fd) (m_int : mg "int" = none) : FnOk P w K mg base CX0 (k + 1) f fd ["_law_cell"] spWell := by
  refine F.ok sc_law_well (fun vs H Q E h => ?_) (fun cdv A outer s H vs Q E hr h => ?_)
  · obtain ⟨i, rfl, _⟩ := h
    rfl
  · obtain ⟨i, rfl, q⟩ := h
    refine ⟨_, pss_one (ps_ret (pe_lst (pa_cons (pe_callTy call_int1 (by rfl) m_int boot_int (pa_cons (pv 0) pa_nil)) (pa_cons pe_int pa_nil)))), ?_⟩
    exact ⟨_, rfl, .inl ⟨i, rfl, ⟨by show 2 ≤ sizeLine; decide, fun p hp => q p hp⟩⟩⟩
theorem ok_draw {f : Addr} {fd : FuncData} {k : Nat} (F : FnP K "_law_draw" "_law_draw" s_law_draw f fd) (m_int : mg "int" = none) : FnOk P w K mg base CX0 (k + 1) f fd ["_law_well_here", "_law_many"] spDraw := by
  refine F.ok sc_law_draw (fun vs H Q E h => ?_) (fun cdv A outer s H vs Q E hr h => ?_)
  · obtain ⟨a, x, c, m, rfl, _⟩ := h
    rfl
  · obtain ⟨a, x, c, m, rfl, ha, m0, m1, q⟩ := h
    refine ⟨_, pss_cons (ps_if (pt_cmpR op_ge (pe_ix ix_list (pv 0) pe_int (fun _ _ => rfl)) (pe_op op_pow pe_int pe_int) (nomark _)) (pss_cons (ps_set (i := 2) sc_law_draw.nd rfl (.inl rfl) (pe_op op_mod (pe_callTy call_int1 (by rfl) m_int boot_int (pa_cons (pe_ix ix_list (pv 0) pe_int (fun _ _ => rfl)) pa_nil)) (pv 1)))
      (pss_cons (ps_asg (pe_op op_fdiv (pe_ix ix_list (pv 0) pe_int (fun _ _ => rfl)) (pv 1)) (pg_sub (pv 0) pe_int set_list))
      (pss_one (ps_ret (pv 2))))) (pss_nil))
    (pss_cons (ps_asg (pe_op op_add (pe_ix ix_list (pv 0) pe_int (fun _ _ => rfl)) pe_int) (pg_sub (pv 0) pe_int set_list))
    (pss_cons (ps_set (i := 3) sc_law_draw.nd rfl (.inl rfl) (pe_op op_mod (pe_callTy call_int1 (by rfl) m_int boot_int (pa_cons (pe_op op_mul (pe_callTy call_int1 (by rfl) m_int boot_int (pa_cons (pe_op op_add (pe_op op_add (pe_op op_mod (pe_callTy call_int1 (by rfl) m_int boot_int (pa_cons (pe_ix ix_list (pv 0) pe_int (fun _ _ => rfl)) pa_nil)) pe_int) (pe_op op_mul pe_int (pe_ix ix_list (pv 0) pe_int (fun _ _ => rfl)))) pe_int) pa_nil)) pe_int) pa_nil)) pe_int))
    (pss_cons (ps_set (i := 4) sc_law_draw.nd rfl (.inl rfl) (pe_op op_mod (pe_callTy call_int1 (by rfl) m_int boot_int (pa_cons (pe_op op_fdivW (pe_ix ix_list (pv 0) pe_int (fun _ _ => rfl)) pe_int) pa_nil)) pe_int))
    (pss_cons (ps_set (i := 3) sc_law_draw.nd rfl (.inl rfl) (pe_op op_mod (pe_callTy call_int1 (by rfl) m_int boot_int (pa_cons (pe_op op_mul (pv 3) (pe_op op_add (pe_op op_add (pe_op op_fdiv (pv 3) pe_int) pe_int) (pv 4))) pa_nil)) pe_int))
    (pss_one (ps_ret (pe_op op_mod (pe_callTy call_int1 (by rfl) m_int boot_int (pa_cons (pe_op op_fdiv (pe_op op_mod (pe_callTy call_int1 (by rfl) m_int boot_int (pa_cons (pe_op op_mul (pv 3) (pe_op op_add (pe_op op_fdiv (pv 3) pe_int) pe_int)) pa_nil)) pe_int) pe_int) pa_nil)) (pv 1)))))))), ?_⟩
    have hA : SqL K H a [.int x, .int c] := .inl (.inl ha)
    -- if well[0] >= 10 ** 18
    refine ⟨_, rfl, a, _, 0, _, rfl, rfl, hA, rfl, ?_⟩
    refine ⟨10, 18, rfl, rfl, ⟨by decide, by decide, by decide⟩, ?_⟩
    refine ⟨x, _, rfl, rfl, _, rfl, ite2 (fun big => ?_) (fun small => ?_)⟩
    · refine ⟨_, rfl, a, _, 0, _, rfl, rfl, hA, rfl, .inl ⟨x, rfl, _, rfl, x, m, rfl, rfl, m0, ?_⟩⟩
      refine ⟨_, rfl, a, _, 0, _, rfl, rfl, hA, rfl, _, rfl, x, m, rfl, rfl, ⟨m0, m1⟩, ?_⟩
      refine ⟨_, rfl, a, _, 0, 0, rfl, rfl, ha, rfl, ?_⟩
      exact ⟨_, rfl, q (x % m) (x / m) c (Int.emod_nonneg _ (by omega)) (Int.emod_lt_of_pos _ m0)⟩
    · -- well[1] = well[1] + 1
      refine ⟨_, rfl, a, _, 1, _, rfl, rfl, hA, rfl, c, 1, rfl, rfl, _, rfl, a, _, 1, 1, rfl, rfl, ha, rfl, ?_⟩
      have hB : SqL K (upd H a (.lst [.int x, .int (c + 1)])) a [.int x, .int (c + 1)] := .inl (.inl upd_same)
      have e2 : upd H a (.lst ([V.int x, V.int c].set 1 (.int (c + 1)))) = upd H a (.lst [.int x, .int (c + 1)]) := rfl
      rw [e2]
      have k1 : (0 : Int) < 2147483629 := by decide
      refine ⟨_, rfl, a, _, 0, _, rfl, rfl, hB, rfl, .inl ⟨x, rfl, x, 2147483629, rfl, rfl, (by show (0 : Int) < 2147483629; decide), ?_⟩⟩
      refine ⟨_, rfl, a, _, 1, _, rfl, rfl, hB, rfl, 60013, c + 1, rfl, rfl, .inl (by decide), _, _, rfl, rfl, _, _, rfl, rfl, .inl ⟨_, rfl, ?_⟩⟩
      refine ⟨_, _, rfl, rfl, .inr (by decide), .inl ⟨_, rfl, _, _, rfl, rfl, (by show (0 : Int) < 2147483647; decide), ?_⟩⟩
      dsimp only
      generalize hn : ((x % 2147483629 + 60013 * (c + 1) + 11) * 48271) % 2147483647 = n
      have n0 : 0 ≤ n := by rw [← hn]; exact Int.emod_nonneg _ (by decide)
      have n1 : n < 2147483647 := by rw [← hn]; exact Int.emod_lt_of_pos _ (by decide)
      refine ⟨_, rfl, a, _, 0, _, rfl, rfl, hB, rfl, x, _, rfl, rfl, wide_div (b := 40) (by decide) (by decide) (by decide) (by decide), .inl ⟨_, rfl, _, _, rfl, rfl, (by show (0 : Int) < 9973; decide), ?_⟩⟩
      dsimp only
      generalize hz : (x / 2147483629) % 9973 = z
      refine ⟨_, rfl, _, rfl, _, _, rfl, rfl, ⟨by decide, by decide⟩, _, _, rfl, rfl, _, rfl, _, _, rfl, rfl, n, _, rfl, rfl, .inl ⟨by omega, by omega⟩, .inl ⟨_, rfl, _, _, rfl, rfl, (by show (0 : Int) < 2147483587; decide), ?_⟩⟩
      dsimp only
      generalize hg : (n * (n / 1013 + 40692 + z)) % 2147483587 = g
      have g0 : 0 ≤ g := by rw [← hg]; exact Int.emod_nonneg _ (by decide)
      have g1 : g < 2147483587 := by rw [← hg]; exact Int.emod_lt_of_pos _ (by decide)
      refine ⟨_, rfl, _, rfl, _, _, rfl, rfl, ⟨by decide, by decide⟩, _, _, rfl, rfl, g, _, rfl, rfl, .inl ⟨by omega, by omega⟩, .inl ⟨_, rfl, _, _, rfl, rfl, (by show (0 : Int) < 2147483563; decide), ?_⟩⟩
      refine ⟨_, _, rfl, rfl, ⟨by decide, by decide⟩, .inl ⟨_, rfl, _, rfl, _, m, rfl, rfl, m0, ?_⟩⟩
      exact q _ x (c + 1) (Int.emod_nonneg _ (by omega)) (Int.emod_lt_of_pos _ m0)
/-- one of a list's items -/
def spOne (K : PySem.W.Frag) : Sp := fun vs H Q _ => ∃ (a b : Addr) (x c : Int) (xs : List V), vs = [.ref a, .ref b] ∧ H a = some (.lst [.int x, .int c]) ∧ SqL K H b xs ∧ (∀ x' c' : Int, SqL K (upd H a (.lst [.int x', .int c'])) b xs) ∧ 0 < xs.length ∧ xs.length ≤ 1000 ∧
  ∀ (v : V) (x' c' : Int), v ∈ xs → Q v (upd H a (.lst [.int x', .int c']))
theorem ok_one {f : Addr} {fd : FuncData} {k : Nat} (F : FnP K "_law_one" "_law_one" s_law_one f fd) (C_draw : Cal P w K mg base CX0 "_law_draw" (k + 1) ["_law_well_here", "_law_many"] spDraw) (m_len : mg "len" = none) :
    FnOk P w K mg base CX0 (k + 1 + 1) f fd ["_law_well_here", "_law_some"] (spOne K) := by
  obtain ⟨f_law_draw, fd_law_draw, G_law_draw, b_law_draw, m_law_draw, k_law_draw⟩ := C_draw
  refine F.ok sc_law_one (fun vs H Q E h => ?_) (fun cdv A outer s H vs Q E hr h => ?_)
  · obtain ⟨a, b, x, c, xs, rfl, _⟩ := h
    rfl
  · obtain ⟨a, b, x, c, xs, rfl, ha, hb, hb', l0, l1, q⟩ := h
    refine ⟨_, pss_one (ps_ret (pe_ix ix_list (pv 1) (pe_call G_law_draw (hr.mono (by omega)) (by rfl) m_law_draw k_law_draw b_law_draw .nil pass0 (pa_cons (pv 0) (pa_cons (pe_callB call_len_seq (by rfl) m_len PySem.boot_len (pa_cons (pv 1) pa_nil)) pa_nil))) (fun _ _ => rfl))), ?_⟩
    refine ⟨_, rfl, _, rfl, _, rfl, b, xs, rfl, .inl hb, a, x, c, xs.length, rfl, ha, by omega, by omega, fun r x' c' r0 r1 => ?_⟩
    obtain ⟨i, rfl⟩ := Int.eq_ofNat_of_zero_le r0
    have hi : i < xs.length := by omega
    exact ⟨b, xs, _, xs[i], rfl, rfl, hb' x' c', atI_nat (List.getElem?_eq_getElem hi), q _ x' c' (List.getElem_mem hi)⟩
/-! ### the classes' own __init__ -/
/-- self.f = y: of a new exception at a -/
def spI1 (C : Addr) (f : Str) : Sp := fun vs H Q _ => ∃ (a : Addr) (y : V), vs = [.ref a, y] ∧ H a = some (exo a C none) ∧ ∀ H', (∀ b o, H b = some o → b ≠ a → H' b = some o) → EX.ExAt H' a C [(f, y)] → Q .non H'
def spI2 (C : Addr) (f g : Str) : Sp := fun vs H Q _ => ∃ (a : Addr) (y z : V), vs = [.ref a, y, z] ∧ H a = some (exo a C none) ∧ ∀ H', (∀ b o, H b = some o → b ≠ a → H' b = some o) → EX.ExAt H' a C [(g, z), (f, y)] → Q .non H'
theorem read_I1 {C : Addr} {f x : Str} (T : OexC K C) (h0 : PySem.W.findIn K (.ref C) f = some none) {vs : List V} {H : Hp} {Q : VK} {E : XK} (h : spI1 C f vs H Q E) :
    tOst K f (tVar 0) (tVar 1) { nx := fun _ H' => Q .non H', rt := Q } (L2.start ["self", x] vs) H := by
  obtain ⟨a, y, rfl, ha, q⟩ := h
  refine ⟨_, rfl, _, rfl, a, C, rfl, T, h0, .inl ⟨ha, fun d nd ne => ?_⟩⟩
  refine q _ (fun b o e hb => ?_) (.inl ⟨d, upd_same, ?_⟩)
  · rw [upd_ne hb, upd_ne (ne_of_none e nd)]
    exact e
  · rw [upd_ne ne, upd_same]
theorem read_I2 {C : Addr} {f g x z : Str} (T : OexC K C) (h0 : PySem.W.findIn K (.ref C) f = some none) (h1 : PySem.W.findIn K (.ref C) g = some none) {vs : List V} {H : Hp} {Q : VK} {E : XK} (h : spI2 C f g vs H Q E) :
    tSeq (tOst K f (tVar 0) (tVar 1)) (tOst K g (tVar 0) (tVar 2)) { nx := fun _ H' => Q .non H', rt := Q } (L2.start ["self", x, z] vs) H := by
  obtain ⟨a, y, u, rfl, ha, q⟩ := h
  refine ⟨_, rfl, _, rfl, a, C, rfl, T, h0, .inl ⟨ha, fun d nd ne => ?_⟩⟩
  refine ⟨_, rfl, _, rfl, a, C, rfl, T, h1, .inr ⟨d, [(f, y)], upd_same, ?_, by show 1 ≤ 900; decide, ?_⟩⟩
  · rw [upd_ne ne, upd_same]
  · refine q _ (fun b o e hb => ?_) (.inl ⟨d, ?_, upd_same⟩)
    · rw [upd_ne (ne_of_none e nd), upd_ne hb, upd_ne (ne_of_none e nd)]
      exact e
    · rw [upd_ne ne.symm, upd_same]
theorem ok_BadCount {f C : Addr} {fd : FuncData} {k : Nat} (F : FnP K "__init__" "BadCount.__init__" s_BadCount___init f fd) (T : OexC K C) (h0 : PySem.W.findIn K (.ref C) "count" = some none) :
    FnOk P w K mg base CX0 (k + 1) f fd ["self", "count"] (spI1 C "count") := by
  refine F.ok sc_BadCount___init (fun vs H Q E h => ?_) (fun cdv A outer s H vs Q E hr h => ?_)
  · obtain ⟨a, y, rfl, _⟩ := h
    rfl
  · exact ⟨_, pss_one (ps_ost (pv 0) (pv 1)), read_I1 T h0 h⟩
theorem ok_BadOrder {f C : Addr} {fd : FuncData} {k : Nat} (F : FnP K "__init__" "BadOrder.__init__" s_BadOrder___init f fd) (T : OexC K C) (h0 : PySem.W.findIn K (.ref C) "at" = some none) :
    FnOk P w K mg base CX0 (k + 1) f fd ["self", "at"] (spI1 C "at") := by
  refine F.ok sc_BadOrder___init (fun vs H Q E h => ?_) (fun cdv A outer s H vs Q E hr h => ?_)
  · obtain ⟨a, y, rfl, _⟩ := h
    rfl
  · exact ⟨_, pss_one (ps_ost (pv 0) (pv 1)), read_I1 T h0 h⟩
theorem ok_BadRecipe {f C : Addr} {fd : FuncData} {k : Nat} (F : FnP K "__init__" "BadRecipe.__init__" s_BadRecipe___init f fd) (T : OexC K C) (h0 : PySem.W.findIn K (.ref C) "at" = some none) :
    FnOk P w K mg base CX0 (k + 1) f fd ["self", "at"] (spI1 C "at") := by
  refine F.ok sc_BadRecipe___init (fun vs H Q E h => ?_) (fun cdv A outer s H vs Q E hr h => ?_)
  · obtain ⟨a, y, rfl, _⟩ := h
    rfl
  · exact ⟨_, pss_one (ps_ost (pv 0) (pv 1)), read_I1 T h0 h⟩
theorem ok_BadShape {f C : Addr} {fd : FuncData} {k : Nat} (F : FnP K "__init__" "BadShape.__init__" s_BadShape___init f fd) (T : OexC K C) (h0 : PySem.W.findIn K (.ref C) "path" = some none) :
    FnOk P w K mg base CX0 (k + 1) f fd ["self", "path"] (spI1 C "path") := by
  refine F.ok sc_BadShape___init (fun vs H Q E h => ?_) (fun cdv A outer s H vs Q E hr h => ?_)
  · obtain ⟨a, y, rfl, _⟩ := h
    rfl
  · exact ⟨_, pss_one (ps_ost (pv 0) (pv 1)), read_I1 T h0 h⟩
theorem ok_BadValue {f C : Addr} {fd : FuncData} {k : Nat} (F : FnP K "__init__" "BadValue.__init__" s_BadValue___init f fd) (T : OexC K C) (h0 : PySem.W.findIn K (.ref C) "value" = some none) :
    FnOk P w K mg base CX0 (k + 1) f fd ["self", "value"] (spI1 C "value") := by
  refine F.ok sc_BadValue___init (fun vs H Q E h => ?_) (fun cdv A outer s H vs Q E hr h => ?_)
  · obtain ⟨a, y, rfl, _⟩ := h
    rfl
  · exact ⟨_, pss_one (ps_ost (pv 0) (pv 1)), read_I1 T h0 h⟩
theorem ok_BadWay {f C : Addr} {fd : FuncData} {k : Nat} (F : FnP K "__init__" "BadWay.__init__" s_BadWay___init f fd) (T : OexC K C) (h0 : PySem.W.findIn K (.ref C) "at" = some none) :
    FnOk P w K mg base CX0 (k + 1) f fd ["self", "at"] (spI1 C "at") := by
  refine F.ok sc_BadWay___init (fun vs H Q E h => ?_) (fun cdv A outer s H vs Q E hr h => ?_)
  · obtain ⟨a, y, rfl, _⟩ := h
    rfl
  · exact ⟨_, pss_one (ps_ost (pv 0) (pv 1)), read_I1 T h0 h⟩
theorem ok_BadWork {f C : Addr} {fd : FuncData} {k : Nat} (F : FnP K "__init__" "BadWork.__init__" s_BadWork___init f fd) (T : OexC K C) (h0 : PySem.W.findIn K (.ref C) "at" = some none) :
    FnOk P w K mg base CX0 (k + 1) f fd ["self", "at"] (spI1 C "at") := by
  refine F.ok sc_BadWork___init (fun vs H Q E h => ?_) (fun cdv A outer s H vs Q E hr h => ?_)
  · obtain ⟨a, y, rfl, _⟩ := h
    rfl
  · exact ⟨_, pss_one (ps_ost (pv 0) (pv 1)), read_I1 T h0 h⟩
theorem ok_NoLabel {f C : Addr} {fd : FuncData} {k : Nat} (F : FnP K "__init__" "NoLabel.__init__" s_NoLabel___init f fd) (T : OexC K C) (h0 : PySem.W.findIn K (.ref C) "label" = some none) :
    FnOk P w K mg base CX0 (k + 1) f fd ["self", "label"] (spI1 C "label") := by
  refine F.ok sc_NoLabel___init (fun vs H Q E h => ?_) (fun cdv A outer s H vs Q E hr h => ?_)
  · obtain ⟨a, y, rfl, _⟩ := h
    rfl
  · exact ⟨_, pss_one (ps_ost (pv 0) (pv 1)), read_I1 T h0 h⟩
theorem ok_NoPair {f C : Addr} {fd : FuncData} {k : Nat} (F : FnP K "__init__" "NoPair.__init__" s_NoPair___init f fd) (T : OexC K C) (h0 : PySem.W.findIn K (.ref C) "label" = some none) (h1 : PySem.W.findIn K (.ref C) "key" = some none) :
    FnOk P w K mg base CX0 (k + 1) f fd ["self", "label", "key"] (spI2 C "label" "key") := by
  refine F.ok sc_NoPair___init (fun vs H Q E h => ?_) (fun cdv A outer s H vs Q E hr h => ?_)
  · obtain ⟨a, y, z, rfl, _⟩ := h
    rfl
  · exact ⟨_, pss_cons (ps_ost (pv 0) (pv 1))
    (pss_one (ps_ost (pv 0) (pv 2))), read_I2 T h0 h1 h⟩
theorem ok_NoRow {f C : Addr} {fd : FuncData} {k : Nat} (F : FnP K "__init__" "NoRow.__init__" s_NoRow___init f fd) (T : OexC K C) (h0 : PySem.W.findIn K (.ref C) "number" = some none) :
    FnOk P w K mg base CX0 (k + 1) f fd ["self", "number"] (spI1 C "number") := by
  refine F.ok sc_NoRow___init (fun vs H Q E h => ?_) (fun cdv A outer s H vs Q E hr h => ?_)
  · obtain ⟨a, y, rfl, _⟩ := h
    rfl
  · exact ⟨_, pss_one (ps_ost (pv 0) (pv 1)), read_I1 T h0 h⟩
theorem ok_NotGiven {f C : Addr} {fd : FuncData} {k : Nat} (F : FnP K "__init__" "NotGiven.__init__" s_NotGiven___init f fd) (T : OexC K C) (h0 : PySem.W.findIn K (.ref C) "name" = some none) :
    FnOk P w K mg base CX0 (k + 1) f fd ["self", "name"] (spI1 C "name") := by
  refine F.ok sc_NotGiven___init (fun vs H Q E h => ?_) (fun cdv A outer s H vs Q E hr h => ?_)
  · obtain ⟨a, y, rfl, _⟩ := h
    rfl
  · exact ⟨_, pss_one (ps_ost (pv 0) (pv 1)), read_I1 T h0 h⟩
end
/-! ### the classes as the top has made them -/
abbrev cl (K : PySem.W.Frag) (x : Str) : Addr := He.ga K x
def names : List Str := ["BadCount", "BadOrder", "BadRecipe", "BadShape", "BadSplit", "BadValue", "BadWay", "BadWork", "Finished", "NoLabel", "NoPair", "NoRow", "NotGiven", "TooLarge", "TooMany"]
def swap2 {α : Type} : List α → List α
  | [a, b] => [b, a]
  | l => l
structure Txt (P : Program) (w : World) (K : PySem.W.Frag) (mg : Str → Option Value) (base : Heap) : Prop where
  m_BadCount : mg "BadCount" = some (.ref (cl K "BadCount"))
  e_BadCount : EX.ExcK K (cl K "BadCount")
  o_BadCount : OexC K (cl K "BadCount")
  i_BadCount : PySem.W.findIn K (.ref (cl K "BadCount")) "__init__" = some (some (.ref (He.ma K (cl K "BadCount") "__init__")))
  t_BadCount : PySem.W.typeIn K (.ref (He.ma K (cl K "BadCount") "__init__")) = some (.type "function")
  n_BadCount_count : PySem.W.findIn K (.ref (cl K "BadCount")) "count" = some none
  F_BadCount : ∃ fd, FnOk P w K mg base CX0 1 (He.ma K (cl K "BadCount") "__init__") fd ["self", "count"] (spI1 (cl K "BadCount") "count") ∧ KBn K fd ["self", "count"] 2 [] (fun us ws => us) (fun vs zs => vs) ∧ KBn K fd ["self", "count"] 1 ["count"] (fun us ws => us ++ ws) (fun vs zs => vs ++ zs)
  m_BadOrder : mg "BadOrder" = some (.ref (cl K "BadOrder"))
  e_BadOrder : EX.ExcK K (cl K "BadOrder")
  o_BadOrder : OexC K (cl K "BadOrder")
  i_BadOrder : PySem.W.findIn K (.ref (cl K "BadOrder")) "__init__" = some (some (.ref (He.ma K (cl K "BadOrder") "__init__")))
  t_BadOrder : PySem.W.typeIn K (.ref (He.ma K (cl K "BadOrder") "__init__")) = some (.type "function")
  n_BadOrder_at : PySem.W.findIn K (.ref (cl K "BadOrder")) "at" = some none
  F_BadOrder : ∃ fd, FnOk P w K mg base CX0 1 (He.ma K (cl K "BadOrder") "__init__") fd ["self", "at"] (spI1 (cl K "BadOrder") "at") ∧ KBn K fd ["self", "at"] 2 [] (fun us ws => us) (fun vs zs => vs) ∧ KBn K fd ["self", "at"] 1 ["at"] (fun us ws => us ++ ws) (fun vs zs => vs ++ zs)
  m_BadRecipe : mg "BadRecipe" = some (.ref (cl K "BadRecipe"))
  e_BadRecipe : EX.ExcK K (cl K "BadRecipe")
  o_BadRecipe : OexC K (cl K "BadRecipe")
  i_BadRecipe : PySem.W.findIn K (.ref (cl K "BadRecipe")) "__init__" = some (some (.ref (He.ma K (cl K "BadRecipe") "__init__")))
  t_BadRecipe : PySem.W.typeIn K (.ref (He.ma K (cl K "BadRecipe") "__init__")) = some (.type "function")
  n_BadRecipe_at : PySem.W.findIn K (.ref (cl K "BadRecipe")) "at" = some none
  F_BadRecipe : ∃ fd, FnOk P w K mg base CX0 1 (He.ma K (cl K "BadRecipe") "__init__") fd ["self", "at"] (spI1 (cl K "BadRecipe") "at") ∧ KBn K fd ["self", "at"] 2 [] (fun us ws => us) (fun vs zs => vs) ∧ KBn K fd ["self", "at"] 1 ["at"] (fun us ws => us ++ ws) (fun vs zs => vs ++ zs)
  m_BadShape : mg "BadShape" = some (.ref (cl K "BadShape"))
  e_BadShape : EX.ExcK K (cl K "BadShape")
  o_BadShape : OexC K (cl K "BadShape")
  i_BadShape : PySem.W.findIn K (.ref (cl K "BadShape")) "__init__" = some (some (.ref (He.ma K (cl K "BadShape") "__init__")))
  t_BadShape : PySem.W.typeIn K (.ref (He.ma K (cl K "BadShape") "__init__")) = some (.type "function")
  n_BadShape_path : PySem.W.findIn K (.ref (cl K "BadShape")) "path" = some none
  F_BadShape : ∃ fd, FnOk P w K mg base CX0 1 (He.ma K (cl K "BadShape") "__init__") fd ["self", "path"] (spI1 (cl K "BadShape") "path") ∧ KBn K fd ["self", "path"] 2 [] (fun us ws => us) (fun vs zs => vs) ∧ KBn K fd ["self", "path"] 1 ["path"] (fun us ws => us ++ ws) (fun vs zs => vs ++ zs)
  m_BadSplit : mg "BadSplit" = some (.ref (cl K "BadSplit"))
  e_BadSplit : EX.ExcK K (cl K "BadSplit")
  q_BadSplit : PySem.W.excIn K (cl K "BadSplit") He.veBase "ValueError.__new__" = true
  kp_BadSplit : PySem.W.keepIn K (.ref (cl K "BadSplit")) = true
  m_BadValue : mg "BadValue" = some (.ref (cl K "BadValue"))
  e_BadValue : EX.ExcK K (cl K "BadValue")
  o_BadValue : OexC K (cl K "BadValue")
  i_BadValue : PySem.W.findIn K (.ref (cl K "BadValue")) "__init__" = some (some (.ref (He.ma K (cl K "BadValue") "__init__")))
  t_BadValue : PySem.W.typeIn K (.ref (He.ma K (cl K "BadValue") "__init__")) = some (.type "function")
  n_BadValue_value : PySem.W.findIn K (.ref (cl K "BadValue")) "value" = some none
  F_BadValue : ∃ fd, FnOk P w K mg base CX0 1 (He.ma K (cl K "BadValue") "__init__") fd ["self", "value"] (spI1 (cl K "BadValue") "value") ∧ KBn K fd ["self", "value"] 2 [] (fun us ws => us) (fun vs zs => vs) ∧ KBn K fd ["self", "value"] 1 ["value"] (fun us ws => us ++ ws) (fun vs zs => vs ++ zs)
  m_BadWay : mg "BadWay" = some (.ref (cl K "BadWay"))
  e_BadWay : EX.ExcK K (cl K "BadWay")
  o_BadWay : OexC K (cl K "BadWay")
  i_BadWay : PySem.W.findIn K (.ref (cl K "BadWay")) "__init__" = some (some (.ref (He.ma K (cl K "BadWay") "__init__")))
  t_BadWay : PySem.W.typeIn K (.ref (He.ma K (cl K "BadWay") "__init__")) = some (.type "function")
  n_BadWay_at : PySem.W.findIn K (.ref (cl K "BadWay")) "at" = some none
  F_BadWay : ∃ fd, FnOk P w K mg base CX0 1 (He.ma K (cl K "BadWay") "__init__") fd ["self", "at"] (spI1 (cl K "BadWay") "at") ∧ KBn K fd ["self", "at"] 2 [] (fun us ws => us) (fun vs zs => vs) ∧ KBn K fd ["self", "at"] 1 ["at"] (fun us ws => us ++ ws) (fun vs zs => vs ++ zs)
  m_BadWork : mg "BadWork" = some (.ref (cl K "BadWork"))
  e_BadWork : EX.ExcK K (cl K "BadWork")
  o_BadWork : OexC K (cl K "BadWork")
  i_BadWork : PySem.W.findIn K (.ref (cl K "BadWork")) "__init__" = some (some (.ref (He.ma K (cl K "BadWork") "__init__")))
  t_BadWork : PySem.W.typeIn K (.ref (He.ma K (cl K "BadWork") "__init__")) = some (.type "function")
  n_BadWork_at : PySem.W.findIn K (.ref (cl K "BadWork")) "at" = some none
  F_BadWork : ∃ fd, FnOk P w K mg base CX0 1 (He.ma K (cl K "BadWork") "__init__") fd ["self", "at"] (spI1 (cl K "BadWork") "at") ∧ KBn K fd ["self", "at"] 2 [] (fun us ws => us) (fun vs zs => vs) ∧ KBn K fd ["self", "at"] 1 ["at"] (fun us ws => us ++ ws) (fun vs zs => vs ++ zs)
  m_Finished : mg "Finished" = some (.ref (cl K "Finished"))
  e_Finished : EX.ExcK K (cl K "Finished")
  q_Finished : PySem.W.excIn K (cl K "Finished") He.veBase "ValueError.__new__" = true
  kp_Finished : PySem.W.keepIn K (.ref (cl K "Finished")) = true
  m_NoLabel : mg "NoLabel" = some (.ref (cl K "NoLabel"))
  e_NoLabel : EX.ExcK K (cl K "NoLabel")
  o_NoLabel : OexC K (cl K "NoLabel")
  i_NoLabel : PySem.W.findIn K (.ref (cl K "NoLabel")) "__init__" = some (some (.ref (He.ma K (cl K "NoLabel") "__init__")))
  t_NoLabel : PySem.W.typeIn K (.ref (He.ma K (cl K "NoLabel") "__init__")) = some (.type "function")
  n_NoLabel_label : PySem.W.findIn K (.ref (cl K "NoLabel")) "label" = some none
  F_NoLabel : ∃ fd, FnOk P w K mg base CX0 1 (He.ma K (cl K "NoLabel") "__init__") fd ["self", "label"] (spI1 (cl K "NoLabel") "label") ∧ KBn K fd ["self", "label"] 2 [] (fun us ws => us) (fun vs zs => vs) ∧ KBn K fd ["self", "label"] 1 ["label"] (fun us ws => us ++ ws) (fun vs zs => vs ++ zs)
  m_NoPair : mg "NoPair" = some (.ref (cl K "NoPair"))
  e_NoPair : EX.ExcK K (cl K "NoPair")
  o_NoPair : OexC K (cl K "NoPair")
  i_NoPair : PySem.W.findIn K (.ref (cl K "NoPair")) "__init__" = some (some (.ref (He.ma K (cl K "NoPair") "__init__")))
  t_NoPair : PySem.W.typeIn K (.ref (He.ma K (cl K "NoPair") "__init__")) = some (.type "function")
  n_NoPair_label : PySem.W.findIn K (.ref (cl K "NoPair")) "label" = some none
  n_NoPair_key : PySem.W.findIn K (.ref (cl K "NoPair")) "key" = some none
  F_NoPair : ∃ fd, FnOk P w K mg base CX0 1 (He.ma K (cl K "NoPair") "__init__") fd ["self", "label", "key"] (spI2 (cl K "NoPair") "label" "key") ∧ KBn K fd ["self", "label", "key"] 3 [] (fun us ws => us) (fun vs zs => vs) ∧ KBn K fd ["self", "label", "key"] 1 ["key", "label"] (fun us ws => us ++ swap2 ws) (fun vs zs => vs ++ swap2 zs)
  m_NoRow : mg "NoRow" = some (.ref (cl K "NoRow"))
  e_NoRow : EX.ExcK K (cl K "NoRow")
  o_NoRow : OexC K (cl K "NoRow")
  i_NoRow : PySem.W.findIn K (.ref (cl K "NoRow")) "__init__" = some (some (.ref (He.ma K (cl K "NoRow") "__init__")))
  t_NoRow : PySem.W.typeIn K (.ref (He.ma K (cl K "NoRow") "__init__")) = some (.type "function")
  n_NoRow_number : PySem.W.findIn K (.ref (cl K "NoRow")) "number" = some none
  F_NoRow : ∃ fd, FnOk P w K mg base CX0 1 (He.ma K (cl K "NoRow") "__init__") fd ["self", "number"] (spI1 (cl K "NoRow") "number") ∧ KBn K fd ["self", "number"] 2 [] (fun us ws => us) (fun vs zs => vs) ∧ KBn K fd ["self", "number"] 1 ["number"] (fun us ws => us ++ ws) (fun vs zs => vs ++ zs)
  m_NotGiven : mg "NotGiven" = some (.ref (cl K "NotGiven"))
  e_NotGiven : EX.ExcK K (cl K "NotGiven")
  o_NotGiven : OexC K (cl K "NotGiven")
  i_NotGiven : PySem.W.findIn K (.ref (cl K "NotGiven")) "__init__" = some (some (.ref (He.ma K (cl K "NotGiven") "__init__")))
  t_NotGiven : PySem.W.typeIn K (.ref (He.ma K (cl K "NotGiven") "__init__")) = some (.type "function")
  n_NotGiven_name : PySem.W.findIn K (.ref (cl K "NotGiven")) "name" = some none
  F_NotGiven : ∃ fd, FnOk P w K mg base CX0 1 (He.ma K (cl K "NotGiven") "__init__") fd ["self", "name"] (spI1 (cl K "NotGiven") "name") ∧ KBn K fd ["self", "name"] 2 [] (fun us ws => us) (fun vs zs => vs) ∧ KBn K fd ["self", "name"] 1 ["name"] (fun us ws => us ++ ws) (fun vs zs => vs ++ zs)
  m_TooLarge : mg "TooLarge" = some (.ref (cl K "TooLarge"))
  e_TooLarge : EX.ExcK K (cl K "TooLarge")
  q_TooLarge : PySem.W.excIn K (cl K "TooLarge") He.veBase "ValueError.__new__" = true
  kp_TooLarge : PySem.W.keepIn K (.ref (cl K "TooLarge")) = true
  m_TooMany : mg "TooMany" = some (.ref (cl K "TooMany"))
  e_TooMany : EX.ExcK K (cl K "TooMany")
  q_TooMany : PySem.W.excIn K (cl K "TooMany") He.veBase "ValueError.__new__" = true
  kp_TooMany : PySem.W.keepIn K (.ref (cl K "TooMany")) = true
  m_GroveError : mg "GroveError" = some (.ref (cl K "GroveError"))
  kit : ∀ i j : Nat, i < 15 → j < 15 → PySem.W.kitOne K (.ref (cl K (names.getD i ""))) (.ref (cl K (names.getD j ""))) = some (decide (i = j))
  kitG : ∀ i : Nat, i < 15 → PySem.W.kitOne K (.ref (cl K (names.getD i ""))) (.ref (cl K "GroveError")) = some true
  kitV : ∀ i : Nat, i < 15 → PySem.W.kitOne K (.ref (cl K (names.getD i ""))) (.type "ValueError") = some true
  m_int : mg "int" = none
  m_len : mg "len" = none
  m_range : mg "range" = none
  m_enumerate : mg "enumerate" = none
  m_isinstance : mg "isinstance" = none
  m_ValueError : mg "ValueError" = none
/-- each class, and what an error of it bears -/
def tab (y z : V) : List (Str × List (Str × V)) := [("BadCount", [("count", y)]), ("BadOrder", [("at", y)]), ("BadRecipe", [("at", y)]), ("BadShape", [("path", y)]), ("BadSplit", []), ("BadValue", [("value", y)]), ("BadWay", [("at", y)]),
  ("BadWork", [("at", y)]), ("Finished", []), ("NoLabel", [("label", y)]), ("NoPair", [("key", z), ("label", y)]), ("NoRow", [("number", y)]), ("NotGiven", [("name", y)]), ("TooLarge", []), ("TooMany", [])]
def Stand (K : PySem.W.Frag) (H : Hp) : List (Str × List (Str × V)) → List Addr → Prop := Paired fun d a => EX.ExAt H a (cl K d.1) d.2
theorem Stand.mono {K : PySem.W.Frag} {H H' : Hp} {ds : List (Str × List (Str × V))} {as : List Addr} (h : Stand K H ds as) (s : Same H H') : Stand K H' ds as := by
  unfold Stand at h ⊢
  induction h with
  | nil => exact .nil
  | cons a _ ih => exact .cons (a.mono s) ih
theorem same_upd {H : Hp} {p : Addr} {o : HO} (h : H p = none) : Same H (upd H p o) := fun b x e => by
  rw [upd_ne (ne_of_none e h)]
  exact e
theorem same_new {H H1 : Hp} {a : Addr} {o : HO} (n : H a = none) (k : ∀ b u, upd H a o b = some u → b ≠ a → H1 b = some u) : Same H H1 := fun b u e => k b u (by
  rw [upd_ne (ne_of_none e n)]
  exact e) (ne_of_none e n)
section
variable {P : Program} {w : World} {K : PySem.W.Frag} {mg : Str → Option Value} {base : Heap}
def spMade (K : PySem.W.Frag) : Sp := fun vs H Q _ => ∃ y z : V, vs = [y, z] ∧ ∀ (p : Addr) (as : List Addr) (H' : Hp), Same H H' → H' p = some (.lst (as.map V.ref)) → Stand K H' (tab y z) as → Q (.ref p) H'
theorem ok_made {f : Addr} {fd : FuncData} {k : Nat} (F1 : FnP K "_law_made" "_law_made" s_law_made f fd) (T : Txt P w K mg base) : FnOk P w K mg base CX0 (k + 2 + 1) f fd ["_law_one_here", "_law_other"] (spMade K) := by
  obtain ⟨fd_BadCount, F_BadCount, b_BadCount, kb_BadCount⟩ := T.F_BadCount
  obtain ⟨fd_BadOrder, F_BadOrder, b_BadOrder, kb_BadOrder⟩ := T.F_BadOrder
  obtain ⟨fd_BadRecipe, F_BadRecipe, b_BadRecipe, kb_BadRecipe⟩ := T.F_BadRecipe
  obtain ⟨fd_BadShape, F_BadShape, b_BadShape, kb_BadShape⟩ := T.F_BadShape
  obtain ⟨fd_BadValue, F_BadValue, b_BadValue, kb_BadValue⟩ := T.F_BadValue
  obtain ⟨fd_BadWay, F_BadWay, b_BadWay, kb_BadWay⟩ := T.F_BadWay
  obtain ⟨fd_BadWork, F_BadWork, b_BadWork, kb_BadWork⟩ := T.F_BadWork
  obtain ⟨fd_NoLabel, F_NoLabel, b_NoLabel, kb_NoLabel⟩ := T.F_NoLabel
  obtain ⟨fd_NoPair, F_NoPair, b_NoPair, kb_NoPair⟩ := T.F_NoPair
  obtain ⟨fd_NoRow, F_NoRow, b_NoRow, kb_NoRow⟩ := T.F_NoRow
  obtain ⟨fd_NotGiven, F_NotGiven, b_NotGiven, kb_NotGiven⟩ := T.F_NotGiven
  refine F1.ok sc_law_made (fun vs H Q E h => ?_) (fun cdv A outer s H vs Q E hr h => ?_)
  · obtain ⟨y, z, rfl, _⟩ := h
    rfl
  · obtain ⟨y, z, rfl, q⟩ := h
    refine ⟨_, pss_cons (ps_set (i := 2) sc_law_made.nd rfl (.inl rfl) (pe_lst (pa_cons (EX.pe_newX T.o_BadCount T.i_BadCount T.t_BadCount F_BadCount (hr.mono (by omega)) b_BadCount pass0 (by rfl) T.m_BadCount (by decide) (pa_cons (pv 0) pa_nil)) (pa_cons (EX.pe_newX T.o_BadOrder T.i_BadOrder T.t_BadOrder F_BadOrder (hr.mono (by omega)) b_BadOrder pass0 (by rfl) T.m_BadOrder (by decide) (pa_cons (pv 0) pa_nil)) (pa_cons (EX.pe_newX T.o_BadRecipe T.i_BadRecipe T.t_BadRecipe F_BadRecipe (hr.mono (by omega)) b_BadRecipe pass0 (by rfl) T.m_BadRecipe (by decide) (pa_cons (pv 0) pa_nil)) (pa_cons (EX.pe_newX T.o_BadShape T.i_BadShape T.t_BadShape F_BadShape (hr.mono (by omega)) b_BadShape pass0 (by rfl) T.m_BadShape (by decide) (pa_cons (pv 0) pa_nil)) (pa_cons (EX.pe_newX0 F.excBase_ValueError T.q_BadSplit T.m_BadSplit T.kp_BadSplit (by rfl)) (pa_cons (EX.pe_newX T.o_BadValue T.i_BadValue T.t_BadValue F_BadValue (hr.mono (by omega)) b_BadValue pass0 (by rfl) T.m_BadValue (by decide) (pa_cons (pv 0) pa_nil)) (pa_cons (EX.pe_newX T.o_BadWay T.i_BadWay T.t_BadWay F_BadWay (hr.mono (by omega)) b_BadWay pass0 (by rfl) T.m_BadWay (by decide) (pa_cons (pv 0) pa_nil)) pa_nil)))))))))
    (pss_cons (ps_set (i := 2) sc_law_made.nd rfl (.inl rfl) (pe_op op_cat (pv 2) (pe_lst (pa_cons (EX.pe_newX T.o_BadWork T.i_BadWork T.t_BadWork F_BadWork (hr.mono (by omega)) b_BadWork pass0 (by rfl) T.m_BadWork (by decide) (pa_cons (pv 0) pa_nil)) (pa_cons (EX.pe_newX0 F.excBase_ValueError T.q_Finished T.m_Finished T.kp_Finished (by rfl)) (pa_cons (EX.pe_newX T.o_NoLabel T.i_NoLabel T.t_NoLabel F_NoLabel (hr.mono (by omega)) b_NoLabel pass0 (by rfl) T.m_NoLabel (by decide) (pa_cons (pv 0) pa_nil)) (pa_cons (EX.pe_newX T.o_NoPair T.i_NoPair T.t_NoPair F_NoPair (hr.mono (by omega)) b_NoPair pass0 (by rfl) T.m_NoPair (by decide) (pa_cons (pv 0) (pa_cons (pv 1) pa_nil))) (pa_cons (EX.pe_newX T.o_NoRow T.i_NoRow T.t_NoRow F_NoRow (hr.mono (by omega)) b_NoRow pass0 (by rfl) T.m_NoRow (by decide) (pa_cons (pv 0) pa_nil)) (pa_cons (EX.pe_newX T.o_NotGiven T.i_NotGiven T.t_NotGiven F_NotGiven (hr.mono (by omega)) b_NotGiven pass0 (by rfl) T.m_NotGiven (by decide) (pa_cons (pv 0) pa_nil)) pa_nil)))))))))
    (pss_one (ps_ret (pe_op op_cat (pv 2) (pe_lst (pa_cons (EX.pe_newX0 F.excBase_ValueError T.q_TooLarge T.m_TooLarge T.kp_TooLarge (by rfl)) (pa_cons (EX.pe_newX0 F.excBase_ValueError T.q_TooMany T.m_TooMany T.kp_TooMany (by rfl)) pa_nil))))))), ?_⟩
    refine ⟨_, rfl, rfl, rfl, fun a0 n0 => ⟨a0, _, rfl, upd_same, fun H0 k0 x0 => ⟨rfl, ?_⟩⟩⟩
    have s0 := same_new n0 k0
    refine ⟨_, rfl, rfl, rfl, fun a1 n1 => ⟨a1, _, rfl, upd_same, fun H1 k1 x1 => ⟨rfl, ?_⟩⟩⟩
    have s1 := same_new n1 k1
    refine ⟨_, rfl, rfl, rfl, fun a2 n2 => ⟨a2, _, rfl, upd_same, fun H2 k2 x2 => ⟨rfl, ?_⟩⟩⟩
    have s2 := same_new n2 k2
    refine ⟨_, rfl, rfl, rfl, fun a3 n3 => ⟨a3, _, rfl, upd_same, fun H3 k3 x3 => ⟨rfl, ?_⟩⟩⟩
    have s3 := same_new n3 k3
    intro a4 n4
    have x4 : EX.ExAt (upd H3 a4 (ExO (.ref (cl K "BadSplit")) a4)) a4 (cl K "BadSplit") [] := .inr ⟨rfl, upd_same⟩
    have s4 := same_upd (o := ExO (.ref (cl K "BadSplit")) a4) n4
    generalize upd H3 a4 (ExO (.ref (cl K "BadSplit")) a4) = H4 at x4 s4
    refine ⟨_, rfl, rfl, rfl, fun a5 n5 => ⟨a5, _, rfl, upd_same, fun H5 k5 x5 => ⟨rfl, ?_⟩⟩⟩
    have s5 := same_new n5 k5
    refine ⟨_, rfl, rfl, rfl, fun a6 n6 => ⟨a6, _, rfl, upd_same, fun H6 k6 x6 => ⟨rfl, ?_⟩⟩⟩
    have s6 := same_new n6 k6
    refine ⟨by show 7 ≤ sizeLine; decide, fun p1 np1 => ?_⟩
    have sp1 := same_upd (o := .lst [.ref a0, .ref a1, .ref a2, .ref a3, .ref a4, .ref a5, .ref a6]) np1
    have hp1 : (upd H6 p1 (.lst [.ref a0, .ref a1, .ref a2, .ref a3, .ref a4, .ref a5, .ref a6])) p1 = some (.lst [.ref a0, .ref a1, .ref a2, .ref a3, .ref a4, .ref a5, .ref a6]) := upd_same
    refine ⟨_, rfl, ?_⟩
    revert sp1 hp1
    generalize upd H6 p1 (.lst [.ref a0, .ref a1, .ref a2, .ref a3, .ref a4, .ref a5, .ref a6]) = G1
    intro sp1 hp1
    refine ⟨_, rfl, rfl, rfl, fun a7 n7 => ⟨a7, _, rfl, upd_same, fun H7 k7 x7 => ⟨rfl, ?_⟩⟩⟩
    have s7 := same_new n7 k7
    intro a8 n8
    have x8 : EX.ExAt (upd H7 a8 (ExO (.ref (cl K "Finished")) a8)) a8 (cl K "Finished") [] := .inr ⟨rfl, upd_same⟩
    have s8 := same_upd (o := ExO (.ref (cl K "Finished")) a8) n8
    generalize upd H7 a8 (ExO (.ref (cl K "Finished")) a8) = H8 at x8 s8
    refine ⟨_, rfl, rfl, rfl, fun a9 n9 => ⟨a9, _, rfl, upd_same, fun H9 k9 x9 => ⟨rfl, ?_⟩⟩⟩
    have s9 := same_new n9 k9
    refine ⟨_, rfl, _, rfl, rfl, rfl, fun a10 n10 => ⟨a10, _, _, rfl, upd_same, fun H10 k10 x10 => ⟨rfl, ?_⟩⟩⟩
    have s10 := same_new n10 k10
    refine ⟨_, rfl, rfl, rfl, fun a11 n11 => ⟨a11, _, rfl, upd_same, fun H11 k11 x11 => ⟨rfl, ?_⟩⟩⟩
    have s11 := same_new n11 k11
    refine ⟨_, rfl, rfl, rfl, fun a12 n12 => ⟨a12, _, rfl, upd_same, fun H12 k12 x12 => ⟨rfl, ?_⟩⟩⟩
    have s12 := same_new n12 k12
    refine ⟨by show 6 ≤ sizeLine; decide, fun p2 np2 => ?_⟩
    have sp2 := same_upd (o := .lst [.ref a7, .ref a8, .ref a9, .ref a10, .ref a11, .ref a12]) np2
    refine ⟨p1, p2, _, _, rfl, rfl, sp2 _ _ ((s7.trans (s8.trans (s9.trans (s10.trans (s11.trans (s12)))))) _ _ hp1), upd_same, by show 13 ≤ sizeLine; decide, fun p3 np3 => ?_⟩
    have sp3 := same_upd (o := .lst ([.ref a0, .ref a1, .ref a2, .ref a3, .ref a4, .ref a5, .ref a6] ++ [.ref a7, .ref a8, .ref a9, .ref a10, .ref a11, .ref a12])) np3
    have hp3 : (upd (upd H12 p2 (.lst [.ref a7, .ref a8, .ref a9, .ref a10, .ref a11, .ref a12])) p3 (.lst ([.ref a0, .ref a1, .ref a2, .ref a3, .ref a4, .ref a5, .ref a6] ++ [.ref a7, .ref a8, .ref a9, .ref a10, .ref a11, .ref a12]))) p3 = some (.lst ([.ref a0, .ref a1, .ref a2, .ref a3, .ref a4, .ref a5, .ref a6] ++ [.ref a7, .ref a8, .ref a9, .ref a10, .ref a11, .ref a12])) := upd_same
    refine ⟨_, rfl, ?_⟩
    have t3 := sp2.trans sp3
    revert t3 hp3
    generalize upd (upd H12 p2 (.lst [.ref a7, .ref a8, .ref a9, .ref a10, .ref a11, .ref a12])) p3 (.lst ([.ref a0, .ref a1, .ref a2, .ref a3, .ref a4, .ref a5, .ref a6] ++ [.ref a7, .ref a8, .ref a9, .ref a10, .ref a11, .ref a12])) = G2
    intro hp3 t3
    intro a13 n13
    have x13 : EX.ExAt (upd G2 a13 (ExO (.ref (cl K "TooLarge")) a13)) a13 (cl K "TooLarge") [] := .inr ⟨rfl, upd_same⟩
    have s13 := same_upd (o := ExO (.ref (cl K "TooLarge")) a13) n13
    generalize upd G2 a13 (ExO (.ref (cl K "TooLarge")) a13) = H13 at x13 s13
    intro a14 n14
    have x14 : EX.ExAt (upd H13 a14 (ExO (.ref (cl K "TooMany")) a14)) a14 (cl K "TooMany") [] := .inr ⟨rfl, upd_same⟩
    have s14 := same_upd (o := ExO (.ref (cl K "TooMany")) a14) n14
    generalize upd H13 a14 (ExO (.ref (cl K "TooMany")) a14) = H14 at x14 s14
    refine ⟨by show 2 ≤ sizeLine; decide, fun p4 np4 => ?_⟩
    have sp4 := same_upd (o := .lst [.ref a13, .ref a14]) np4
    refine ⟨p3, p4, _, _, rfl, rfl, sp4 _ _ ((s13.trans (s14)) _ _ hp3), upd_same, by show 15 ≤ sizeLine; decide, fun p5 np5 => ?_⟩
    have sp5 := same_upd (o := .lst ([.ref a0, .ref a1, .ref a2, .ref a3, .ref a4, .ref a5, .ref a6] ++ [.ref a7, .ref a8, .ref a9, .ref a10, .ref a11, .ref a12] ++ [.ref a13, .ref a14])) np5
    have u14 := sp4.trans sp5
    have u12 : Same H12 _ := t3.trans ((s13.trans (s14)).trans u14)
    have u6 : Same H6 _ := sp1.trans ((s7.trans (s8.trans (s9.trans (s10.trans (s11.trans (s12)))))).trans u12)
    refine q p5 [a0, a1, a2, a3, a4, a5, a6, a7, a8, a9, a10, a11, a12, a13, a14] _ ((s0.trans (s1.trans (s2.trans (s3.trans (s4.trans (s5.trans (s6))))))).trans u6) upd_same ?_
    exact .cons (x0.mono ((s1.trans (s2.trans (s3.trans (s4.trans (s5.trans (s6)))))).trans u6)) (.cons (x1.mono ((s2.trans (s3.trans (s4.trans (s5.trans (s6))))).trans u6)) (.cons (x2.mono ((s3.trans (s4.trans (s5.trans (s6)))).trans u6)) (.cons (x3.mono ((s4.trans (s5.trans (s6))).trans u6)) (.cons (x4.mono ((s5.trans (s6)).trans u6)) (.cons (x5.mono (s6.trans u6)) (.cons (x6.mono u6)
      (.cons (x7.mono ((s8.trans (s9.trans (s10.trans (s11.trans (s12))))).trans u12)) (.cons (x8.mono ((s9.trans (s10.trans (s11.trans (s12)))).trans u12)) (.cons (x9.mono ((s10.trans (s11.trans (s12))).trans u12)) (.cons (x10.mono ((s11.trans (s12)).trans u12)) (.cons (x11.mono (s12.trans u12)) (.cons (x12.mono u12) (.cons (x13.mono (s14.trans u14)) (.cons (x14.mono u14) .nil))))))))))))))
def tabB (y z : V) : List (Str × List (Str × V)) := [("BadCount", [("count", y)]), ("BadOrder", [("at", y)]), ("BadRecipe", [("at", y)]), ("BadShape", [("path", y)]), ("BadValue", [("value", y)]), ("BadWay", [("at", y)]),
  ("BadWork", [("at", y)]), ("NoLabel", [("label", y)]), ("NoPair", [("key", z), ("label", y)]), ("NoRow", [("number", y)]), ("NotGiven", [("name", y)])]
def spNamed (K : PySem.W.Frag) : Sp := fun vs H Q _ => ∃ y z : V, vs = [y, z] ∧ ∀ (p : Addr) (as : List Addr) (H' : Hp), Same H H' → H' p = some (.lst (as.map V.ref)) → Stand K H' (tabB y z) as → Q (.ref p) H'
theorem ok_named {f : Addr} {fd : FuncData} {k : Nat} (F1 : FnP K "_law_named" "_law_named" s_law_named f fd) (T : Txt P w K mg base) : FnOk P w K mg base CX0 (k + 2 + 1) f fd ["_law_one_here", "_law_other"] (spNamed K) := by
  obtain ⟨fd_BadCount, F_BadCount, b_BadCount, kb_BadCount⟩ := T.F_BadCount
  obtain ⟨fd_BadOrder, F_BadOrder, b_BadOrder, kb_BadOrder⟩ := T.F_BadOrder
  obtain ⟨fd_BadRecipe, F_BadRecipe, b_BadRecipe, kb_BadRecipe⟩ := T.F_BadRecipe
  obtain ⟨fd_BadShape, F_BadShape, b_BadShape, kb_BadShape⟩ := T.F_BadShape
  obtain ⟨fd_BadValue, F_BadValue, b_BadValue, kb_BadValue⟩ := T.F_BadValue
  obtain ⟨fd_BadWay, F_BadWay, b_BadWay, kb_BadWay⟩ := T.F_BadWay
  obtain ⟨fd_BadWork, F_BadWork, b_BadWork, kb_BadWork⟩ := T.F_BadWork
  obtain ⟨fd_NoLabel, F_NoLabel, b_NoLabel, kb_NoLabel⟩ := T.F_NoLabel
  obtain ⟨fd_NoPair, F_NoPair, b_NoPair, kb_NoPair⟩ := T.F_NoPair
  obtain ⟨fd_NoRow, F_NoRow, b_NoRow, kb_NoRow⟩ := T.F_NoRow
  obtain ⟨fd_NotGiven, F_NotGiven, b_NotGiven, kb_NotGiven⟩ := T.F_NotGiven
  refine F1.ok sc_law_named (fun vs H Q E h => ?_) (fun cdv A outer s H vs Q E hr h => ?_)
  · obtain ⟨y, z, rfl, _⟩ := h
    rfl
  · obtain ⟨y, z, rfl, q⟩ := h
    refine ⟨_, pss_cons (ps_set (i := 2) sc_law_named.nd rfl (.inl rfl) (pe_lst (pa_cons (EX.pe_newXK T.o_BadCount T.i_BadCount T.t_BadCount F_BadCount (hr.mono (by omega)) kb_BadCount pass0 (by rfl) T.m_BadCount (pk_cons (pv 0) pk_nil)) (pa_cons (EX.pe_newXK T.o_BadOrder T.i_BadOrder T.t_BadOrder F_BadOrder (hr.mono (by omega)) kb_BadOrder pass0 (by rfl) T.m_BadOrder (pk_cons (pv 0) pk_nil)) (pa_cons (EX.pe_newXK T.o_BadRecipe T.i_BadRecipe T.t_BadRecipe F_BadRecipe (hr.mono (by omega)) kb_BadRecipe pass0 (by rfl) T.m_BadRecipe (pk_cons (pv 0) pk_nil)) (pa_cons (EX.pe_newXK T.o_BadShape T.i_BadShape T.t_BadShape F_BadShape (hr.mono (by omega)) kb_BadShape pass0 (by rfl) T.m_BadShape (pk_cons (pv 0) pk_nil)) (pa_cons (EX.pe_newXK T.o_BadValue T.i_BadValue T.t_BadValue F_BadValue (hr.mono (by omega)) kb_BadValue pass0 (by rfl) T.m_BadValue (pk_cons (pv 0) pk_nil)) pa_nil)))))))
    (pss_cons (ps_set (i := 2) sc_law_named.nd rfl (.inl rfl) (pe_op op_cat (pv 2) (pe_lst (pa_cons (EX.pe_newXK T.o_BadWay T.i_BadWay T.t_BadWay F_BadWay (hr.mono (by omega)) kb_BadWay pass0 (by rfl) T.m_BadWay (pk_cons (pv 0) pk_nil)) (pa_cons (EX.pe_newXK T.o_BadWork T.i_BadWork T.t_BadWork F_BadWork (hr.mono (by omega)) kb_BadWork pass0 (by rfl) T.m_BadWork (pk_cons (pv 0) pk_nil)) (pa_cons (EX.pe_newXK T.o_NoLabel T.i_NoLabel T.t_NoLabel F_NoLabel (hr.mono (by omega)) kb_NoLabel pass0 (by rfl) T.m_NoLabel (pk_cons (pv 0) pk_nil)) (pa_cons (EX.pe_newXK T.o_NoPair T.i_NoPair T.t_NoPair F_NoPair (hr.mono (by omega)) kb_NoPair pass0 (by rfl) T.m_NoPair (pk_cons (pv 1) (pk_cons (pv 0) pk_nil))) pa_nil)))))))
    (pss_one (ps_ret (pe_op op_cat (pv 2) (pe_lst (pa_cons (EX.pe_newXK T.o_NoRow T.i_NoRow T.t_NoRow F_NoRow (hr.mono (by omega)) kb_NoRow pass0 (by rfl) T.m_NoRow (pk_cons (pv 0) pk_nil)) (pa_cons (EX.pe_newXK T.o_NotGiven T.i_NotGiven T.t_NotGiven F_NotGiven (hr.mono (by omega)) kb_NotGiven pass0 (by rfl) T.m_NotGiven (pk_cons (pv 0) pk_nil)) pa_nil))))))), ?_⟩
    refine ⟨_, rfl, rfl, rfl, fun a0 n0 => ⟨a0, _, rfl, upd_same, fun H0 k0 x0 => ⟨rfl, ?_⟩⟩⟩
    have s0 := same_new n0 k0
    refine ⟨_, rfl, rfl, rfl, fun a1 n1 => ⟨a1, _, rfl, upd_same, fun H1 k1 x1 => ⟨rfl, ?_⟩⟩⟩
    have s1 := same_new n1 k1
    refine ⟨_, rfl, rfl, rfl, fun a2 n2 => ⟨a2, _, rfl, upd_same, fun H2 k2 x2 => ⟨rfl, ?_⟩⟩⟩
    have s2 := same_new n2 k2
    refine ⟨_, rfl, rfl, rfl, fun a3 n3 => ⟨a3, _, rfl, upd_same, fun H3 k3 x3 => ⟨rfl, ?_⟩⟩⟩
    have s3 := same_new n3 k3
    refine ⟨_, rfl, rfl, rfl, fun a4 n4 => ⟨a4, _, rfl, upd_same, fun H4 k4 x4 => ⟨rfl, ?_⟩⟩⟩
    have s4 := same_new n4 k4
    refine ⟨by show 5 ≤ sizeLine; decide, fun p1 np1 => ?_⟩
    have sp1 := same_upd (o := .lst [.ref a0, .ref a1, .ref a2, .ref a3, .ref a4]) np1
    have hp1 : (upd H4 p1 (.lst [.ref a0, .ref a1, .ref a2, .ref a3, .ref a4])) p1 = some (.lst [.ref a0, .ref a1, .ref a2, .ref a3, .ref a4]) := upd_same
    refine ⟨_, rfl, ?_⟩
    revert sp1 hp1
    generalize upd H4 p1 (.lst [.ref a0, .ref a1, .ref a2, .ref a3, .ref a4]) = G1
    intro sp1 hp1
    refine ⟨_, rfl, rfl, rfl, fun a5 n5 => ⟨a5, _, rfl, upd_same, fun H5 k5 x5 => ⟨rfl, ?_⟩⟩⟩
    have s5 := same_new n5 k5
    refine ⟨_, rfl, rfl, rfl, fun a6 n6 => ⟨a6, _, rfl, upd_same, fun H6 k6 x6 => ⟨rfl, ?_⟩⟩⟩
    have s6 := same_new n6 k6
    refine ⟨_, rfl, rfl, rfl, fun a7 n7 => ⟨a7, _, rfl, upd_same, fun H7 k7 x7 => ⟨rfl, ?_⟩⟩⟩
    have s7 := same_new n7 k7
    refine ⟨_, rfl, _, rfl, rfl, rfl, fun a8 n8 => ⟨a8, _, _, rfl, upd_same, fun H8 k8 x8 => ⟨rfl, ?_⟩⟩⟩
    have s8 := same_new n8 k8
    refine ⟨by show 4 ≤ sizeLine; decide, fun p2 np2 => ?_⟩
    have sp2 := same_upd (o := .lst [.ref a5, .ref a6, .ref a7, .ref a8]) np2
    refine ⟨p1, p2, _, _, rfl, rfl, sp2 _ _ ((s5.trans (s6.trans (s7.trans (s8)))) _ _ hp1), upd_same, by show 9 ≤ sizeLine; decide, fun p3 np3 => ?_⟩
    have sp3 := same_upd (o := .lst ([.ref a0, .ref a1, .ref a2, .ref a3, .ref a4] ++ [.ref a5, .ref a6, .ref a7, .ref a8])) np3
    have hp3 : (upd (upd H8 p2 (.lst [.ref a5, .ref a6, .ref a7, .ref a8])) p3 (.lst ([.ref a0, .ref a1, .ref a2, .ref a3, .ref a4] ++ [.ref a5, .ref a6, .ref a7, .ref a8]))) p3 = some (.lst ([.ref a0, .ref a1, .ref a2, .ref a3, .ref a4] ++ [.ref a5, .ref a6, .ref a7, .ref a8])) := upd_same
    refine ⟨_, rfl, ?_⟩
    have t3 := sp2.trans sp3
    revert t3 hp3
    generalize upd (upd H8 p2 (.lst [.ref a5, .ref a6, .ref a7, .ref a8])) p3 (.lst ([.ref a0, .ref a1, .ref a2, .ref a3, .ref a4] ++ [.ref a5, .ref a6, .ref a7, .ref a8])) = G2
    intro hp3 t3
    refine ⟨_, rfl, rfl, rfl, fun a9 n9 => ⟨a9, _, rfl, upd_same, fun H9 k9 x9 => ⟨rfl, ?_⟩⟩⟩
    have s9 := same_new n9 k9
    refine ⟨_, rfl, rfl, rfl, fun a10 n10 => ⟨a10, _, rfl, upd_same, fun H10 k10 x10 => ⟨rfl, ?_⟩⟩⟩
    have s10 := same_new n10 k10
    refine ⟨by show 2 ≤ sizeLine; decide, fun p4 np4 => ?_⟩
    have sp4 := same_upd (o := .lst [.ref a9, .ref a10]) np4
    refine ⟨p3, p4, _, _, rfl, rfl, sp4 _ _ ((s9.trans (s10)) _ _ hp3), upd_same, by show 11 ≤ sizeLine; decide, fun p5 np5 => ?_⟩
    have sp5 := same_upd (o := .lst ([.ref a0, .ref a1, .ref a2, .ref a3, .ref a4] ++ [.ref a5, .ref a6, .ref a7, .ref a8] ++ [.ref a9, .ref a10])) np5
    have u10 := sp4.trans sp5
    have u8 : Same H8 _ := t3.trans ((s9.trans (s10)).trans u10)
    have u4 : Same H4 _ := sp1.trans ((s5.trans (s6.trans (s7.trans (s8)))).trans u8)
    refine q p5 [a0, a1, a2, a3, a4, a5, a6, a7, a8, a9, a10] _ ((s0.trans (s1.trans (s2.trans (s3.trans (s4))))).trans u4) upd_same ?_
    exact .cons (x0.mono ((s1.trans (s2.trans (s3.trans (s4)))).trans u4)) (.cons (x1.mono ((s2.trans (s3.trans (s4))).trans u4)) (.cons (x2.mono ((s3.trans (s4)).trans u4)) (.cons (x3.mono (s4.trans u4)) (.cons (x4.mono u4)
      (.cons (x5.mono ((s6.trans (s7.trans (s8))).trans u8)) (.cons (x6.mono ((s7.trans (s8)).trans u8)) (.cons (x7.mono (s8.trans u8)) (.cons (x8.mono u8) (.cons (x9.mono (s10.trans u10)) (.cons (x10.mono u10) .nil))))))))))
/-! ### which class -/
def row (i : Nat) : List V := (List.range 15).map fun j => V.bl (decide (i = j))
def spKinds (K : PySem.W.Frag) : Sp := fun vs H Q _ => ∃ (a : Addr) (i : Nat) (fs : List (Str × V)), vs = [.ref a] ∧ i < 15 ∧ EX.ExAt H a (cl K (names.getD i "")) fs ∧ ∀ (p : Addr) (H' : Hp), Same H H' → H' p = some (.lst (row i)) → Q (.ref p) H'
theorem exK_all (T : Txt P w K mg base) : ∀ i, i < 15 → EX.ExcK K (cl K (names.getD i ""))
  | 0, _ => T.e_BadCount
  | 1, _ => T.e_BadOrder
  | 2, _ => T.e_BadRecipe
  | 3, _ => T.e_BadShape
  | 4, _ => T.e_BadSplit
  | 5, _ => T.e_BadValue
  | 6, _ => T.e_BadWay
  | 7, _ => T.e_BadWork
  | 8, _ => T.e_Finished
  | 9, _ => T.e_NoLabel
  | 10, _ => T.e_NoPair
  | 11, _ => T.e_NoRow
  | 12, _ => T.e_NotGiven
  | 13, _ => T.e_TooLarge
  | 14, _ => T.e_TooMany
  | n + 15, h => absurd h (by omega)
theorem ok_kinds {f : Addr} {fd : FuncData} {k : Nat} (F1 : FnP K "_law_kinds" "_law_kinds" s_law_kinds f fd) (T : Txt P w K mg base) : FnOk P w K mg base CX0 (k + 1) f fd ["_law_e"] (spKinds K) := by
  refine F1.ok sc_law_kinds (fun vs H Q E h => ?_) (fun cdv A outer s H vs Q E hr h => ?_)
  · obtain ⟨a, i, fs, rfl, _⟩ := h
    rfl
  · obtain ⟨a, i, fs, rfl, hi, ea, q⟩ := h
    have eK := exK_all T i hi
    have kt : ∀ j, j < 15 → PySem.W.kitOne K (.ref (cl K (names.getD i ""))) (.ref (cl K (names.getD j ""))) = some (decide (i = j)) := fun j hj => T.kit i j hi hj
    refine ⟨_, pss_cons (ps_set (i := 1) sc_law_kinds.nd rfl (.inl rfl) (pe_lst (pa_cons (pe_callB EX.call_isX (by rfl) T.m_isinstance (by decide +kernel) (pa_cons (pv 0) (pa_cons (pe_gref (by rfl) T.m_BadCount) pa_nil))) (pa_cons (pe_callB EX.call_isX (by rfl) T.m_isinstance (by decide +kernel) (pa_cons (pv 0) (pa_cons (pe_gref (by rfl) T.m_BadOrder) pa_nil))) (pa_cons (pe_callB EX.call_isX (by rfl) T.m_isinstance (by decide +kernel) (pa_cons (pv 0) (pa_cons (pe_gref (by rfl) T.m_BadRecipe) pa_nil))) (pa_cons (pe_callB EX.call_isX (by rfl) T.m_isinstance (by decide +kernel) (pa_cons (pv 0) (pa_cons (pe_gref (by rfl) T.m_BadShape) pa_nil))) pa_nil))))))
    (pss_cons (ps_set (i := 1) sc_law_kinds.nd rfl (.inl rfl) (pe_op op_cat (pv 1) (pe_lst (pa_cons (pe_callB EX.call_isX (by rfl) T.m_isinstance (by decide +kernel) (pa_cons (pv 0) (pa_cons (pe_gref (by rfl) T.m_BadSplit) pa_nil))) (pa_cons (pe_callB EX.call_isX (by rfl) T.m_isinstance (by decide +kernel) (pa_cons (pv 0) (pa_cons (pe_gref (by rfl) T.m_BadValue) pa_nil))) (pa_cons (pe_callB EX.call_isX (by rfl) T.m_isinstance (by decide +kernel) (pa_cons (pv 0) (pa_cons (pe_gref (by rfl) T.m_BadWay) pa_nil))) (pa_cons (pe_callB EX.call_isX (by rfl) T.m_isinstance (by decide +kernel) (pa_cons (pv 0) (pa_cons (pe_gref (by rfl) T.m_BadWork) pa_nil))) pa_nil)))))))
    (pss_cons (ps_set (i := 1) sc_law_kinds.nd rfl (.inl rfl) (pe_op op_cat (pv 1) (pe_lst (pa_cons (pe_callB EX.call_isX (by rfl) T.m_isinstance (by decide +kernel) (pa_cons (pv 0) (pa_cons (pe_gref (by rfl) T.m_Finished) pa_nil))) (pa_cons (pe_callB EX.call_isX (by rfl) T.m_isinstance (by decide +kernel) (pa_cons (pv 0) (pa_cons (pe_gref (by rfl) T.m_NoLabel) pa_nil))) (pa_cons (pe_callB EX.call_isX (by rfl) T.m_isinstance (by decide +kernel) (pa_cons (pv 0) (pa_cons (pe_gref (by rfl) T.m_NoPair) pa_nil))) (pa_cons (pe_callB EX.call_isX (by rfl) T.m_isinstance (by decide +kernel) (pa_cons (pv 0) (pa_cons (pe_gref (by rfl) T.m_NoRow) pa_nil))) pa_nil)))))))
    (pss_one (ps_ret (pe_op op_cat (pv 1) (pe_lst (pa_cons (pe_callB EX.call_isX (by rfl) T.m_isinstance (by decide +kernel) (pa_cons (pv 0) (pa_cons (pe_gref (by rfl) T.m_NotGiven) pa_nil))) (pa_cons (pe_callB EX.call_isX (by rfl) T.m_isinstance (by decide +kernel) (pa_cons (pv 0) (pa_cons (pe_gref (by rfl) T.m_TooLarge) pa_nil))) (pa_cons (pe_callB EX.call_isX (by rfl) T.m_isinstance (by decide +kernel) (pa_cons (pv 0) (pa_cons (pe_gref (by rfl) T.m_TooMany) pa_nil))) pa_nil))))))))), ?_⟩
    refine ⟨_, rfl, a, _, fs, _, _, decide (i = 0), rfl, ea, eK, .own _, kt 0 (by decide), ?_⟩
    refine ⟨_, rfl, a, _, fs, _, _, decide (i = 1), rfl, ea, eK, .own _, kt 1 (by decide), ?_⟩
    refine ⟨_, rfl, a, _, fs, _, _, decide (i = 2), rfl, ea, eK, .own _, kt 2 (by decide), ?_⟩
    refine ⟨_, rfl, a, _, fs, _, _, decide (i = 3), rfl, ea, eK, .own _, kt 3 (by decide), ?_⟩
    refine ⟨by show 4 ≤ sizeLine; decide, fun p1 np1 => ⟨_, rfl, ?_⟩⟩
    have sp1 := same_upd (o := .lst [.bl (decide (i = 0)), .bl (decide (i = 1)), .bl (decide (i = 2)), .bl (decide (i = 3))]) np1
    have e1 := ea.mono sp1
    refine ⟨_, rfl, a, _, fs, _, _, decide (i = 4), rfl, e1, eK, .own _, kt 4 (by decide), ?_⟩
    refine ⟨_, rfl, a, _, fs, _, _, decide (i = 5), rfl, e1, eK, .own _, kt 5 (by decide), ?_⟩
    refine ⟨_, rfl, a, _, fs, _, _, decide (i = 6), rfl, e1, eK, .own _, kt 6 (by decide), ?_⟩
    refine ⟨_, rfl, a, _, fs, _, _, decide (i = 7), rfl, e1, eK, .own _, kt 7 (by decide), ?_⟩
    refine ⟨by show 4 ≤ sizeLine; decide, fun p2 np2 => ?_⟩
    have sp2 := same_upd (o := .lst [.bl (decide (i = 4)), .bl (decide (i = 5)), .bl (decide (i = 6)), .bl (decide (i = 7))]) np2
    refine ⟨p1, p2, _, _, rfl, rfl, sp2 _ _ upd_same, upd_same, by show 8 ≤ sizeLine; decide, fun p3 np3 => ⟨_, rfl, ?_⟩⟩
    have sp3 := same_upd (o := .lst ([.bl (decide (i = 0)), .bl (decide (i = 1)), .bl (decide (i = 2)), .bl (decide (i = 3))] ++ [.bl (decide (i = 4)), .bl (decide (i = 5)), .bl (decide (i = 6)), .bl (decide (i = 7))])) np3
    have e3 := e1.mono (sp2.trans sp3)
    refine ⟨_, rfl, a, _, fs, _, _, decide (i = 8), rfl, e3, eK, .own _, kt 8 (by decide), ?_⟩
    refine ⟨_, rfl, a, _, fs, _, _, decide (i = 9), rfl, e3, eK, .own _, kt 9 (by decide), ?_⟩
    refine ⟨_, rfl, a, _, fs, _, _, decide (i = 10), rfl, e3, eK, .own _, kt 10 (by decide), ?_⟩
    refine ⟨_, rfl, a, _, fs, _, _, decide (i = 11), rfl, e3, eK, .own _, kt 11 (by decide), ?_⟩
    refine ⟨by show 4 ≤ sizeLine; decide, fun p4 np4 => ?_⟩
    have sp4 := same_upd (o := .lst [.bl (decide (i = 8)), .bl (decide (i = 9)), .bl (decide (i = 10)), .bl (decide (i = 11))]) np4
    refine ⟨p3, p4, _, _, rfl, rfl, sp4 _ _ upd_same, upd_same, by show 12 ≤ sizeLine; decide, fun p5 np5 => ⟨_, rfl, ?_⟩⟩
    have sp5 := same_upd (o := .lst ([.bl (decide (i = 0)), .bl (decide (i = 1)), .bl (decide (i = 2)), .bl (decide (i = 3))] ++ [.bl (decide (i = 4)), .bl (decide (i = 5)), .bl (decide (i = 6)), .bl (decide (i = 7))] ++ [.bl (decide (i = 8)), .bl (decide (i = 9)), .bl (decide (i = 10)), .bl (decide (i = 11))])) np5
    have e5 := e3.mono (sp4.trans sp5)
    refine ⟨_, rfl, a, _, fs, _, _, decide (i = 12), rfl, e5, eK, .own _, kt 12 (by decide), ?_⟩
    refine ⟨_, rfl, a, _, fs, _, _, decide (i = 13), rfl, e5, eK, .own _, kt 13 (by decide), ?_⟩
    refine ⟨_, rfl, a, _, fs, _, _, decide (i = 14), rfl, e5, eK, .own _, kt 14 (by decide), ?_⟩
    refine ⟨by show 3 ≤ sizeLine; decide, fun p6 np6 => ?_⟩
    have sp6 := same_upd (o := .lst [.bl (decide (i = 12)), .bl (decide (i = 13)), .bl (decide (i = 14))]) np6
    refine ⟨p5, p6, _, _, rfl, rfl, sp6 _ _ upd_same, upd_same, by show 15 ≤ sizeLine; decide, fun p7 np7 => ?_⟩
    have sp7 := same_upd (o := .lst ([.bl (decide (i = 0)), .bl (decide (i = 1)), .bl (decide (i = 2)), .bl (decide (i = 3))] ++ [.bl (decide (i = 4)), .bl (decide (i = 5)), .bl (decide (i = 6)), .bl (decide (i = 7))] ++ [.bl (decide (i = 8)), .bl (decide (i = 9)), .bl (decide (i = 10)), .bl (decide (i = 11))] ++ [.bl (decide (i = 12)), .bl (decide (i = 13)), .bl (decide (i = 14))])) np7
    exact q p7 _ (sp1.trans (sp2.trans (sp3.trans (sp4.trans (sp5.trans (sp6.trans sp7)))))) upd_same
/-! ### what is borne -/
def due (y z : V) : List V := [y, y, y, y, y, y, y, y, y, z, y, y]
def spBorne (K : PySem.W.Frag) : Sp := fun vs H Q _ => ∃ (l : Addr) (as : List Addr) (y z : V), vs = [.ref l] ∧ H l = some (.lst (as.map V.ref)) ∧ Stand K H (tabB y z) as ∧ ∀ (p : Addr) (H' : Hp), Same H H' → H' p = some (.lst (due y z)) → Q (.ref p) H'
theorem stand11 {H : Hp} {y z : V} {as : List Addr} (h : Stand K H (tabB y z) as) : ∃ a0 a1 a2 a3 a4 a5 a6 a7 a8 a9 a10, as = [a0, a1, a2, a3, a4, a5, a6, a7, a8, a9, a10] ∧
    EX.ExAt H a0 (cl K "BadCount") [("count", y)] ∧ EX.ExAt H a1 (cl K "BadOrder") [("at", y)] ∧ EX.ExAt H a2 (cl K "BadRecipe") [("at", y)] ∧ EX.ExAt H a3 (cl K "BadShape") [("path", y)] ∧ EX.ExAt H a4 (cl K "BadValue") [("value", y)] ∧ EX.ExAt H a5 (cl K "BadWay") [("at", y)] ∧ EX.ExAt H a6 (cl K "BadWork") [("at", y)] ∧ EX.ExAt H a7 (cl K "NoLabel") [("label", y)] ∧ EX.ExAt H a8 (cl K "NoPair") [("key", z), ("label", y)] ∧ EX.ExAt H a9 (cl K "NoRow") [("number", y)] ∧ EX.ExAt H a10 (cl K "NotGiven") [("name", y)] := by
  unfold Stand tabB at h
  match as, h with
  | _, .cons x0 (.cons x1 (.cons x2 (.cons x3 (.cons x4 (.cons x5 (.cons x6 (.cons x7 (.cons x8 (.cons x9 (.cons x10 .nil)))))))))) => exact ⟨_, _, _, _, _, _, _, _, _, _, _, rfl, x0, x1, x2, x3, x4, x5, x6, x7, x8, x9, x10⟩
theorem ok_borne {f : Addr} {fd : FuncData} {k : Nat} (F1 : FnP K "_law_borne" "_law_borne" s_law_borne f fd) (T : Txt P w K mg base) : FnOk P w K mg base CX0 (k + 1) f fd ["_law_found"] (spBorne K) := by
  refine F1.ok sc_law_borne (fun vs H Q E h => ?_) (fun cdv A outer s H vs Q E hr h => ?_)
  · obtain ⟨l, as, y, z, rfl, _⟩ := h
    rfl
  · obtain ⟨l, as, y, z, rfl, hl, st, q⟩ := h
    refine ⟨_, pss_cons (ps_asg (pv 0) (pg_unl rfl (pgs_cons (pg_name (i := 1) sc_law_borne.nd rfl (.inl rfl)) (pgs_cons (pg_name (i := 2) sc_law_borne.nd rfl (.inl rfl)) (pgs_cons (pg_name (i := 3) sc_law_borne.nd rfl (.inl rfl)) (pgs_cons (pg_name (i := 4) sc_law_borne.nd rfl (.inl rfl)) (pgs_cons (pg_name (i := 5) sc_law_borne.nd rfl (.inl rfl)) (pgs_cons (pg_name (i := 6) sc_law_borne.nd rfl (.inl rfl)) (pgs_cons (pg_name (i := 7) sc_law_borne.nd rfl (.inl rfl)) (pgs_cons (pg_name (i := 8) sc_law_borne.nd rfl (.inl rfl)) (pgs_cons (pg_name (i := 9) sc_law_borne.nd rfl (.inl rfl)) (pgs_cons (pg_name (i := 10) sc_law_borne.nd rfl (.inl rfl)) (pgs_cons (pg_name (i := 11) sc_law_borne.nd rfl (.inl rfl)) (pgs_nil))))))))))))))
    (pss_one (ps_ret (pe_lst (pa_cons (EX.pe_xat (pv 1)) (pa_cons (EX.pe_xat (pv 2)) (pa_cons (EX.pe_xat (pv 3)) (pa_cons (EX.pe_xat (pv 4)) (pa_cons (EX.pe_xat (pv 5)) (pa_cons (EX.pe_xat (pv 6)) (pa_cons (EX.pe_xat (pv 7)) (pa_cons (EX.pe_xat (pv 8)) (pa_cons (EX.pe_xat (pv 9)) (pa_cons (EX.pe_xat (pv 9)) (pa_cons (EX.pe_xat (pv 10)) (pa_cons (EX.pe_xat (pv 11)) pa_nil))))))))))))))), ?_⟩
    obtain ⟨a0, a1, a2, a3, a4, a5, a6, a7, a8, a9, a10, rfl, x0, x1, x2, x3, x4, x5, x6, x7, x8, x9, x10⟩ := stand11 st
    refine ⟨_, rfl, l, _, rfl, .inl (.inl hl), rfl, _, _, rfl, _, _, rfl, _, _, rfl, _, _, rfl, _, _, rfl, _, _, rfl, _, _, rfl, _, _, rfl, _, _, rfl, _, _, rfl, _, _, rfl, rfl, ?_⟩
    refine ⟨_, rfl, a0, _, _, _, rfl, x0, T.e_BadCount, T.n_BadCount_count, rfl, ?_⟩
    refine ⟨_, rfl, a1, _, _, _, rfl, x1, T.e_BadOrder, T.n_BadOrder_at, rfl, ?_⟩
    refine ⟨_, rfl, a2, _, _, _, rfl, x2, T.e_BadRecipe, T.n_BadRecipe_at, rfl, ?_⟩
    refine ⟨_, rfl, a3, _, _, _, rfl, x3, T.e_BadShape, T.n_BadShape_path, rfl, ?_⟩
    refine ⟨_, rfl, a4, _, _, _, rfl, x4, T.e_BadValue, T.n_BadValue_value, rfl, ?_⟩
    refine ⟨_, rfl, a5, _, _, _, rfl, x5, T.e_BadWay, T.n_BadWay_at, rfl, ?_⟩
    refine ⟨_, rfl, a6, _, _, _, rfl, x6, T.e_BadWork, T.n_BadWork_at, rfl, ?_⟩
    refine ⟨_, rfl, a7, _, _, _, rfl, x7, T.e_NoLabel, T.n_NoLabel_label, rfl, ?_⟩
    refine ⟨_, rfl, a8, _, _, _, rfl, x8, T.e_NoPair, T.n_NoPair_label, rfl, ?_⟩
    refine ⟨_, rfl, a8, _, _, _, rfl, x8, T.e_NoPair, T.n_NoPair_key, rfl, ?_⟩
    refine ⟨_, rfl, a9, _, _, _, rfl, x9, T.e_NoRow, T.n_NoRow_number, rfl, ?_⟩
    refine ⟨_, rfl, a10, _, _, _, rfl, x10, T.e_NotGiven, T.n_NotGiven_name, rfl, ?_⟩
    exact ⟨by show 12 ≤ sizeLine; decide, fun p np => q p _ (same_upd np) upd_same⟩
/-! ### the law -/
theorem same_put {A H : Hp} {p : Addr} {o : HO} (s : Same A H) (h : A p = none) : Same A (upd H p o) := fun b u e => by
  rw [upd_ne (ne_of_none e h)]
  exact s b u e
theorem cut_mem {xs : List V} {lo hi : Option Int} {v : V} (h : v ∈ cutV xs lo hi) : v ∈ xs := List.mem_of_mem_drop (List.mem_of_mem_take h)
theorem cut_len {xs : List V} {lo hi : Option Int} : (cutV xs lo hi).length ≤ xs.length := by
  unfold cutV
  rw [List.length_take, List.length_drop]
  omega
theorem stand15 {H : Hp} {y z : V} {as : List Addr} (h : Stand K H (tab y z) as) : ∃ a0 a1 a2 a3 a4 a5 a6 a7 a8 a9 a10 a11 a12 a13 a14, as = [a0, a1, a2, a3, a4, a5, a6, a7, a8, a9, a10, a11, a12, a13, a14] ∧
    EX.ExAt H a0 (cl K "BadCount") [("count", y)] ∧ EX.ExAt H a1 (cl K "BadOrder") [("at", y)] ∧ EX.ExAt H a2 (cl K "BadRecipe") [("at", y)] ∧ EX.ExAt H a3 (cl K "BadShape") [("path", y)] ∧ EX.ExAt H a4 (cl K "BadSplit") [] ∧ EX.ExAt H a5 (cl K "BadValue") [("value", y)] ∧ EX.ExAt H a6 (cl K "BadWay") [("at", y)] ∧ EX.ExAt H a7 (cl K "BadWork") [("at", y)] ∧ EX.ExAt H a8 (cl K "Finished") [] ∧ EX.ExAt H a9 (cl K "NoLabel") [("label", y)] ∧ EX.ExAt H a10 (cl K "NoPair") [("key", z), ("label", y)] ∧ EX.ExAt H a11 (cl K "NoRow") [("number", y)] ∧ EX.ExAt H a12 (cl K "NotGiven") [("name", y)] ∧ EX.ExAt H a13 (cl K "TooLarge") [] ∧ EX.ExAt H a14 (cl K "TooMany") [] := by
  unfold Stand tab at h
  match as, h with
  | _, .cons x0 (.cons x1 (.cons x2 (.cons x3 (.cons x4 (.cons x5 (.cons x6 (.cons x7 (.cons x8 (.cons x9 (.cons x10 (.cons x11 (.cons x12 (.cons x13 (.cons x14 .nil)))))))))))))) => exact ⟨_, _, _, _, _, _, _, _, _, _, _, _, _, _, _, rfl, x0, x1, x2, x3, x4, x5, x6, x7, x8, x9, x10, x11, x12, x13, x14⟩
theorem stand_at {H : Hp} {y z : V} {as : List Addr} (h : Stand K H (tab y z) as) (i : Nat) (hi : i < 15) : ∃ (b : Addr) (fs : List (Str × V)), as[i]? = some b ∧ EX.ExAt H b (cl K (names.getD i "")) fs := by
  obtain ⟨a0, a1, a2, a3, a4, a5, a6, a7, a8, a9, a10, a11, a12, a13, a14, rfl, x0, x1, x2, x3, x4, x5, x6, x7, x8, x9, x10, x11, x12, x13, x14⟩ := stand15 h
  match i, hi with
  | 0, _ => exact ⟨a0, _, rfl, x0⟩
  | 1, _ => exact ⟨a1, _, rfl, x1⟩
  | 2, _ => exact ⟨a2, _, rfl, x2⟩
  | 3, _ => exact ⟨a3, _, rfl, x3⟩
  | 4, _ => exact ⟨a4, _, rfl, x4⟩
  | 5, _ => exact ⟨a5, _, rfl, x5⟩
  | 6, _ => exact ⟨a6, _, rfl, x6⟩
  | 7, _ => exact ⟨a7, _, rfl, x7⟩
  | 8, _ => exact ⟨a8, _, rfl, x8⟩
  | 9, _ => exact ⟨a9, _, rfl, x9⟩
  | 10, _ => exact ⟨a10, _, rfl, x10⟩
  | 11, _ => exact ⟨a11, _, rfl, x11⟩
  | 12, _ => exact ⟨a12, _, rfl, x12⟩
  | 13, _ => exact ⟨a13, _, rfl, x13⟩
  | 14, _ => exact ⟨a14, _, rfl, x14⟩
  | n + 15, h => exact absurd h (by omega)
/-- the row as the law makes it -/
def pre (i j : Nat) : List V := (List.range j).map fun (t : Nat) => V.bl (decide (V.int (0 + ((t : Nat) : Int)) = V.int (i : Int)))
theorem pre_len (i j : Nat) : (pre i j).length = j := by
  unfold pre
  rw [List.length_map, List.length_range]
theorem pre_succ (i j : Nat) : pre i (j + 1) = pre i j ++ [V.bl (decide (V.int (0 + (j : Int)) = V.int (i : Int)))] := by
  unfold pre
  rw [List.range_succ, List.map_append]
  rfl
theorem pre_row (i : Nat) : pre i 15 = row i := by
  unfold pre row
  refine List.map_congr_left fun t _ => congrArg V.bl (decide_eq_decide.mpr ⟨fun h => ?_, fun h => ?_⟩)
  · have q := V.int.inj h
    omega
  · rw [h, Int.zero_add]
theorem row_ok (i : Nat) : ∀ v ∈ row i, okV v := fun v hv => by
  unfold row at hv
  obtain ⟨t, _, rfl⟩ := List.mem_map.mp hv
  exact .inl rfl
def spLaw (K : PySem.W.Frag) : Sp := fun vs H Q _ => ∃ (a : Addr) (ns : List Int), vs = [.ref a] ∧ SqL K H a (ns.map V.int) ∧ ns.length ≤ 63 ∧ ∀ H', Q (.bl true) H'
theorem ok_law {f : Addr} {fd : FuncData} {k : Nat} (F1 : FnP K "law" "law" s_law f fd) (T : Txt P w K mg base)
    (C_well : Cal P w K mg base CX0 "_law_well" (k + 3) ["_law_cell"] spWell) (C_one : Cal P w K mg base CX0 "_law_one" (k + 3) ["_law_well_here", "_law_some"] (spOne K))
    (C_made : Cal P w K mg base CX0 "_law_made" (k + 3) ["_law_one_here", "_law_other"] (spMade K)) (C_named : Cal P w K mg base CX0 "_law_named" (k + 3) ["_law_one_here", "_law_other"] (spNamed K))
    (C_kinds : Cal P w K mg base CX0 "_law_kinds" (k + 3) ["_law_e"] (spKinds K)) (C_borne : Cal P w K mg base CX0 "_law_borne" (k + 3) ["_law_found"] (spBorne K)) :
    FnOk P w K mg base CX0 (k + 3 + 1) f fd ["_law_script"] (spLaw K) := by
  obtain ⟨f_law_well, fd_law_well, G_law_well, b_law_well, m_law_well, k_law_well⟩ := C_well
  obtain ⟨f_law_one, fd_law_one, G_law_one, b_law_one, m_law_one, k_law_one⟩ := C_one
  obtain ⟨f_law_made, fd_law_made, G_law_made, b_law_made, m_law_made, k_law_made⟩ := C_made
  obtain ⟨f_law_named, fd_law_named, G_law_named, b_law_named, m_law_named, k_law_named⟩ := C_named
  obtain ⟨f_law_kinds, fd_law_kinds, G_law_kinds, b_law_kinds, m_law_kinds, k_law_kinds⟩ := C_kinds
  obtain ⟨f_law_borne, fd_law_borne, G_law_borne, b_law_borne, m_law_borne, k_law_borne⟩ := C_borne
  refine F1.ok sc_law (fun vs H Q E h => ?_) (fun cdv A outer s H vs Q E hr h => ?_)
  · obtain ⟨a, ns, rfl, _⟩ := h
    rfl
  · obtain ⟨a, ns, rfl, hS, hlen, q⟩ := h
    refine ⟨_, PSs.nox (pss_cons (ps_for PassesOwn.never rfl (pi_list (pe_op op_cat (pe_slice sl_list (pv 0) po_none (po_some pe_int)) (pe_lst (pa_cons pe_int pa_nil)))) (pg_name (i := 1) sc_law.nd rfl (.inl rfl))
      (pss_cons (ps_set (i := 2) sc_law.nd rfl (.inl rfl) (pe_call G_law_well (hr.mono (by omega)) (by rfl) m_law_well k_law_well b_law_well .nil pass0 (pa_cons (pv 1) pa_nil)))
      (pss_cons (ps_set (i := 3) sc_law.nd rfl (.inl rfl) (pe_lst (pa_cons pe_int (pa_cons (pe_un un_neg pe_int) (pa_cons pe_bl (pa_cons pe_non (pa_cons pe_str (pa_cons (pe_tup (pa_cons pe_int (pa_cons pe_int pa_nil))) (pa_cons (pe_lst (pa_cons pe_int (pa_cons (pe_lst (pa_cons pe_int pa_nil)) pa_nil))) (pa_cons (pe_disp (pps_cons pe_str pe_int (pps_nil)) rfl rfl (by decide) (by decide)) (pa_cons (pe_op op_pow pe_int pe_int) (pa_cons (pe_tup (pa_nil)) (pa_cons (pe_tup (pa_cons pe_str pa_nil)) pa_nil)))))))))))))
      (pss_cons (ps_par (i := 4) (j := 5) rfl sc_law.nd rfl rfl (by decide) rfl rfl (pa_cons (pe_call G_law_one (hr.mono (by omega)) (by rfl) m_law_one k_law_one b_law_one .nil pass0 (pa_cons (pv 2) (pa_cons (pv 3) pa_nil))) (pa_cons (pe_call G_law_one (hr.mono (by omega)) (by rfl) m_law_one k_law_one b_law_one .nil pass0 (pa_cons (pv 2) (pa_cons (pv 3) pa_nil))) pa_nil)) (by rfl))
      (pss_cons (ps_set (i := 6) sc_law.nd rfl (.inl rfl) (pe_call G_law_made (hr.mono (by omega)) (by rfl) m_law_made k_law_made b_law_made .nil pass0 (pa_cons (pv 4) (pa_cons (pv 5) pa_nil))))
      (pss_cons (ps_for PassesOwn.never rfl (pi_enum (by rfl) T.m_enumerate (pa_cons (pv 6) pa_nil)) (pg_tup rfl (pgs_cons (pg_name (i := 7) sc_law.nd rfl (.inr rfl)) (pgs_cons (pg_name (i := 8) sc_law.nd rfl (.inl rfl)) (pgs_nil))))
        (pss_cons (ps_if (pt_cmpR (op_neS hr.units) (pe_call G_law_kinds (hr.mono (by omega)) (by rfl) m_law_kinds k_law_kinds b_law_kinds .nil pass0 (pa_cons (pv 8) pa_nil)) (pe_lc (own := [("_law_k", 11)]) rfl sc_law.nd (pi_range1 (by rfl) T.m_range (pa_cons (pe_callB call_len_seq (by rfl) T.m_len PySem.boot_len (pa_cons (pv 6) pa_nil)) pa_nil)) (blkOk_by (N := n_law) (sc := defScope s_law) (by decide +kernel)) (fun _ _ _ _ _ => pg_name (i := 11) sc_law.nd rfl (.inl rfl)) (fun _ _ _ _ _ => pts_nil) (fun _ _ _ _ _ => (pe_cmpR op_eq (pv 11) (pv 7) (nomark _)))) (nomark _)) (pss_one (ps_ret pe_bl)) (pss_nil))
        (pss_one (ps_if (PW.pt (pw_or (pt_not (pt_val (pe_callB EX.call_isX (by rfl) T.m_isinstance (by decide +kernel) (pa_cons (pv 8) (pa_cons (pe_gref (by rfl) T.m_GroveError) pa_nil))))) (pw_or1 (pt_not (pt_val (pe_callB EX.call_isX (by rfl) T.m_isinstance (by decide +kernel) (pa_cons (pv 8) (pa_cons (pe_bltn (v := .ty "ValueError") (by rfl) T.m_ValueError (by decide +kernel) rfl) pa_nil)))))))) (pss_one (ps_ret pe_bl)) (pss_nil)))))
      (pss_cons (ps_set (i := 9) sc_law.nd rfl (.inl rfl) (pe_op op_cat (pe_op op_cat (pe_slice sl_list (pv 6) po_none (po_some pe_int)) (pe_slice sl_list (pv 6) (po_some pe_int) (po_some pe_int))) (pe_slice sl_list (pv 6) (po_some pe_int) (po_some pe_int))))
      (pss_cons (ps_set (i := 10) sc_law.nd rfl (.inl rfl) (pe_op op_cat (pe_op op_cat (pe_op op_rep (pe_lst (pa_cons (pv 4) pa_nil)) pe_int) (pe_lst (pa_cons (pv 5) pa_nil))) (pe_op op_rep (pe_lst (pa_cons (pv 4) pa_nil)) pe_int)))
      (pss_one (ps_if (PW.pt (pw_or (pt_cmpR (op_neS hr.units) (pe_call G_law_borne (hr.mono (by omega)) (by rfl) m_law_borne k_law_borne b_law_borne .nil pass0 (pa_cons (pv 9) pa_nil)) (pv 10) (nomark _)) (pw_or1 (pt_cmpR (op_neS hr.units) (pe_call G_law_borne (hr.mono (by omega)) (by rfl) m_law_borne k_law_borne b_law_borne .nil pass0 (pa_cons (pe_call G_law_named (hr.mono (by omega)) (by rfl) m_law_named k_law_named b_law_named .nil pass0 (pa_cons (pv 4) (pa_cons (pv 5) pa_nil))) pa_nil)) (pv 10) (nomark _))))) (pss_one (ps_ret pe_bl)) (pss_nil)))))))))))
    (pss_one (ps_ret pe_bl))), ?_⟩
    -- script[:3] + [0]
    refine ⟨_, rfl, 3, rfl, a, _, rfl, hS, fun c nc => ⟨by show 1 ≤ sizeLine; decide, fun d nd => ?_⟩⟩
    have hc : (upd (upd H c (.lst (cutV (ns.map V.int) none (some 3)))) d (.lst [V.int 0])) c = some (.lst (cutV (ns.map V.int) none (some 3))) := by
      rw [upd_ne (ne_of_none upd_same nd), upd_same]
    have hl : (cutV (ns.map V.int) none (some 3)).length ≤ 63 := Nat.le_trans cut_len (by rw [List.length_map]; exact hlen)
    refine ⟨c, d, _, _, rfl, rfl, hc, upd_same, Nat.le_of_lt (small1000 (by rw [List.length_singleton]; omega)), fun e ne => ?_⟩
    generalize hX : cutV (ns.map V.int) none (some 3) ++ [V.int 0] = X
    have hXi : ∀ v ∈ X, ∃ z : Int, v = .int z := fun v hv => by
      rw [← hX] at hv
      rcases List.mem_append.mp hv with h1 | h1
      · obtain ⟨z, _, rfl⟩ := List.mem_map.mp (cut_mem h1)
        exact ⟨z, rfl⟩
      · exact ⟨0, List.mem_singleton.mp h1⟩
    generalize upd (upd H c (.lst (cutV (ns.map V.int) none (some 3)))) d (.lst [V.int 0]) = H1 at ne
    refine ⟨e, rfl, ⟨X, .inl (.inl upd_same)⟩, for_list (K := K) (a := e) (xs := X) (fun i σ H' => ∃ v1 v2 v3 v4 v5 v6 v7 v8 v9 v10 v11 : Option V, σ = [some (.ref a), v1, v2, v3, v4, v5, v6, v7, v8, v9, v10, v11] ∧ H' e = some (.lst X))
      ⟨none, none, none, none, none, none, none, none, none, none, none, rfl, upd_same⟩ (fun i σ H' _ ⟨_, _, _, _, _, _, _, _, _, _, _, _, he⟩ => .inl (.inl he)) ?_ ?_⟩
    · rintro i y σ H2 hi ⟨v1, v2, v3, v4, v5, v6, v7, v8, v9, v10, v11, rfl, he⟩
      obtain ⟨z, rfl⟩ := hXi y (List.mem_of_getElem? hi)
      -- the well
      refine ⟨_, rfl, z, rfl, fun p np => ?_⟩
      -- what there is to bear
      refine ⟨1, rfl, ⟨by show 2 ≤ sizeLine; decide, fun t1 nt1 => ⟨by show 1 ≤ sizeLine; decide, fun l1 nl1 => ⟨by show 2 ≤ sizeLine; decide, fun l2 nl2 => fun d1 nd1 => ⟨upd_same, [(Sum.inr "a", .int 1)], rfl, by decide, ?_⟩⟩⟩⟩⟩
      refine ⟨10, 40, rfl, rfl, ⟨by decide, by decide, by decide⟩, ⟨by show 0 ≤ sizeLine; decide, fun t2 nt2 => ⟨by show 1 ≤ sizeLine; decide, fun t3 nt3 => ⟨by show 11 ≤ sizeLine; decide, fun l nl => ?_⟩⟩⟩⟩
      have kS : Same (upd H2 p (.lst [.int z, .int 0])) (upd (upd (upd (upd (upd (upd (upd (upd (upd H2 p (.lst [.int z, .int 0])) t1 (.tup [.int 0, .int 1])) l1 (.lst [.int 2])) l2 (.lst [.int 1, .ref l1])) d1 (.dK [])) d1 (.dK (mergeK [] [(Sum.inr "a", .int 1)]))) t2 (.tup [])) t3 (.tup [.str "x"])) l (.lst [.int 0, .int (-1), .bl true, .non, .str "a", .ref t1, .ref l2, .ref d1, .int (10 ^ (40 : Int).toNat), .ref t2, .ref t3])) :=
        (same_upd nt1).trans ((same_upd nl1).trans ((same_upd nl2).trans ((same_put (same_upd nd1) nd1).trans ((same_upd nt2).trans ((same_upd nt3).trans (same_upd nl))))))
      have hl : (upd (upd (upd (upd (upd (upd (upd (upd (upd H2 p (.lst [.int z, .int 0])) t1 (.tup [.int 0, .int 1])) l1 (.lst [.int 2])) l2 (.lst [.int 1, .ref l1])) d1 (.dK [])) d1 (.dK (mergeK [] [(Sum.inr "a", .int 1)]))) t2 (.tup [])) t3 (.tup [.str "x"])) l (.lst [.int 0, .int (-1), .bl true, .non, .str "a", .ref t1, .ref l2, .ref d1, .int (10 ^ (40 : Int).toNat), .ref t2, .ref t3])) l = some (.lst [.int 0, .int (-1), .bl true, .non, .str "a", .ref t1, .ref l2, .ref d1, .int (10 ^ (40 : Int).toNat), .ref t2, .ref t3]) := upd_same
      generalize upd (upd (upd (upd (upd (upd (upd (upd (upd H2 p (.lst [.int z, .int 0])) t1 (.tup [.int 0, .int 1])) l1 (.lst [.int 2])) l2 (.lst [.int 1, .ref l1])) d1 (.dK [])) d1 (.dK (mergeK [] [(Sum.inr "a", .int 1)]))) t2 (.tup [])) t3 (.tup [.str "x"])) l (.lst [.int 0, .int (-1), .bl true, .non, .str "a", .ref t1, .ref l2, .ref d1, .int (10 ^ (40 : Int).toNat), .ref t2, .ref t3]) = G at kS hl
      generalize hSS : ([.int 0, .int (-1), .bl true, .non, .str "a", .ref t1, .ref l2, .ref d1, .int (10 ^ (40 : Int).toNat), .ref t2, .ref t3] : List V) = S at hl
      have hok : ∀ v ∈ S, okV v := by
        rw [← hSS]
        intro v hv
        simp only [List.mem_cons, List.not_mem_nil, or_false] at hv
        rcases hv with rfl | rfl | rfl | rfl | rfl | rfl | rfl | rfl | rfl | rfl | rfl
        all_goals first | exact .inl rfl | exact .inr ⟨_, rfl⟩
      have hSl : S.length = 11 := by
        rw [← hSS]
        rfl
      have hp : G p = some (.lst [.int z, .int 0]) := kS _ _ upd_same
      have hG : G e = some (.lst X) := kS _ _ (same_upd np _ _ he)
      have npe : e ≠ p := ne_of_none he np
      have npl : l ≠ p := fun h => by
        rw [h, hp] at hl
        have z1 := HO.lst.inj (Option.some.inj hl)
        have z2 := congrArg List.length z1
        rw [hSl] at z2
        exact absurd (show 2 = 11 from z2) (by decide)
      refine ⟨_, rfl, _, rfl, p, l, z, 0, S, rfl, hp, .inl (.inl hl), fun x' c' => .inl (.inl (by rw [upd_ne npl]; exact hl)), by omega, by omega, fun one x1 c1 ho => ?_⟩
      refine ⟨_, rfl, _, rfl, p, l, x1, c1, S, rfl, upd_same, .inl (.inl (by rw [upd_ne npl]; exact hl)), fun x' c' => .inl (.inl (by rw [upd_ne npl, upd_ne npl]; exact hl)), by omega, by omega, fun other x2 c2 ho2 => ⟨_, _, rfl, ?_⟩⟩
      rw [upd_upd]
      have hG2 : (upd G p (.lst [.int x2, .int c2])) e = some (.lst X) := by
        rw [upd_ne npe]
        exact hG
      generalize upd G p (.lst [.int x2, .int c2]) = G2 at hG2
      have o1 := hok one ho
      have o2 := hok other ho2
      -- the errors made
      refine ⟨_, rfl, _, rfl, one, other, rfl, fun pm as H5 s5 hm st => ?_⟩
      have n15 : as.length = 15 := (Paired.length st).symm
      have l15 : ((as.map V.ref).length : Int) = 15 := by
        rw [List.length_map, n15]
        rfl
      refine ⟨_, rfl, pm, as.map V.ref, rfl, .inl (.inl hm), for_it (walk_enum (K := K) (a := pm) (xs := as.map V.ref)) (fun i σ H' => ∃ w7 w8 w9 w10 w11 : Option V,
        σ = [some (.ref a), some (.int z), some (.ref p), some (.ref l), some one, some other, some (.ref pm), w7, w8, w9, w10, w11] ∧ Same H5 H') ⟨_, _, _, _, _, rfl, Same.refl _⟩ (fun i σ H' _ ⟨_, _, _, _, _, _, h6⟩ => .inl (.inl (h6 _ _ hm))) ?_ ?_⟩
      · rintro i x σ H6 H7 hi6 ⟨w7, w8, w9, w10, w11, rfl, s6⟩ ⟨TT, x0, y0, rfl, nT, rfl, hx0, hy0⟩
        have hx1 : V.int (i : Int) = x0 := Option.some.inj hx0
        subst hx1
        rw [List.length_map, n15] at hi6
        obtain ⟨b, fs, hb, eb⟩ := stand_at st i hi6
        have hy1 : V.ref b = y0 := by
          have hy2 : (as.map V.ref)[i]? = some y0 := hy0
          rw [List.getElem?_map, hb] at hy2
          exact Option.some.inj hy2
        subst hy1
        have sT : Same H5 (upd H6 TT (.tup [.int (i : Int), .ref b])) := s6.trans (same_upd nT)
        refine ⟨TT, [.int (i : Int), .ref b], rfl, .inl (.inl upd_same), rfl, _, _, rfl, _, _, rfl, rfl, ?_⟩
        -- its kinds
        refine ⟨_, rfl, b, i, fs, rfl, hi6, eb.mono sT, fun pk H8 s8 hk => ?_⟩
        have s58 := sT.trans s8
        refine ⟨_, rfl, pm, as.map V.ref, rfl, .inl (.inl (.inl (s58 _ _ hm))), 15, by rw [l15], by decide, by decide, fun D nD => ?_⟩
        refine lc_range (lo := 0) (n := 15) (fun j H' => Same H8 H' ∧ H' D = some (.lst (pre i j))) ⟨same_upd nD, upd_same⟩ ?_ ?_
        · rintro j H9 hj ⟨s9, hD⟩
          refine ⟨rfl, ?_⟩
          show tOp rEq (tVar 11) (tVar 7) _ _ _
          refine ⟨_, rfl, _, rfl, rfl, pre i j, hD, ?_, ?_, ?_⟩
          · rw [pre_len]
            exact small1000 (by omega)
          · exact same_put s9 nD
          · rw [upd_same, pre_succ]
        · rintro H9 ⟨s9, hD⟩
          refine ⟨pk, D, row i, rfl, rfl, .inl (.inl (s9 _ _ hk)), .inl (.inl (by rw [hD, pre_row])), row_ok i, false, rfl, iteF ?_⟩
          have e9 := eb.mono (s58.trans s9)
          refine ⟨_, rfl, b, _, fs, _, _, true, rfl, e9, exK_all T i hi6, .own _, T.kitG i hi6, true, rfl, iteF ?_⟩
          refine ⟨_, rfl, b, _, fs, _, _, true, rfl, e9, exK_all T i hi6, .ty _, T.kitV i hi6, true, rfl, iteF ?_⟩
          exact ⟨_, _, _, _, _, rfl, s58.trans s9⟩
      · rintro σ H6 ⟨w7, w8, w9, w10, w11, rfl, s6⟩
        have st6 := st.mono s6
        have hm6 := s6 _ _ hm
        have hLm : SqL K H6 pm (as.map V.ref) := .inl (.inl hm6)
        have lm : (as.map V.ref).length = 15 := by
          rw [List.length_map, n15]
        refine ⟨_, rfl, 4, rfl, pm, _, rfl, hLm, fun c1 nc1 => ⟨_, rfl, 5, rfl, 8, rfl, pm, _, rfl, .inl (.inl (same_upd nc1 _ _ hm6)), fun c2 nc2 => ?_⟩⟩
        have e1 : (cutV (as.map V.ref) none (some 4)).length ≤ 15 := Nat.le_trans cut_len (Nat.le_of_eq lm)
        have e2 : (cutV (as.map V.ref) (some 5) (some 8)).length ≤ 15 := Nat.le_trans cut_len (Nat.le_of_eq lm)
        have e3 : (cutV (as.map V.ref) (some 9) (some 13)).length ≤ 15 := Nat.le_trans cut_len (Nat.le_of_eq lm)
        refine ⟨c1, c2, _, _, rfl, rfl, same_upd nc2 _ _ upd_same, upd_same, Nat.le_of_lt (small1000 (by omega)), fun c3 nc3 => ?_⟩
        have s3 := (same_upd (o := .lst (cutV (as.map V.ref) none (some 4))) nc1).trans ((same_upd (o := .lst (cutV (as.map V.ref) (some 5) (some 8))) nc2).trans (same_upd (o := .lst (cutV (as.map V.ref) none (some 4) ++ cutV (as.map V.ref) (some 5) (some 8))) nc3))
        refine ⟨_, rfl, 9, rfl, 13, rfl, pm, _, rfl, .inl (.inl (s3 _ _ hm6)), fun c4 nc4 => ?_⟩
        refine ⟨c3, c4, _, _, rfl, rfl, same_upd nc4 _ _ upd_same, upd_same, Nat.le_of_lt (small1000 (by rw [List.length_append]; omega)), fun c5 nc5 => ⟨_, rfl, by show 1 ≤ sizeLine; decide, fun r1 nr1 => ?_⟩⟩
        have s5b := s3.trans ((same_upd (o := .lst (cutV (as.map V.ref) (some 9) (some 13))) nc4).trans (same_upd (o := .lst (cutV (as.map V.ref) none (some 4) ++ cutV (as.map V.ref) (some 5) (some 8) ++ cutV (as.map V.ref) (some 9) (some 13))) nc5))
        obtain ⟨b0, b1, b2, b3, b4, b5, b6, b7, b8, b9, b10, b11, b12, b13, b14, rfl, y0, y1, y2, y3, y4, y5, y6, y7, y8, y9, y10, y11, y12, y13, y14⟩ := stand15 st6
        have hcc : (cutV ([b0, b1, b2, b3, b4, b5, b6, b7, b8, b9, b10, b11, b12, b13, b14].map V.ref) none (some 4) ++ cutV ([b0, b1, b2, b3, b4, b5, b6, b7, b8, b9, b10, b11, b12, b13, b14].map V.ref) (some 5) (some 8) ++ cutV ([b0, b1, b2, b3, b4, b5, b6, b7, b8, b9, b10, b11, b12, b13, b14].map V.ref) (some 9) (some 13)) = [b0, b1, b2, b3, b5, b6, b7, b9, b10, b11, b12].map V.ref := by rfl
        rw [hcc] at nr1 s5b
        rw [hcc]
        revert s5b nr1
        generalize hG7 : upd _ c5 (.lst ([b0, b1, b2, b3, b5, b6, b7, b9, b10, b11, b12].map V.ref)) = G7
        have hc5 : G7 c5 = some (.lst ([b0, b1, b2, b3, b5, b6, b7, b9, b10, b11, b12].map V.ref)) := by
          rw [← hG7]
          exact upd_same
        intro nr1 s5b
        have stB : Stand K G7 (tabB one other) [b0, b1, b2, b3, b5, b6, b7, b9, b10, b11, b12] :=
          .cons (y0.mono s5b) (.cons (y1.mono s5b) (.cons (y2.mono s5b) (.cons (y3.mono s5b) (.cons (y5.mono s5b) (.cons (y6.mono s5b) (.cons (y7.mono s5b) (.cons (y9.mono s5b) (.cons (y10.mono s5b) (.cons (y11.mono s5b) (.cons (y12.mono s5b) .nil))))))))))
        refine ⟨r1, 9, [one], rfl, rfl, upd_same, by decide, by decide, by show 9 ≤ sizeLine; decide, fun r2 nr2 => ⟨_, rfl, by show 1 ≤ sizeLine; decide, fun r3 nr3 => ?_⟩⟩
        refine ⟨r2, r3, _, _, rfl, rfl, same_upd nr3 _ _ upd_same, upd_same, by show 10 ≤ sizeLine; decide, fun r4 nr4 => ⟨_, rfl, by show 1 ≤ sizeLine; decide, fun r5 nr5 => ?_⟩⟩
        refine ⟨r5, 2, [one], rfl, rfl, upd_same, by decide, by decide, by show 2 ≤ sizeLine; decide, fun r6 nr6 => ?_⟩
        refine ⟨r4, r6, _, _, rfl, rfl, same_upd nr6 _ _ (same_upd nr5 _ _ upd_same), upd_same, by show 12 ≤ sizeLine; decide, fun r7 nr7 => ?_⟩
        generalize hF : upd _ r7 (.lst _) = F
        have s7 : Same G7 F := by
          rw [← hF]
          exact (same_upd nr1).trans ((same_upd nr2).trans ((same_upd nr3).trans ((same_upd nr4).trans ((same_upd nr5).trans ((same_upd nr6).trans (same_upd nr7))))))
        have h7 : F r7 = some (.lst (due one other)) := by
          rw [← hF]
          exact upd_same
        have dok : ∀ v ∈ due one other, okV v := by
          intro v hv
          unfold due at hv
          simp only [List.mem_cons, List.not_mem_nil, or_false] at hv
          rcases hv with rfl | rfl | rfl | rfl | rfl | rfl | rfl | rfl | rfl | rfl | rfl | rfl
          all_goals first | exact o1 | exact o2
        refine ⟨_, rfl, c5, [b0, b1, b2, b3, b5, b6, b7, b9, b10, b11, b12], one, other, rfl, s7 _ _ hc5, stB.mono s7, fun pb I1 sb hb => ?_⟩
        refine ⟨_, rfl, pb, r7, due one other, rfl, rfl, .inl (.inl hb), .inl (.inl (sb _ _ h7)), dok, false, rfl, iteF ?_⟩
        refine ⟨_, rfl, _, rfl, one, other, rfl, fun pn bs2 I2 sn hn stn => ⟨pn, bs2, one, other, rfl, hn, stn, fun pc I3 sc3 hpc => ?_⟩⟩
        have t13 := sb.trans (sn.trans sc3)
        refine ⟨_, rfl, pc, r7, due one other, rfl, rfl, .inl (.inl hpc), .inl (.inl (t13 _ _ h7)), dok, false, rfl, iteF ?_⟩
        exact ⟨_, _, _, _, _, _, _, _, _, _, _, rfl, (s6.trans (s5b.trans (s7.trans t13))) _ _ (s5 _ _ hG2)⟩
    · rintro σ H2 ⟨v1, v2, v3, v4, v5, v6, v7, v8, v9, v10, v11, rfl, he⟩
      exact q H2
/-! ### the head: facts by names -/
def oexB (K : PySem.W.Frag) (C : Addr) : Bool := (match K.lookup C with
    | some ⟨.type "type", _, .cls cd, sl⟩ => (match cd.mro, sl.toList with
      | .ref C' :: bm, [_, _, _, _, some (.builtin n), _] => decide (C' = C) && (decide (n = "ValueError.__new__") && (!cd.hasDel && (cd.hasDict && PySem.HandSPX.refsVE bm)))
      | _, _ => false)
    | _ => false) && (He.eqO (PySem.W.findIn K (.ref C) "__setattr__") (some (some (.builtin "object.__setattr__"))) && (decide (PySem.W.subIn K (.ref C) (.type "BaseException") = some true) &&
      (decide (PySem.W.typeIn K (.ref C) = some (.type "type")) && PySem.W.keepIn K (.ref C))))
theorem oexB_ok {K : PySem.W.Frag} {C : Addr} (h : oexB K C = true) : OexC K C := by
  obtain ⟨h1, h⟩ := He.ba h
  obtain ⟨h2, h⟩ := He.ba h
  obtain ⟨h3, h⟩ := He.ba h
  obtain ⟨h4, h5⟩ := He.ba h
  refine ⟨?_, He.eqO_ok h2, of_decide_eq_true h3, of_decide_eq_true h4, h5⟩
  split at h1
  · rename_i dd cd sl ho
    split at h1
    · rename_i C' bm k0 k1 k2 k3 n k5 hm hs
      obtain ⟨g1, h1⟩ := He.ba h1
      obtain ⟨g2, h1⟩ := He.ba h1
      obtain ⟨g3, h1⟩ := He.ba h1
      obtain ⟨g4, g5⟩ := He.ba h1
      obtain ⟨nm, bs, mro, ns, qn, hd, sn, sb, ab, col, del⟩ := cd
      dsimp only at hm g3 g4
      subst hm g4
      obtain rfl : C' = C := of_decide_eq_true g1
      obtain rfl : n = "ValueError.__new__" := of_decide_eq_true g2
      obtain rfl : del = false := by
        cases del
        · rfl
        · cases g3
      obtain rfl : sl = #[k0, k1, k2, k3, some (.builtin "ValueError.__new__"), k5] := by
        rw [← Array.toArray_toList (xs := sl), hs]
      exact ⟨_, _, _, _, _, _, _, _, _, _, _, _, _, _, _, ho, g5⟩
    · cases h1
  · cases h1
def exkB (K : PySem.W.Frag) (C : Addr) : Bool := (PySem.W.clsIn K C).isSome && (He.eqO (PySem.W.findIn K (.ref C) "__getattribute__") (some (some (.builtin "BaseException.__getattribute__"))) && (He.eqO (PySem.W.findIn K (.ref C) "__getattr__") (some none) &&
  (decide (PySem.W.subIn K (.ref C) (.type "BaseException") = some true) && (PySem.W.hasDictIn K C && (He.eqO (PySem.W.findIn K (.ref C) "__class__") (some (some (.builtin "object.__class__"))) &&
  (He.eqO (PySem.W.specialIn K (.builtin "object.__class__") "__get__") (some (some (.builtin "getset_descriptor.__get__"))) && (decide (PySem.W.takesIn K (.builtin "object.__class__") = some true) && decide (PySem.W.mroIn K C (.type "object") = some true))))))))
theorem exkB_ok {K : PySem.W.Frag} {C : Addr} (h : exkB K C = true) : EX.ExcK K C := by
  obtain ⟨h1, h⟩ := He.ba h
  obtain ⟨h2, h⟩ := He.ba h
  obtain ⟨h3, h⟩ := He.ba h
  obtain ⟨h4, h⟩ := He.ba h
  obtain ⟨h5, h⟩ := He.ba h
  obtain ⟨h6, h⟩ := He.ba h
  obtain ⟨h7, h⟩ := He.ba h
  obtain ⟨h8, h9⟩ := He.ba h
  exact ⟨h1, He.eqO_ok h2, He.eqO_ok h3, of_decide_eq_true h4, h5, He.eqO_ok h6, He.eqO_ok h7, of_decide_eq_true h8, of_decide_eq_true h9⟩
def own : List (Str × List Str) := [("BadCount", ["count"]), ("BadOrder", ["at"]), ("BadRecipe", ["at"]), ("BadShape", ["path"]), ("BadValue", ["value"]), ("BadWay", ["at"]), ("BadWork", ["at"]), ("NoLabel", ["label"]), ("NoPair", ["label", "key"]), ("NoRow", ["number"]), ("NotGiven", ["name"])]
def bare : List Str := ["BadSplit", "Finished", "TooLarge", "TooMany"]
def ownB (K : PySem.W.Frag) (d : Str × List Str) : Bool := oexB K (cl K d.1) && (He.eqO (PySem.W.findIn K (.ref (cl K d.1)) "__init__") (some (some (.ref (He.ma K (cl K d.1) "__init__")))) &&
  (decide (PySem.W.typeIn K (.ref (He.ma K (cl K d.1) "__init__")) = some (.type "function")) && d.2.all fun f => He.eqO (PySem.W.findIn K (.ref (cl K d.1)) f) (some none)))
def bareB (K : PySem.W.Frag) (x : Str) : Bool := PySem.W.excIn K (cl K x) He.veBase "ValueError.__new__" && PySem.W.keepIn K (.ref (cl K x))
def kitB (K : PySem.W.Frag) : Bool := (List.range 15).all fun i => ((List.range 15).all fun j => decide (PySem.W.kitOne K (.ref (cl K (names.getD i ""))) (.ref (cl K (names.getD j ""))) = some (decide (i = j)))) &&
  (decide (PySem.W.kitOne K (.ref (cl K (names.getD i ""))) (.ref (cl K "GroveError")) = some true) && decide (PySem.W.kitOne K (.ref (cl K (names.getD i ""))) (.type "ValueError") = some true))
def ex (K : PySem.W.Frag) : Bool := (own.all fun d => ownB K d) && ((bare.all fun x => bareB K x) && ((names.all fun x => exkB K (cl K x)) && kitB K))
def d_BadValue___init : He.DefD := ⟨("BadValue", some "__init__"), "__init__", "BadValue.__init__", defArgs s_BadValue___init, defBody s_BadValue___init, defScope s_BadValue___init, [], []⟩
def d_BadCount___init : He.DefD := ⟨("BadCount", some "__init__"), "__init__", "BadCount.__init__", defArgs s_BadCount___init, defBody s_BadCount___init, defScope s_BadCount___init, [], []⟩
def d_NotGiven___init : He.DefD := ⟨("NotGiven", some "__init__"), "__init__", "NotGiven.__init__", defArgs s_NotGiven___init, defBody s_NotGiven___init, defScope s_NotGiven___init, [], []⟩
def d_NoLabel___init : He.DefD := ⟨("NoLabel", some "__init__"), "__init__", "NoLabel.__init__", defArgs s_NoLabel___init, defBody s_NoLabel___init, defScope s_NoLabel___init, [], []⟩
def d_NoPair___init : He.DefD := ⟨("NoPair", some "__init__"), "__init__", "NoPair.__init__", defArgs s_NoPair___init, defBody s_NoPair___init, defScope s_NoPair___init, [], []⟩
def d_BadRecipe___init : He.DefD := ⟨("BadRecipe", some "__init__"), "__init__", "BadRecipe.__init__", defArgs s_BadRecipe___init, defBody s_BadRecipe___init, defScope s_BadRecipe___init, [], []⟩
def d_BadWay___init : He.DefD := ⟨("BadWay", some "__init__"), "__init__", "BadWay.__init__", defArgs s_BadWay___init, defBody s_BadWay___init, defScope s_BadWay___init, [], []⟩
def d_BadShape___init : He.DefD := ⟨("BadShape", some "__init__"), "__init__", "BadShape.__init__", defArgs s_BadShape___init, defBody s_BadShape___init, defScope s_BadShape___init, [], []⟩
def d_NoRow___init : He.DefD := ⟨("NoRow", some "__init__"), "__init__", "NoRow.__init__", defArgs s_NoRow___init, defBody s_NoRow___init, defScope s_NoRow___init, [], []⟩
def d_BadWork___init : He.DefD := ⟨("BadWork", some "__init__"), "__init__", "BadWork.__init__", defArgs s_BadWork___init, defBody s_BadWork___init, defScope s_BadWork___init, [], []⟩
def d_BadOrder___init : He.DefD := ⟨("BadOrder", some "__init__"), "__init__", "BadOrder.__init__", defArgs s_BadOrder___init, defBody s_BadOrder___init, defScope s_BadOrder___init, [], []⟩
def d_law_well : He.DefD := ⟨("_law_well", none), "_law_well", "_law_well", defArgs s_law_well, defBody s_law_well, defScope s_law_well, [], []⟩
def d_law_draw : He.DefD := ⟨("_law_draw", none), "_law_draw", "_law_draw", defArgs s_law_draw, defBody s_law_draw, defScope s_law_draw, [], []⟩
def d_law_one : He.DefD := ⟨("_law_one", none), "_law_one", "_law_one", defArgs s_law_one, defBody s_law_one, defScope s_law_one, [], []⟩
def d_law_kinds : He.DefD := ⟨("_law_kinds", none), "_law_kinds", "_law_kinds", defArgs s_law_kinds, defBody s_law_kinds, defScope s_law_kinds, [], []⟩
def d_law_made : He.DefD := ⟨("_law_made", none), "_law_made", "_law_made", defArgs s_law_made, defBody s_law_made, defScope s_law_made, [], []⟩
def d_law_named : He.DefD := ⟨("_law_named", none), "_law_named", "_law_named", defArgs s_law_named, defBody s_law_named, defScope s_law_named, [], []⟩
def d_law_borne : He.DefD := ⟨("_law_borne", none), "_law_borne", "_law_borne", defArgs s_law_borne, defBody s_law_borne, defScope s_law_borne, [], []⟩
def d_law : He.DefD := ⟨("law", none), "law", "law", defArgs s_law, defBody s_law, defScope s_law, [], []⟩
def fn : List He.DefD := [d_BadValue___init, d_BadCount___init, d_NotGiven___init, d_NoLabel___init, d_NoPair___init, d_BadRecipe___init, d_BadWay___init, d_BadShape___init, d_NoRow___init, d_BadWork___init, d_BadOrder___init, d_law_well, d_law_draw, d_law_one, d_law_kinds, d_law_made, d_law_named, d_law_borne, d_law]
def fa : List He.Fa := [.glo "BadCount", .glo "BadOrder", .glo "BadRecipe", .glo "BadShape", .glo "BadSplit", .glo "BadValue", .glo "BadWay", .glo "BadWork", .glo "Finished", .glo "NoLabel", .glo "NoPair", .glo "NoRow", .glo "NotGiven", .glo "TooLarge", .glo "TooMany", .glo "GroveError", .glo "_law_well", .glo "_law_draw", .glo "_law_one", .glo "_law_kinds", .glo "_law_made", .glo "_law_named", .glo "_law_borne", .glo "law", .free "int", .free "len", .free "range", .free "enumerate", .free "isinstance", .free "ValueError"]
def loose : List PySem.Str := ["GroveError", "BadValue", "BadCount", "NotGiven", "TooMany", "TooLarge", "NoLabel", "NoPair", "BadRecipe", "BadWay", "BadShape", "BadSplit", "NoRow", "Finished", "BadWork", "BadOrder", "_law_well", "_law_draw", "_law_one", "_law_kinds", "_law_made", "_law_named", "_law_borne"]
abbrev R : PySem.W.OpenRow := PySem.W.OpenLaw.row PySem.Challenge.rw_kindgrove_k02_errors_apart
abbrev hk : PySem.W.Hook := He.hookX 6 fa fn [] [] ex
def ob (s : PySem.W.SharedT) : He.AlX := He.obsX 6 fa fn [] [] ex (HandSHeadRun.getT s)
theorem ob_eq (s : PySem.W.SharedT) : ob s = hk.obs s.abs := He.obsX_eq (HandSHeadRun.getT_eq s)
theorem run (w : World) : HandSHeadRun.RunEq R (PySem.W.view R.prog [25]) hk ob 6000 loose w := by
  intro os
  kernel_rfl
theorem kbF {K : PySem.W.Frag} {x qn : Str} {st : Stmt} {f : Addr} {fd : FuncData} (F : FnP K x qn st f fd) (ps ks : List Str) (n : Nat) (g : List Value → List Value → List Value) (gV : List V → List V → List V)
    (hrel : ∀ {vs zs : List V} {us ws : List Value}, Vals vs us → Vals zs ws → Vals (gV vs zs) (g us ws))
    (h : ∀ (kV doc pm : Value) (an : Option Addr) (cdv ct : Value) (us ws : List Value), us.length = n → ws.length = ks.length →
      bindArgs (PySem.W.fnOf x qn (defArgs st) (defBody st) (defScope st) .none kV doc pm an cdv ct) ⟨us, ks.zip ws⟩ = pure (ps.zip (g us ws))) : KBn K fd ps n ks g gV := by
  obtain ⟨oc, od, dV, kV, doc, pm, an, cdv, ct, osl, rfl, lk, hcd, hD, hK⟩ := F.ex
  rcases hD with ⟨_, rfl⟩ | ⟨e, _⟩
  · exact ⟨fun s us ws X l1 l2 => .of_eq (h kV doc pm an cdv ct us ws l1 l2), fun r1 r2 => hrel r1 r2⟩
  · exact absurd rfl e
theorem swap_vals : ∀ {zs : List V} {ws : List Value}, Vals zs ws → Vals (swap2 zs) (swap2 ws)
  | _, _, .nil => .nil
  | _, _, .cons a .nil => .cons a .nil
  | _, _, .cons a (.cons b .nil) => .cons b (.cons a .nil)
  | _, _, .cons a (.cons b (.cons c r)) => .cons a (.cons b (.cons c r))
theorem mem_own {x : Str} {fs : List Str} {K : PySem.W.Frag} (h : ex K = true) (hx : (x, fs) ∈ own) : OexC K (cl K x) ∧ PySem.W.findIn K (.ref (cl K x)) "__init__" = some (some (.ref (He.ma K (cl K x) "__init__"))) ∧
    PySem.W.typeIn K (.ref (He.ma K (cl K x) "__init__")) = some (.type "function") ∧ ∀ f ∈ fs, PySem.W.findIn K (.ref (cl K x)) f = some none := by
  obtain ⟨h1, _⟩ := He.ba h
  have z := List.all_eq_true.mp h1 _ hx
  obtain ⟨z1, z⟩ := He.ba z
  obtain ⟨z2, z⟩ := He.ba z
  obtain ⟨z3, z4⟩ := He.ba z
  exact ⟨oexB_ok z1, He.eqO_ok z2, of_decide_eq_true z3, fun f hf => He.eqO_ok (List.all_eq_true.mp z4 f hf)⟩
theorem mem_bare {x : Str} {K : PySem.W.Frag} (h : ex K = true) (hx : x ∈ bare) : PySem.W.excIn K (cl K x) He.veBase "ValueError.__new__" = true ∧ PySem.W.keepIn K (.ref (cl K x)) = true := by
  obtain ⟨_, h1⟩ := He.ba h
  obtain ⟨h2, _⟩ := He.ba h1
  exact He.ba (List.all_eq_true.mp h2 _ hx)
theorem mem_kind {x : Str} {K : PySem.W.Frag} (h : ex K = true) (hx : x ∈ names) : EX.ExcK K (cl K x) := by
  obtain ⟨_, h1⟩ := He.ba h
  obtain ⟨_, h2⟩ := He.ba h1
  obtain ⟨h3, _⟩ := He.ba h2
  exact exkB_ok (List.all_eq_true.mp h3 _ hx)
theorem kits {K : PySem.W.Frag} (h : ex K = true) {i : Nat} (hi : i < 15) : (∀ j, j < 15 → PySem.W.kitOne K (.ref (cl K (names.getD i ""))) (.ref (cl K (names.getD j ""))) = some (decide (i = j))) ∧
    PySem.W.kitOne K (.ref (cl K (names.getD i ""))) (.ref (cl K "GroveError")) = some true ∧ PySem.W.kitOne K (.ref (cl K (names.getD i ""))) (.type "ValueError") = some true := by
  obtain ⟨_, h1⟩ := He.ba h
  obtain ⟨_, h2⟩ := He.ba h1
  obtain ⟨_, h3⟩ := He.ba h2
  obtain ⟨g1, g2⟩ := He.ba (List.all_eq_true.mp h3 i (List.mem_range.mpr hi))
  obtain ⟨g3, g4⟩ := He.ba g2
  exact ⟨fun j hj => of_decide_eq_true (List.all_eq_true.mp g1 j (List.mem_range.mpr hj)), of_decide_eq_true g3, of_decide_eq_true g4⟩
theorem glo {K : PySem.W.Frag} {h : Heap} {mg : Str → Option Value} (X : K.In h) (G : h.Ns mainGlobals mg) (c : He.SaysD fa fn K) {x : Str} (hx : He.Fa.glo x ∈ fa) : mg x = some (.ref (cl K x)) := He.glo_ok X G (c.facts hx)
theorem fre {K : PySem.W.Frag} {h : Heap} {mg : Str → Option Value} (X : K.In h) (G : h.Ns mainGlobals mg) (c : He.SaysD fa fn K) {x : Str} (hx : He.Fa.free x ∈ fa) : mg x = none := He.free_ok X G (c.facts hx)
theorem cal {P : Program} {w : World} {K : PySem.W.Frag} {h base : Heap} {mg : Str → Option Value} (X : K.In h) (G : h.Ns mainGlobals mg) (c : He.SaysD fa fn K) {x qn : Str} {st : Stmt} {fd : FuncData} {k : Nat} {ps : List Str} {sp : Sp} (F : FnP K x qn st (cl K x) fd)
    (hx : He.Fa.glo x ∈ fa) (ok : FnOk P w K mg base CX0 k (cl K x) fd ps sp)
    (hb : ∀ (kV doc pm : Value) (an : Option Addr) (cdv ct : Value) (us : List Value), us.length = ps.length → bindArgs (PySem.W.fnOf x qn (defArgs st) (defBody st) (defScope st) .none kV doc pm an cdv ct) ⟨us, []⟩ = pure (ps.zip us)) : Cal P w K mg base CX0 x k ps sp :=
  ⟨cl K x, fd, ok, F.bindsN hb, glo X G c hx, F.kp⟩
theorem all_txt {P : Program} {w : World} {K : PySem.W.Frag} {h base : Heap} {mg : Str → Option Value} (X : K.In h) (G : h.Ns mainGlobals mg) (c : He.SaysD fa fn K) (m : ex K = true) : Txt P w K mg base where
  m_BadCount := glo X G c (List.mem_of_getElem? (i := 0) rfl)
  e_BadCount := mem_kind m (by decide +kernel)
  o_BadCount := (mem_own (x := "BadCount") (fs := ["count"]) m (by decide +kernel)).1
  i_BadCount := (mem_own (x := "BadCount") (fs := ["count"]) m (by decide +kernel)).2.1
  t_BadCount := (mem_own (x := "BadCount") (fs := ["count"]) m (by decide +kernel)).2.2.1
  n_BadCount_count := (mem_own (x := "BadCount") (fs := ["count"]) m (by decide +kernel)).2.2.2 "count" (by decide +kernel)
  F_BadCount := by
    obtain ⟨fd, F⟩ : ∃ fd, FnP K "__init__" "BadCount.__init__" s_BadCount___init (He.ma K (cl K "BadCount") "__init__") fd := c.def_ 1 (d := d_BadCount___init) rfl
    exact ⟨fd, ok_BadCount F (mem_own (x := "BadCount") (fs := ["count"]) m (by decide +kernel)).1 ((mem_own (x := "BadCount") (fs := ["count"]) m (by decide +kernel)).2.2.2 "count" (by decide +kernel)), kbF F _ _ _ _ _ (fun r1 _ => r1) (fun _ _ _ _ _ _ us ws h1 h2 => match us, ws, h1, h2 with | [_, _], [], _, _ => rfl),
      kbF F _ _ _ _ _ (fun r1 r2 => r1.append r2) (fun _ _ _ _ _ _ us ws h1 h2 => match us, ws, h1, h2 with | [_], [_], _, _ => rfl)⟩
  m_BadOrder := glo X G c (List.mem_of_getElem? (i := 1) rfl)
  e_BadOrder := mem_kind m (by decide +kernel)
  o_BadOrder := (mem_own (x := "BadOrder") (fs := ["at"]) m (by decide +kernel)).1
  i_BadOrder := (mem_own (x := "BadOrder") (fs := ["at"]) m (by decide +kernel)).2.1
  t_BadOrder := (mem_own (x := "BadOrder") (fs := ["at"]) m (by decide +kernel)).2.2.1
  n_BadOrder_at := (mem_own (x := "BadOrder") (fs := ["at"]) m (by decide +kernel)).2.2.2 "at" (by decide +kernel)
  F_BadOrder := by
    obtain ⟨fd, F⟩ : ∃ fd, FnP K "__init__" "BadOrder.__init__" s_BadOrder___init (He.ma K (cl K "BadOrder") "__init__") fd := c.def_ 10 (d := d_BadOrder___init) rfl
    exact ⟨fd, ok_BadOrder F (mem_own (x := "BadOrder") (fs := ["at"]) m (by decide +kernel)).1 ((mem_own (x := "BadOrder") (fs := ["at"]) m (by decide +kernel)).2.2.2 "at" (by decide +kernel)), kbF F _ _ _ _ _ (fun r1 _ => r1) (fun _ _ _ _ _ _ us ws h1 h2 => match us, ws, h1, h2 with | [_, _], [], _, _ => rfl),
      kbF F _ _ _ _ _ (fun r1 r2 => r1.append r2) (fun _ _ _ _ _ _ us ws h1 h2 => match us, ws, h1, h2 with | [_], [_], _, _ => rfl)⟩
  m_BadRecipe := glo X G c (List.mem_of_getElem? (i := 2) rfl)
  e_BadRecipe := mem_kind m (by decide +kernel)
  o_BadRecipe := (mem_own (x := "BadRecipe") (fs := ["at"]) m (by decide +kernel)).1
  i_BadRecipe := (mem_own (x := "BadRecipe") (fs := ["at"]) m (by decide +kernel)).2.1
  t_BadRecipe := (mem_own (x := "BadRecipe") (fs := ["at"]) m (by decide +kernel)).2.2.1
  n_BadRecipe_at := (mem_own (x := "BadRecipe") (fs := ["at"]) m (by decide +kernel)).2.2.2 "at" (by decide +kernel)
  F_BadRecipe := by
    obtain ⟨fd, F⟩ : ∃ fd, FnP K "__init__" "BadRecipe.__init__" s_BadRecipe___init (He.ma K (cl K "BadRecipe") "__init__") fd := c.def_ 5 (d := d_BadRecipe___init) rfl
    exact ⟨fd, ok_BadRecipe F (mem_own (x := "BadRecipe") (fs := ["at"]) m (by decide +kernel)).1 ((mem_own (x := "BadRecipe") (fs := ["at"]) m (by decide +kernel)).2.2.2 "at" (by decide +kernel)), kbF F _ _ _ _ _ (fun r1 _ => r1) (fun _ _ _ _ _ _ us ws h1 h2 => match us, ws, h1, h2 with | [_, _], [], _, _ => rfl),
      kbF F _ _ _ _ _ (fun r1 r2 => r1.append r2) (fun _ _ _ _ _ _ us ws h1 h2 => match us, ws, h1, h2 with | [_], [_], _, _ => rfl)⟩
  m_BadShape := glo X G c (List.mem_of_getElem? (i := 3) rfl)
  e_BadShape := mem_kind m (by decide +kernel)
  o_BadShape := (mem_own (x := "BadShape") (fs := ["path"]) m (by decide +kernel)).1
  i_BadShape := (mem_own (x := "BadShape") (fs := ["path"]) m (by decide +kernel)).2.1
  t_BadShape := (mem_own (x := "BadShape") (fs := ["path"]) m (by decide +kernel)).2.2.1
  n_BadShape_path := (mem_own (x := "BadShape") (fs := ["path"]) m (by decide +kernel)).2.2.2 "path" (by decide +kernel)
  F_BadShape := by
    obtain ⟨fd, F⟩ : ∃ fd, FnP K "__init__" "BadShape.__init__" s_BadShape___init (He.ma K (cl K "BadShape") "__init__") fd := c.def_ 7 (d := d_BadShape___init) rfl
    exact ⟨fd, ok_BadShape F (mem_own (x := "BadShape") (fs := ["path"]) m (by decide +kernel)).1 ((mem_own (x := "BadShape") (fs := ["path"]) m (by decide +kernel)).2.2.2 "path" (by decide +kernel)), kbF F _ _ _ _ _ (fun r1 _ => r1) (fun _ _ _ _ _ _ us ws h1 h2 => match us, ws, h1, h2 with | [_, _], [], _, _ => rfl),
      kbF F _ _ _ _ _ (fun r1 r2 => r1.append r2) (fun _ _ _ _ _ _ us ws h1 h2 => match us, ws, h1, h2 with | [_], [_], _, _ => rfl)⟩
  m_BadSplit := glo X G c (List.mem_of_getElem? (i := 4) rfl)
  e_BadSplit := mem_kind m (by decide +kernel)
  q_BadSplit := (mem_bare (x := "BadSplit") m (by decide +kernel)).1
  kp_BadSplit := (mem_bare (x := "BadSplit") m (by decide +kernel)).2
  m_BadValue := glo X G c (List.mem_of_getElem? (i := 5) rfl)
  e_BadValue := mem_kind m (by decide +kernel)
  o_BadValue := (mem_own (x := "BadValue") (fs := ["value"]) m (by decide +kernel)).1
  i_BadValue := (mem_own (x := "BadValue") (fs := ["value"]) m (by decide +kernel)).2.1
  t_BadValue := (mem_own (x := "BadValue") (fs := ["value"]) m (by decide +kernel)).2.2.1
  n_BadValue_value := (mem_own (x := "BadValue") (fs := ["value"]) m (by decide +kernel)).2.2.2 "value" (by decide +kernel)
  F_BadValue := by
    obtain ⟨fd, F⟩ : ∃ fd, FnP K "__init__" "BadValue.__init__" s_BadValue___init (He.ma K (cl K "BadValue") "__init__") fd := c.def_ 0 (d := d_BadValue___init) rfl
    exact ⟨fd, ok_BadValue F (mem_own (x := "BadValue") (fs := ["value"]) m (by decide +kernel)).1 ((mem_own (x := "BadValue") (fs := ["value"]) m (by decide +kernel)).2.2.2 "value" (by decide +kernel)), kbF F _ _ _ _ _ (fun r1 _ => r1) (fun _ _ _ _ _ _ us ws h1 h2 => match us, ws, h1, h2 with | [_, _], [], _, _ => rfl),
      kbF F _ _ _ _ _ (fun r1 r2 => r1.append r2) (fun _ _ _ _ _ _ us ws h1 h2 => match us, ws, h1, h2 with | [_], [_], _, _ => rfl)⟩
  m_BadWay := glo X G c (List.mem_of_getElem? (i := 6) rfl)
  e_BadWay := mem_kind m (by decide +kernel)
  o_BadWay := (mem_own (x := "BadWay") (fs := ["at"]) m (by decide +kernel)).1
  i_BadWay := (mem_own (x := "BadWay") (fs := ["at"]) m (by decide +kernel)).2.1
  t_BadWay := (mem_own (x := "BadWay") (fs := ["at"]) m (by decide +kernel)).2.2.1
  n_BadWay_at := (mem_own (x := "BadWay") (fs := ["at"]) m (by decide +kernel)).2.2.2 "at" (by decide +kernel)
  F_BadWay := by
    obtain ⟨fd, F⟩ : ∃ fd, FnP K "__init__" "BadWay.__init__" s_BadWay___init (He.ma K (cl K "BadWay") "__init__") fd := c.def_ 6 (d := d_BadWay___init) rfl
    exact ⟨fd, ok_BadWay F (mem_own (x := "BadWay") (fs := ["at"]) m (by decide +kernel)).1 ((mem_own (x := "BadWay") (fs := ["at"]) m (by decide +kernel)).2.2.2 "at" (by decide +kernel)), kbF F _ _ _ _ _ (fun r1 _ => r1) (fun _ _ _ _ _ _ us ws h1 h2 => match us, ws, h1, h2 with | [_, _], [], _, _ => rfl),
      kbF F _ _ _ _ _ (fun r1 r2 => r1.append r2) (fun _ _ _ _ _ _ us ws h1 h2 => match us, ws, h1, h2 with | [_], [_], _, _ => rfl)⟩
  m_BadWork := glo X G c (List.mem_of_getElem? (i := 7) rfl)
  e_BadWork := mem_kind m (by decide +kernel)
  o_BadWork := (mem_own (x := "BadWork") (fs := ["at"]) m (by decide +kernel)).1
  i_BadWork := (mem_own (x := "BadWork") (fs := ["at"]) m (by decide +kernel)).2.1
  t_BadWork := (mem_own (x := "BadWork") (fs := ["at"]) m (by decide +kernel)).2.2.1
  n_BadWork_at := (mem_own (x := "BadWork") (fs := ["at"]) m (by decide +kernel)).2.2.2 "at" (by decide +kernel)
  F_BadWork := by
    obtain ⟨fd, F⟩ : ∃ fd, FnP K "__init__" "BadWork.__init__" s_BadWork___init (He.ma K (cl K "BadWork") "__init__") fd := c.def_ 9 (d := d_BadWork___init) rfl
    exact ⟨fd, ok_BadWork F (mem_own (x := "BadWork") (fs := ["at"]) m (by decide +kernel)).1 ((mem_own (x := "BadWork") (fs := ["at"]) m (by decide +kernel)).2.2.2 "at" (by decide +kernel)), kbF F _ _ _ _ _ (fun r1 _ => r1) (fun _ _ _ _ _ _ us ws h1 h2 => match us, ws, h1, h2 with | [_, _], [], _, _ => rfl),
      kbF F _ _ _ _ _ (fun r1 r2 => r1.append r2) (fun _ _ _ _ _ _ us ws h1 h2 => match us, ws, h1, h2 with | [_], [_], _, _ => rfl)⟩
  m_Finished := glo X G c (List.mem_of_getElem? (i := 8) rfl)
  e_Finished := mem_kind m (by decide +kernel)
  q_Finished := (mem_bare (x := "Finished") m (by decide +kernel)).1
  kp_Finished := (mem_bare (x := "Finished") m (by decide +kernel)).2
  m_NoLabel := glo X G c (List.mem_of_getElem? (i := 9) rfl)
  e_NoLabel := mem_kind m (by decide +kernel)
  o_NoLabel := (mem_own (x := "NoLabel") (fs := ["label"]) m (by decide +kernel)).1
  i_NoLabel := (mem_own (x := "NoLabel") (fs := ["label"]) m (by decide +kernel)).2.1
  t_NoLabel := (mem_own (x := "NoLabel") (fs := ["label"]) m (by decide +kernel)).2.2.1
  n_NoLabel_label := (mem_own (x := "NoLabel") (fs := ["label"]) m (by decide +kernel)).2.2.2 "label" (by decide +kernel)
  F_NoLabel := by
    obtain ⟨fd, F⟩ : ∃ fd, FnP K "__init__" "NoLabel.__init__" s_NoLabel___init (He.ma K (cl K "NoLabel") "__init__") fd := c.def_ 3 (d := d_NoLabel___init) rfl
    exact ⟨fd, ok_NoLabel F (mem_own (x := "NoLabel") (fs := ["label"]) m (by decide +kernel)).1 ((mem_own (x := "NoLabel") (fs := ["label"]) m (by decide +kernel)).2.2.2 "label" (by decide +kernel)), kbF F _ _ _ _ _ (fun r1 _ => r1) (fun _ _ _ _ _ _ us ws h1 h2 => match us, ws, h1, h2 with | [_, _], [], _, _ => rfl),
      kbF F _ _ _ _ _ (fun r1 r2 => r1.append r2) (fun _ _ _ _ _ _ us ws h1 h2 => match us, ws, h1, h2 with | [_], [_], _, _ => rfl)⟩
  m_NoPair := glo X G c (List.mem_of_getElem? (i := 10) rfl)
  e_NoPair := mem_kind m (by decide +kernel)
  o_NoPair := (mem_own (x := "NoPair") (fs := ["label", "key"]) m (by decide +kernel)).1
  i_NoPair := (mem_own (x := "NoPair") (fs := ["label", "key"]) m (by decide +kernel)).2.1
  t_NoPair := (mem_own (x := "NoPair") (fs := ["label", "key"]) m (by decide +kernel)).2.2.1
  n_NoPair_label := (mem_own (x := "NoPair") (fs := ["label", "key"]) m (by decide +kernel)).2.2.2 "label" (by decide +kernel)
  n_NoPair_key := (mem_own (x := "NoPair") (fs := ["label", "key"]) m (by decide +kernel)).2.2.2 "key" (by decide +kernel)
  F_NoPair := by
    obtain ⟨fd, F⟩ : ∃ fd, FnP K "__init__" "NoPair.__init__" s_NoPair___init (He.ma K (cl K "NoPair") "__init__") fd := c.def_ 4 (d := d_NoPair___init) rfl
    exact ⟨fd, ok_NoPair F (mem_own (x := "NoPair") (fs := ["label", "key"]) m (by decide +kernel)).1 ((mem_own (x := "NoPair") (fs := ["label", "key"]) m (by decide +kernel)).2.2.2 "label" (by decide +kernel)) ((mem_own (x := "NoPair") (fs := ["label", "key"]) m (by decide +kernel)).2.2.2 "key" (by decide +kernel)), kbF F _ _ _ _ _ (fun r1 _ => r1) (fun _ _ _ _ _ _ us ws h1 h2 => match us, ws, h1, h2 with | [_, _, _], [], _, _ => rfl),
      kbF F _ _ _ _ _ (fun r1 r2 => r1.append (swap_vals r2)) (fun _ _ _ _ _ _ us ws h1 h2 => match us, ws, h1, h2 with | [_], [_, _], _, _ => rfl)⟩
  m_NoRow := glo X G c (List.mem_of_getElem? (i := 11) rfl)
  e_NoRow := mem_kind m (by decide +kernel)
  o_NoRow := (mem_own (x := "NoRow") (fs := ["number"]) m (by decide +kernel)).1
  i_NoRow := (mem_own (x := "NoRow") (fs := ["number"]) m (by decide +kernel)).2.1
  t_NoRow := (mem_own (x := "NoRow") (fs := ["number"]) m (by decide +kernel)).2.2.1
  n_NoRow_number := (mem_own (x := "NoRow") (fs := ["number"]) m (by decide +kernel)).2.2.2 "number" (by decide +kernel)
  F_NoRow := by
    obtain ⟨fd, F⟩ : ∃ fd, FnP K "__init__" "NoRow.__init__" s_NoRow___init (He.ma K (cl K "NoRow") "__init__") fd := c.def_ 8 (d := d_NoRow___init) rfl
    exact ⟨fd, ok_NoRow F (mem_own (x := "NoRow") (fs := ["number"]) m (by decide +kernel)).1 ((mem_own (x := "NoRow") (fs := ["number"]) m (by decide +kernel)).2.2.2 "number" (by decide +kernel)), kbF F _ _ _ _ _ (fun r1 _ => r1) (fun _ _ _ _ _ _ us ws h1 h2 => match us, ws, h1, h2 with | [_, _], [], _, _ => rfl),
      kbF F _ _ _ _ _ (fun r1 r2 => r1.append r2) (fun _ _ _ _ _ _ us ws h1 h2 => match us, ws, h1, h2 with | [_], [_], _, _ => rfl)⟩
  m_NotGiven := glo X G c (List.mem_of_getElem? (i := 12) rfl)
  e_NotGiven := mem_kind m (by decide +kernel)
  o_NotGiven := (mem_own (x := "NotGiven") (fs := ["name"]) m (by decide +kernel)).1
  i_NotGiven := (mem_own (x := "NotGiven") (fs := ["name"]) m (by decide +kernel)).2.1
  t_NotGiven := (mem_own (x := "NotGiven") (fs := ["name"]) m (by decide +kernel)).2.2.1
  n_NotGiven_name := (mem_own (x := "NotGiven") (fs := ["name"]) m (by decide +kernel)).2.2.2 "name" (by decide +kernel)
  F_NotGiven := by
    obtain ⟨fd, F⟩ : ∃ fd, FnP K "__init__" "NotGiven.__init__" s_NotGiven___init (He.ma K (cl K "NotGiven") "__init__") fd := c.def_ 2 (d := d_NotGiven___init) rfl
    exact ⟨fd, ok_NotGiven F (mem_own (x := "NotGiven") (fs := ["name"]) m (by decide +kernel)).1 ((mem_own (x := "NotGiven") (fs := ["name"]) m (by decide +kernel)).2.2.2 "name" (by decide +kernel)), kbF F _ _ _ _ _ (fun r1 _ => r1) (fun _ _ _ _ _ _ us ws h1 h2 => match us, ws, h1, h2 with | [_, _], [], _, _ => rfl),
      kbF F _ _ _ _ _ (fun r1 r2 => r1.append r2) (fun _ _ _ _ _ _ us ws h1 h2 => match us, ws, h1, h2 with | [_], [_], _, _ => rfl)⟩
  m_TooLarge := glo X G c (List.mem_of_getElem? (i := 13) rfl)
  e_TooLarge := mem_kind m (by decide +kernel)
  q_TooLarge := (mem_bare (x := "TooLarge") m (by decide +kernel)).1
  kp_TooLarge := (mem_bare (x := "TooLarge") m (by decide +kernel)).2
  m_TooMany := glo X G c (List.mem_of_getElem? (i := 14) rfl)
  e_TooMany := mem_kind m (by decide +kernel)
  q_TooMany := (mem_bare (x := "TooMany") m (by decide +kernel)).1
  kp_TooMany := (mem_bare (x := "TooMany") m (by decide +kernel)).2
  m_GroveError := glo X G c (List.mem_of_getElem? (i := 15) rfl)
  kit := fun i j hi hj => (kits m hi).1 j hj
  kitG := fun i hi => (kits m hi).2.1
  kitV := fun i hi => (kits m hi).2.2
  m_int := fre X G c (List.mem_of_getElem? (i := 24) rfl)
  m_len := fre X G c (List.mem_of_getElem? (i := 25) rfl)
  m_range := fre X G c (List.mem_of_getElem? (i := 26) rfl)
  m_enumerate := fre X G c (List.mem_of_getElem? (i := 27) rfl)
  m_isinstance := fre X G c (List.mem_of_getElem? (i := 28) rfl)
  m_ValueError := fre X G c (List.mem_of_getElem? (i := 29) rfl)
theorem facts {P : Program} {w : World} {K : PySem.W.Frag} {h : Heap} {mg : Str → Option Value} {f : Addr} (X : K.In h) (G : h.Ns mainGlobals mg) (hfa : mg ("law" : Str) = some (.ref f)) (c : He.SaysD fa fn K) (m : ex K = true) :
    ∃ fd : FuncData, (∀ (s : Shared) (v : Value), BindsTo s fd ⟨[v], []⟩ [("_law_script", v)]) ∧ ∀ base : Heap, K.In base → base.Ns mainGlobals mg → FnOk P w K mg base CX0 4 f fd ["_law_script"] (spLaw K) := by
  obtain ⟨fd, F⟩ : ∃ fd, FnP K "law" "law" s_law (cl K "law") fd := c.def_ 18 (d := d_law) rfl
  obtain ⟨f1, F1⟩ : ∃ fd, FnP K "_law_well" "_law_well" s_law_well (cl K "_law_well") fd := c.def_ 11 (d := d_law_well) rfl
  obtain ⟨f2, F2⟩ : ∃ fd, FnP K "_law_draw" "_law_draw" s_law_draw (cl K "_law_draw") fd := c.def_ 12 (d := d_law_draw) rfl
  obtain ⟨f3, F3⟩ : ∃ fd, FnP K "_law_one" "_law_one" s_law_one (cl K "_law_one") fd := c.def_ 13 (d := d_law_one) rfl
  obtain ⟨f4, F4⟩ : ∃ fd, FnP K "_law_made" "_law_made" s_law_made (cl K "_law_made") fd := c.def_ 15 (d := d_law_made) rfl
  obtain ⟨f5, F5⟩ : ∃ fd, FnP K "_law_named" "_law_named" s_law_named (cl K "_law_named") fd := c.def_ 16 (d := d_law_named) rfl
  obtain ⟨f6, F6⟩ : ∃ fd, FnP K "_law_kinds" "_law_kinds" s_law_kinds (cl K "_law_kinds") fd := c.def_ 14 (d := d_law_kinds) rfl
  obtain ⟨f7, F7⟩ : ∃ fd, FnP K "_law_borne" "_law_borne" s_law_borne (cl K "_law_borne") fd := c.def_ 17 (d := d_law_borne) rfl
  have e := hfa.symm.trans (glo X G c (x := "law") (List.mem_of_getElem? (i := 23) rfl))
  cases e
  have b := FunD.bindsA (ps := ["_law_script"]) F fun _ _ _ _ _ _ us hl => match us, hl with | [_], _ => rfl
  refine ⟨fd, fun s v => b s [v] rfl, fun base _ _ => ?_⟩
  have T : Txt P w K mg base := all_txt X G c m
  have C2 : Cal P w K mg base CX0 "_law_draw" (0 + 1) ["_law_well_here", "_law_many"] spDraw := cal X G c F2 (List.mem_of_getElem? (i := 17) rfl) (ok_draw F2 T.m_int) fun _ _ _ _ _ _ us hl => match us, hl with | [_, _], _ => rfl
  exact ok_law (k := 0) F T (cal X G c F1 (List.mem_of_getElem? (i := 16) rfl) (ok_well F1 T.m_int) fun _ _ _ _ _ _ us hl => match us, hl with | [_], _ => rfl)
    (cal X G c F3 (List.mem_of_getElem? (i := 18) rfl) ((ok_one F3 C2 T.m_len).mono (by decide)) fun _ _ _ _ _ _ us hl => match us, hl with | [_, _], _ => rfl)
    (cal X G c F4 (List.mem_of_getElem? (i := 20) rfl) (ok_made F4 T) fun _ _ _ _ _ _ us hl => match us, hl with | [_, _], _ => rfl)
    (cal X G c F5 (List.mem_of_getElem? (i := 21) rfl) (ok_named F5 T) fun _ _ _ _ _ _ us hl => match us, hl with | [_, _], _ => rfl)
    (cal X G c F6 (List.mem_of_getElem? (i := 19) rfl) (ok_kinds F6 T) fun _ _ _ _ _ _ us hl => match us, hl with | [_], _ => rfl)
    (cal X G c F7 (List.mem_of_getElem? (i := 22) rfl) (ok_borne F7 T) fun _ _ _ _ _ _ us hl => match us, hl with | [_], _ => rfl)
end
end K02
open PySem PySem.W PySem.Calls PyProof.Rows
set_option maxRecDepth 100000 in
set_option maxHeartbeats 0 in
theorem PySem.Challenge.cw_kindgrove_k02_errors_apart_holds : PySem.Challenge.rw_kindgrove_k02_errors_apart.Holds := by
  w_on; o_law
  refine HandSHeadRun.head_any (r := OpenLaw.row PySem.Challenge.rw_kindgrove_k02_errors_apart) (q := view (OpenLaw.row PySem.Challenge.rw_kindgrove_k02_errors_apart).prog [25]) (H := K02.hk) (ob := K02.ob) (M := 6000) (loose := K02.loose) (d := HandSHeadRun.topDef (OpenLaw.row PySem.Challenge.rw_kindgrove_k02_errors_apart).prog 25) (kwd := []) K02.ob_eq
    (by kernel_rfl) (fun s => by kernel_rfl) K02.run (by kernel_rfl) (by kernel_rfl) (by kernel_rfl) (by rfl) (by first | assumption | decide +kernel) (by decide +kernel) ⟨rfl, rfl, rfl, rfl, rfl, by decide +kernel⟩ ?hw ?hc
  case hw => w_witness2
  case hc =>
    refine L2.walk_ofE (l := PySem.Challenge.rw_kindgrove_k02_errors_apart) (n := 63) (k := 4) (x := "_law_script") (CX := L2.CX0) rfl (by decide) (by kernel_rfl) ⟨rfl, by decide, by decide⟩ ?F (fun _ _ _ _ z => z)
    intro w mg fa h Y G hmg0
    obtain ⟨K, KX, c⟩ := Y
    have hmg : mg ("law" : PySem.Str) = some (.ref fa) := by
      have e : (HandSHeadRun.topDef (OpenLaw.row PySem.Challenge.rw_kindgrove_k02_errors_apart).prog 25).name = ("law" : PySem.Str) := by kernel_rfl
      rw [← e]
      exact hmg0
    obtain ⟨fd, hb, hF⟩ := K02.facts (P := (PySem.Challenge.rw_kindgrove_k02_errors_apart).prog) (w := w) KX G hmg c.t.d c.more
    exact ⟨K, fd, K02.spLaw K, KX, hb, fun H a ns hl _ hS => ⟨a, ns, rfl, hS, hl, fun _ => rfl⟩, hF⟩
