import PyProof.Rows.All
import Wide.All
import OpenK.AllK
import Wide.FinOn
import KE.KExcIs
import HandS.ForMost
import HandS.ForExc
import HandS.IsInst
import HandS.Walk
import HandS.Wide
import HandS.WideBits
import HandS.Small
import HandS.Defaults
import HandS.MakeKwOnly
import HandS.ExcInit
import HandS.ExcField
import HandS.ExcIs
import HandS.ExcValue
import HandS.HeadHook4
import HandS.Head2
import HandS.HeadEnd
import HandS.Evl
import PySem.Challenge.RW_typegate_k03_errors_apart
set_option Elab.async false
set_option linter.all false
set_option maxRecDepth 100000
set_option maxHeartbeats 4000000
set_option autoImplicit false
set_option maxHeartbeats 4000000
/-! An own exception class called with keywords alone. -/
namespace PySem
namespace HandSPX
open Builtin Builtin.ObjectAttr
section
variable {M : Model} {A : Around} {E : Value → Shared → Prop} {h : Heap} {g : Array GenState} {d : Drawn} {t : Nat} {os : OsState}
variable {nm q : Str} {C N : Addr} {bs bm bmB : List Value} {hdct : Bool} {sn : List Str} {sub : List Value} {ab : Bool} {col : Option Bool} {dd : Option Addr} {k0 k1 k2 k3 k5 : Option Value} {B newId initId : String}
theorem kwNewChecked (F : ExcBaseFacts B newId initId bmB) (same : ∀ X : String, bm.contains (.type X) = bmB.contains (.type X)) {kw : List (Str × Value)} {Q : Unit → Shared → Prop}
    (cls : h.get? C = some (excClassObj nm q C N bs bm hdct sn sub ab col dd k0 k1 k2 k3 k5 newId)) (z : Q () ⟨h, g, d, t, os⟩) : wpAny M A (checkBuiltinCall newId ⟨[.ref C], kw⟩) Q E ⟨h, g, d, t, os⟩ := by
  have below : (Value.ref C :: bm).contains (.type B) = true := by rw [List.contains_cons, same, F.hasB, Bool.or_true]
  have _star := F.noStar
  simp only [checkBuiltinCall, F.newKind, F.newSplit, F.newRow]
  repeat (first | refine wpAny_loadPart_at cls ?_ | (refine wpAny_isSubtype_exc cls ?_; rw [below]) | refine wpAny_staticBase_exc cls ?_ | refine wpAny_madeBy_exc cls ?_ | simp only [bne_self_eq_false, Bool.false_eq_true, if_false] | wp_step)
  exact z
end
section
variable {prog : Program} {w : World} {A : Around} {E : Value → Shared → Prop} {R : Result → Shared → Prop} {h : Heap} {g : Array GenState} {d : Drawn} {t : Nat} {os : OsState}
variable {nm q : Str} {C N : Addr} {bs bm bmB : List Value} {hdct : Bool} {sn : List Str} {sub : List Value} {ab : Bool} {col : Option Bool} {dd : Option Addr} {k0 k1 k2 k3 k5 : Option Value} {B newId initId : String}
/-- the heap behind the making of an instance whose args are the empty tuple -/
abbrev kwMade (h : Heap) (C : Addr) : Heap := (h.push (W.kdv_tup [])).push (excO C h.objs.size)
theorem kwNew (F : ExcBaseFacts B newId initId bmB) (same : ∀ X : String, bm.contains (.type X) = bmB.contains (.type X)) {kw : List (Str × Value)}
    (cls : h.get? C = some (excClassObj nm q C N bs bm hdct sn sub ab col dd k0 k1 k2 k3 k5 newId)) (z : R (.ok (.ret (.ref (h.objs.size + 1)))) ⟨kwMade h C, g, d, t, os⟩) :
    codeAny (model prog w) A (.builtin newId ⟨[.ref C], kw⟩) R ⟨h, g, d, t, os⟩ := by
  have _ends := F.ends
  have below : ∀ X : String, (Value.ref C :: bm).contains (.type X) = bmB.contains (.type X) := fun X => by rw [List.contains_cons, same]; rfl
  have c1 := (below B).trans F.hasB
  have c2 := (below "AttributeError").trans F.noAttr
  have c3 := (below "NameError").trans F.noName
  refine codeAny_builtinAt F.entry (by
    unfold Builtin.«BaseException.__new__»
    refine wpAt_bind (show wpAt _ _ _ (stack >>= _) _ _ _ from wpAt_bind (wpAt_stack fun p below => wpAt_of_wpAny ?_))
    wp_walk
    refine wpAt_of_wpAny (by
      rw [F.owner]
      repeat (first | with_reducible refine wpAny_madeHere_exc F.canon cls ?_ | with_reducible refine wpAny_loadPart_at cls ?_ | (with_reducible refine wpAny_isSubtype_exc cls ?_; first | rw [c1] | rw [c2] | rw [c3]) | wp_step)
      show R _ _
      rw [Heap.size_push]
      exact z))
theorem kwTypeCall (F : ExcBaseFacts B newId initId bmB) (same : ∀ X : String, bm.contains (.type X) = bmB.contains (.type X)) {kw : List (Str × Value)} {fI : Addr} {Q : Fin → Shared → Prop}
    (cls : h.get? C = some (excClassObj nm q C N bs bm hdct sn sub ab col dd k0 k1 k2 k3 k5 newId))
    (look : W.Looks (model prog w) h (typeLookup (.ref C) "__init__") (some (.ref fI))) (bnd : ∀ self, W.Looks (model prog w) h (bindSpecial (.ref fI) self) (.ref fI, [self]))
    (z : codeAny (model prog w) A (.call (.ref fI) ⟨[.ref (h.objs.size + 1)], kw⟩) (fun r s' => match r with | .ok (.ret v) => v = .none ∧ Q (.done (.ret (.ref (h.objs.size + 1)))) s' | .ok _ => False | .error e => E e s') ⟨kwMade h C, g, d, t, os⟩) :
    wpAny (model prog w) A (Builtin.«type.__call__» ⟨[.ref C], kw⟩) Q E ⟨h, g, d, t, os⟩ := by
  repeat (first | with_reducible refine wpAny_loadPart_at cls ?_ | with_reducible refine wpAny_madeBy_exc cls ?_ | wp_step)
  refine codeAny_call_builtin_code (Code.quiet_builtin _ F.quiet) (kwNewChecked F same cls (kwNew F same cls ?_))
  show wpAny _ _ _ _ _ _
  have keeps : ∀ b o, h.get? b = some o → (kwMade h C).get? b = some o := fun b o e => Heap.get?_push_of_some _ (Heap.get?_push_of_some _ e)
  have cls1 := keeps _ _ cls
  have made : (kwMade h C).get? (h.objs.size + 1) = some (excO C h.objs.size) := by heap_get
  have own : (Value.ref C :: bm).contains (.ref C) = true := by simp
  have look1 := look.keeps keeps
  have bnd1 := (bnd (.ref (h.objs.size + 1))).keeps keeps
  unfold isInstance
  repeat (first | with_reducible refine wpAny_loadPart_at made ?_ | (with_reducible refine wpAny_isSubtype_exc cls1 ?_; rw [own]) | wp_step)
  show wpAny _ _ (typeLookup (.ref C) _) _ _ _
  refine look1.at (wpAny_holding (wpAny_bind (bnd1.at (wpAny_bind (wpAny_call (codeAny_mono z fun r s' y => ?_))))))
  rcases r with e | (v | _ | _ | _) <;> first | exact y | exact y.elim | skip
  obtain ⟨rfl, y⟩ := y
  first | exact wpAny_pure (wpAny_pure y) | (wp_walk; exact y)
theorem kwTypeChecked {kw : List (Str × Value)} {Q : Unit → Shared → Prop} {M : Model} (cls : h.get? C = some (excClassObj nm q C N bs bm hdct sn sub ab col dd k0 k1 k2 k3 k5 newId))
    (z : Q () ⟨h, g, d, t, os⟩) : wpAny M A (checkBuiltinCall "type.__call__" ⟨[.ref C], kw⟩) Q E ⟨h, g, d, t, os⟩ := by
  have _f := tc_sub
  have ty : (⟨h, g, d, t, os⟩ : Shared).TypeIs (.ref C) "type" := ⟨_, cls, rfl⟩
  simp only [checkBuiltinCall, tc_kind, tc_split]
  repeat (any_goals (first | assumption | with_reducible refine wpAny_loadPart_at cls ?_ | with_reducible refine wpAny_onRaise ?_ | with_reducible refine wpAny_map ?_ | wp_step))
theorem kwCall (F : ExcBaseFacts B newId initId bmB) (same : ∀ X : String, bm.contains (.type X) = bmB.contains (.type X)) {kw : List (Str × Value)} {fI : Addr}
    (cls : h.get? C = some (excClassObj nm q C N bs bm hdct sn sub ab col dd k0 k1 k2 k3 k5 newId))
    (look : W.Looks (model prog w) h (typeLookup (.ref C) "__init__") (some (.ref fI))) (bnd : ∀ self, W.Looks (model prog w) h (bindSpecial (.ref fI) self) (.ref fI, [self]))
    (z : codeAny (model prog w) (A.under (.builtin "type.__call__" ⟨[.ref C], kw⟩)) (.call (.ref fI) ⟨[.ref (h.objs.size + 1)], kw⟩) (W.InitBack (h.objs.size + 1) R) ⟨kwMade h C, g, d, t, os⟩) :
    codeAny (model prog w) A (.call (.ref C) ⟨[], kw⟩) R ⟨h, g, d, t, os⟩ := by
  have _f1 := tc_lookup
  have _f2 := tc_bind (.ref C)
  have ty : (⟨h, g, d, t, os⟩ : Shared).TypeIs (.ref C) "type" := ⟨_, cls, rfl⟩
  refine codeAny_of_tree (show wpAny _ _ (callAny (.ref C) _) _ _ _ from ?_)
  repeat (any_goals (first | assumption | with_reducible refine wpAny_loadPart_at cls ?_ | wp_step))
  refine ⟨rfl, codeAny_call_builtin_at (Code.quiet_builtin _ (by decide +kernel)) entry_typeCall (kwTypeChecked cls (kwTypeCall F same cls look bnd (codeAny_mono z fun r s' y => ?_)))⟩
  rcases r with e | (v | _ | _ | _) <;> exact y
end
end HandSPX
end PySem

namespace N3
open PySem PySem.Spec PyProof.Rows L2 Evl
abbrev FnP (K : PySem.W.Frag) (x : Str) (st : Stmt) (f : Addr) (fd : FuncData) : Prop := FunD K x x (L2.defArgs st) (L2.defBody st) (L2.defScope st) [] [] f fd
/-- a def that may be called by its name -/
structure Cl (P : Program) (w : World) (K : PySem.W.Frag) (mg : Str → Option Value) (base : Heap) (CX : CXT) (k : Nat) (x : Str) (ps : List Str) (sp : Sp) : Prop where
  ex : ∃ (f : Addr) (fd : FuncData), FnOk P w K mg base CX k f fd ps sp ∧ mg x = some (.ref f) ∧ PySem.W.keepIn K (.ref f) = true ∧ Binds K fd ps []
theorem pe_cl {X : Cx} {k j : Nat} {x : Str} {ps : List Str} {sp : Sp} {p pos : Pos} {e : Expr} {es : List Expr} {t : TA} (c : Cl X.prog X.w X.K X.mg X.base L2.CX0 k x ps sp) (hr : Room j X.A) (hk : k ≤ j) (hg : Gl X x) (ha : PA X (e :: es) t)
    (hdb : (x == ("__debug__" : Str)) = false := by decide) (he : starEach (e :: es) X.env = (false, eval e X.env) :: starEach es X.env := by rfl) (hpl : (backTo pos (starEach es X.env)).any (·.1) = false := by rfl) :
    PE X (.Call (.Name x p) (e :: es) [] pos) (tCall sp [] L2.E0 t) := by
  obtain ⟨f, fd, F, hm, hkp, hb⟩ := c.ex
  exact pe_call F (hr.mono hk) hg hm hkp hb .nil L2.pass0 ha hdb he hpl
/-- the built-ins that the text uses -/
structure Bt (mg : Str → Option Value) : Prop where
  isi : mg "isinstance" = none
  range : mg "range" = none
  int : mg "int" = none
  enumerate : mg "enumerate" = none
  ValueError : mg "ValueError" = none
def Exa (a : Addr) (H H' : Hp) : Prop := ∀ b o, b ≠ a → H b = some o → H' b = some o
/-! ### what an own error class is -/
def oexB (K : PySem.W.Frag) (C : Addr) : Bool := (match K.lookup C with
    | some ⟨.type "type", _, .cls cd, sl⟩ => (match cd.mro, sl.toList with
      | .ref c :: bm, [_, _, _, _, some (.builtin n), _] => c == C && (n == "ValueError.__new__" && ((!cd.hasDel) && (cd.hasDict && PySem.HandSPX.refsVE bm)))
      | _, _ => false)
    | _ => false) && (decide (PySem.W.findIn K (.ref C) "__setattr__" = some (some (.builtin "object.__setattr__"))) && (decide (PySem.W.typeIn K (.ref C) = some (.type "type")) && PySem.W.keepIn K (.ref C)))
theorem oexB_ok {K : PySem.W.Frag} {C : Addr} (h : oexB K C = true) (s : PySem.W.subIn K (.ref C) (.type "BaseException") = some true) : OexC K C := by
  unfold oexB at h
  obtain ⟨h1, h2⟩ := Bool.and_eq_true_iff.mp h
  obtain ⟨h2, h3⟩ := Bool.and_eq_true_iff.mp h2
  obtain ⟨h3, h4⟩ := Bool.and_eq_true_iff.mp h3
  refine ⟨?_, of_decide_eq_true h2, s, of_decide_eq_true h3, h4⟩
  split at h1
  · rename_i dd cd sl ho
    split at h1
    · rename_i c bm k0 k1 k2 k3 n k5 hm hs
      simp only [Bool.and_eq_true, beq_iff_eq, Bool.not_eq_true'] at h1
      obtain ⟨rfl, rfl, hdel, hdi, hr⟩ := h1
      obtain ⟨nm, bs, mro, ns, qn, hd, sn, sub, ab, col, del⟩ := cd
      dsimp only at hm hdel hdi
      subst hm hdel hdi
      obtain ⟨l⟩ := sl
      simp only at hs
      subst hs
      exact ⟨nm, qn, ns, bs, bm, sn, sub, ab, col, dd, k0, k1, k2, k3, k5, ho, hr⟩
    · cases h1
  · cases h1
/-- the class at C, its instances' making, fields and __class__ -/
structure XCls (K : PySem.W.Frag) (C : Addr) : Prop where
  o : OexC K C
  x : XfC K C
  cl : (PySem.W.clsIn K C).isSome = true
  ha : PySem.W.findIn K (.ref C) "__class__" = some (some (.builtin "object.__class__"))
  hm : PySem.W.mroIn K C (.type "object") = some true
def xclsB (K : PySem.W.Frag) (C : Addr) : Bool := oexB K C && (xfB K C && ((PySem.W.clsIn K C).isSome && (decide (PySem.W.findIn K (.ref C) "__class__" = some (some (.builtin "object.__class__"))) && decide (PySem.W.mroIn K C (.type "object") = some true))))
theorem xclsB_ok {K : PySem.W.Frag} {C : Addr} (h : xclsB K C = true) : XCls K C := by
  obtain ⟨h1, h⟩ := Bool.and_eq_true_iff.mp h
  obtain ⟨h2, h⟩ := Bool.and_eq_true_iff.mp h
  obtain ⟨h3, h⟩ := Bool.and_eq_true_iff.mp h
  obtain ⟨h4, h5⟩ := Bool.and_eq_true_iff.mp h
  have x := xfB_ok h2
  exact ⟨oexB_ok h1 x.exC, x, h3, of_decide_eq_true h4, of_decide_eq_true h5⟩
/-- at a: an error of the class at C with the fields fs (the last one that was put stands first) -/
def IsX (H : Hp) (a C : Addr) (fs : List (Str × V)) : Prop := (fs = [] ∧ H a = some (exo a C none)) ∨ ∃ d, H a = some (exo a C (some d)) ∧ H d = some (exd d fs)
theorem IsX.ex {H H' : Hp} {a C : Addr} {fs : List (Str × V)} (h : IsX H a C fs) (e : Ex H H') : IsX H' a C fs := by
  rcases h with ⟨h1, h2⟩ | ⟨d, h1, h2⟩
  · exact .inl ⟨h1, e _ _ h2⟩
  · exact .inr ⟨d, e _ _ h1, e _ _ h2⟩
/-- __init__(self, y, ..): the fields named ns -/
def spI (C : Addr) (ns : List Str) : Sp := fun vs H Q _ => ∃ (a : Addr) (ys : List V), vs = .ref a :: ys ∧ ys.length = ns.length ∧ H a = some (exo a C none) ∧
  ∀ d H', H d = none → Exa a H H' → H' a = some (exo a C (some d)) → H' d = some (exd d (ns.zip ys).reverse) → Q .non H'
/-- C(..), its own __init__ keeping spI: n values are written, the others named -/
def tMkX (C : Addr) (ns : List Str) (g : List V → List V → List V) (t tk : TA) : TE := fun σ H Q => t σ H fun vs H1 => tk σ H1 fun zs H2 => (g vs zs).length = ns.length ∧ ∀ a H3, Ex H2 H3 → H2 a = none → IsX H3 a C (ns.zip (g vs zs)).reverse → Q (.ref a) H3
theorem spI_made {C a : Addr} {ns : List Str} {ys : List V} {H : Hp} {Q : VK} {E : XK} (hl : ys.length = ns.length) (hn : H a = none) (q : ∀ a H3, Ex H H3 → H a = none → IsX H3 a C (ns.zip ys).reverse → Q (.ref a) H3) :
    spI C ns (.ref a :: ys) (upd H a (exo a C none)) (fun v H2 => v = .non ∧ Q (.ref a) H2) E := by
  refine ⟨a, ys, rfl, hl, upd_same, fun d H' hd hx h1 h2 => ⟨rfl, q a H' (fun b o hb => ?_) hn (.inr ⟨d, h1, h2⟩)⟩⟩
  have hba : b ≠ a := ne_of_none hb hn
  exact hx b o hba (by rw [upd_ne hba]; exact hb)
section
variable {X : Cx} {x : Str} {C fI : Addr} {k : Nat} {fd : FuncData} {ps ns ks : List Str} {e : Expr} {es : List Expr} {kws : List Keyword} {ta tk : TA} {p pos : Pos} {g : {α : Type} → List α → List α → List α}
/-- C(e, ..) -/
theorem pe_mkX (T : OexC X.K C) (iC : PySem.W.findIn X.K (.ref C) "__init__" = some (some (.ref fI))) (tI : PySem.W.typeIn X.K (.ref fI) = some (.type "function")) (F1 : FnOk X.prog X.w X.K X.mg X.base L2.CX0 k fI fd ps (spI C ns)) (hns : ns.length ≤ 1000)
    (hr : Room (k + 1) X.A) (hb : Binds X.K fd ps []) (hg : Gl X x) (hm : X.mg x = some (.ref C)) (ha : PA X (e :: es) ta)
    (hdb : (x == ("__debug__" : Str)) = false := by decide) (he : starEach (e :: es) X.env = (false, eval e X.env) :: starEach es X.env := by rfl) (hpl : (backTo pos (starEach es X.env)).any (·.1) = false := by rfl) :
    PE X (.Call (.Name x p) (e :: es) [] pos) (tMkX C ns (fun vs _ => vs) ta tNil) := by
  refine ⟨fun pins s σ H Q I h => ?_⟩
  obtain ⟨nm, q, N, bs, bm, sn, sub, ab, col, dd, k0, k1, k2, k3, k5, hC, hbm⟩ := T.cls
  refine wpAny_Call_Name_kw (ld_glob I hg hm ?_ hdb)
  refine PySem.W.callWith_K (h₀ := X.base) I.ok.mod.kin T.kC (thn (ha.run pos pins s σ H _ I h) fun us s1 ⟨vs, H1, I1, r1, hz, q1⟩ => ⟨I1.kIn, ?_⟩) he hpl
  show wpAny _ _ (call (.ref C) us) _ _ _
  obtain ⟨hp, gg, dr, tk, os⟩ := s1
  have hsz : hp.objs.size ≤ hp.objs.size + 1 := Nat.le_succ _
  have hn : H1 (hp.objs.size + 1) = none := I1.hok.fresh hsz
  have hq := spI_made (C := C) (E := L2.E0) hz hn q1
  have hget : ((hp.push (PySem.W.kdv_tup us)).push (PySem.HandSPX.excO C hp.objs.size)).get? (hp.objs.size + 1) = some (PySem.HandSPX.excO C hp.objs.size) := by heap_get
  have I2 := I1.laid (t' := tk) (a := hp.objs.size + 1) (o := exo (hp.objs.size + 1) C none) (h' := (hp.push (PySem.W.kdv_tup us)).push (PySem.HandSPX.excO C hp.objs.size)) (fun b o e => Heap.get?_push_of_some _ (Heap.get?_push_of_some _ e)) hsz (exo_ok hget)
  have r2 : Vals (V.ref (hp.objs.size + 1) :: vs) (Value.ref (hp.objs.size + 1) :: us ++ []) := .cons rfl (by show Vals vs (us ++ []); rw [List.append_nil]; exact r1)
  have hl : (Value.ref (hp.objs.size + 1) :: us ++ []).length = ps.length := by
    have e := r2.length
    rw [F1.len _ _ _ _ hq] at e
    exact e.symm
  have hus : us.length ≤ sizeLine := by
    have hz2 : vs.length = ns.length := hz
    rw [← Paired.length r1, hz2, sizeLine_eq]
    omega
  refine wpAny_call (PySem.HandSPX.call_own F.excBase_ValueError (fun Y => PySem.HandSPX.refsVE_contains Y bm hbm) (I1.kIn _ _ hC) (PySem.W.looks_findIn I1.kIn iC) (fun self => PySem.W.bind_fn I1.kIn self tI) hus
    (codeAny_mono (F1.run _ X.stack _ _ ⟨Value.ref (hp.objs.size + 1) :: us, []⟩ (Value.ref (hp.objs.size + 1) :: us ++ []) _ _ L2.E0 (hr.make C us []) (I2.env0.make C us []) (hb _ (Value.ref (hp.objs.size + 1) :: us) I2.kIn hl) r2 hq) fun r s' hq' => ?_))
  cases r with
  | error er => exact L2.pass0 pins σ _ _ er s' I2 hq'
  | ok fl =>
    cases fl with
    | ret u =>
      obtain ⟨v, H', I3, rv, ev, q3⟩ := I2.after hq'
      subst ev
      exact ⟨rv, ⟨V.ref (hp.objs.size + 1), H', I3, rfl, q3⟩⟩
    | next => exact False.elim hq'
    | brk => exact False.elim hq'
    | cont => exact False.elim hq'
/-- C(k = v, ..) -/
theorem pe_mkXK (T : OexC X.K C) (iC : PySem.W.findIn X.K (.ref C) "__init__" = some (some (.ref fI))) (tI : PySem.W.typeIn X.K (.ref fI) = some (.type "function")) (F1 : FnOk X.prog X.w X.K X.mg X.base L2.CX0 k fI fd ps (spI C ns))
    (hr : Room (k + 1) X.A) {gV : List V → List V} {gW : List Value → List Value} (hb : KBn X.K fd ps 1 ks (fun us ws => us ++ gW ws) (fun vs zs => vs ++ gV zs)) (hg : Gl X x) (hm : X.mg x = some (.ref C)) (hkw : PK X kws tk) (hgl : ∀ zs : List V, (gV zs).length = ns.length → zs.length = ks.length)
    (hall : (backToKw pos (keywordEach kws X.env)).all (·.1.isSome) = true := by rfl) (hks : (backToKw pos (keywordEach kws X.env)).filterMap (·.1) = ks := by rfl) (hdb : (x == ("__debug__" : Str)) = false := by decide)
    (hpl : ((backTo pos (starEach [] X.env)).any (·.1) || (backToKw pos (keywordEach kws X.env)).any (·.1.isNone)) = false := by rfl) :
    PE X (.Call (.Name x p) [] kws pos) (tMkX C ns (fun _ zs => gV zs) tNil tk) := by
  refine ⟨fun pins s σ H Q I h => ?_⟩
  obtain ⟨nm, q, N, bs, bm, sn, sub, ab, col, dd, k0, k1, k2, k3, k5, hC, hbm⟩ := T.cls
  refine wpAny_Call_Name_kw (ld_glob I hg hm ?_ hdb)
  refine PySem.W.callWith_KW0 (h₀ := X.base) I.ok.mod.kin T.kC hall ?_ hpl
  refine thn (hkw.run pos pins s σ H _ I h) fun ws s2 ⟨zs, H1, I1, rz, hz, q1⟩ => ⟨I1.kIn, ?_⟩
  rw [hks]
  show wpAny _ _ (call (.ref C) [] (ks.zip ws)) _ _ _
  obtain ⟨hp, gg, dr, tk2, os⟩ := s2
  have hsz : hp.objs.size ≤ hp.objs.size + 1 := Nat.le_succ _
  have hn : H1 (hp.objs.size + 1) = none := I1.hok.fresh hsz
  have hq := spI_made (C := C) (E := L2.E0) hz hn q1
  have hget : (PySem.HandSPX.kwMade hp C).get? (hp.objs.size + 1) = some (PySem.HandSPX.excO C hp.objs.size) := by heap_get
  have I2 := I1.laid (t' := tk2) (a := hp.objs.size + 1) (o := exo (hp.objs.size + 1) C none) (h' := PySem.HandSPX.kwMade hp C) (fun b o e => Heap.get?_push_of_some _ (Heap.get?_push_of_some _ e)) hsz (exo_ok hget)
  have r1 : Vals [V.ref (hp.objs.size + 1)] [Value.ref (hp.objs.size + 1)] := .cons rfl .nil
  have r2 := hb.rel r1 rz
  have l2 : ws.length = ks.length := rz.length.symm.trans (hgl zs hz)
  refine wpAny_call (PySem.HandSPX.kwCall F.excBase_ValueError (fun Y => PySem.HandSPX.refsVE_contains Y bm hbm) (I1.kIn _ _ hC) (PySem.W.looks_findIn I1.kIn iC) (fun self => PySem.W.bind_fn I1.kIn self tI)
    (codeAny_mono (F1.run _ X.stack _ _ ⟨[Value.ref (hp.objs.size + 1)], ks.zip ws⟩ _ _ _ L2.E0 (hr.make C [] (ks.zip ws)) (I2.env0.make C [] (ks.zip ws)) (hb.to _ [Value.ref (hp.objs.size + 1)] ws I2.kIn rfl l2) r2 hq) fun r s' hq' => ?_))
  cases r with
  | error er => exact L2.pass0 pins σ _ _ er s' I2 hq'
  | ok fl =>
    cases fl with
    | ret u =>
      obtain ⟨v, H', I3, rv, ev, q3⟩ := I2.after hq'
      subst ev
      exact ⟨rv, ⟨V.ref (hp.objs.size + 1), H', I3, rfl, q3⟩⟩
    | next => exact False.elim hq'
    | brk => exact False.elim hq'
    | cont => exact False.elim hq'
/-- C(), C without an __init__ of its own -/
theorem pe_mkX0 {bmB : List Value} {B newId initId : String} (F : ExcBaseFacts B newId initId bmB) (q : PySem.W.excIn X.K C bmB newId = true) (gC : X.mg x = some (.ref C)) (kC : PySem.W.keepIn X.K (.ref C) = true) (hg : Gl X x)
    (hdb : (x == ("__debug__" : Str)) = false := by decide) : PE X (.Call (.Name x p) [] [] pos) (tMkX C [] (fun _ _ => []) tNil tNil) := by
  refine ⟨fun pins s σ H Q I h => ?_⟩
  refine wpAny_Call_Name_kw (ld_glob I hg gC ?_ hdb)
  refine PySem.W.callWith_K0 I.kIn kC ?_
  show wpAny _ _ (call (.ref C) []) _ _ _
  obtain ⟨bm, N, nm, qn, bs, hdct, sn, sub, ab, col, dd, k0, k1, k2, k3, k5, mN, hC, hN, hni, T⟩ := exc_obj I.kIn q
  refine wpAny_call_exc_subT F T hC hN hni (fun h' a hm => ?_) (Nat.zero_le _)
  have hn : H a = none := I.hok.gone hm.new
  obtain ⟨t, ht, _, _⟩ := hm.there
  have I2 := I.laidN (t' := s.toks) (o := exo a C none) hm.keeps hm.new hn (exo_ok ht)
  exact ⟨.ref a, _, I2, rfl, h.2 a _ (Ex.new hn) hn (.inl ⟨rfl, upd_same⟩)⟩
end
end N3

namespace N3
open PySem PySem.Spec PyProof.Rows L2 Evl
section
variable {K : PySem.W.Frag} {x qual : Str} {params : Arguments} {body : List Stmt} {scope : Scope} {f : Addr} {fd : FuncData} {ps : List Str}
/-- f(e, .., k = v, ..) where nothing lacks -/
theorem kb00 (F : FunD K x qual params body scope [] [] f fd) (n : Nat) (ks : List Str) (g : {α : Type} → List α → List α → List α) (hrel : ∀ {vs zs : List V} {us ws : List Value}, Vals vs us → Vals zs ws → Vals (g vs zs) (g us ws))
    (h : ∀ (kV doc pm : Value) (an : Option Addr) (cdv ct : Value) (us ws : List Value), us.length = n → ws.length = ks.length → bindArgs (PySem.W.fnOf x qual params body scope .none kV doc pm an cdv ct) ⟨us, ks.zip ws⟩ = pure (ps.zip (g us ws))) :
    KBn K fd ps n ks (fun us ws => g us ws) (fun vs zs => g vs zs) := by
  obtain ⟨oc, od, dV, kV, doc, pm, an, cdv, ct, osl, rfl, lk, hcd, hD, hK⟩ := F.ex
  rcases hD with ⟨_, rfl⟩ | ⟨e, _⟩
  · exact ⟨fun s us ws X l1 l2 => BindsTo.of_looks fun M => PySem.W.Looks.of_pure (h kV doc pm an cdv ct us ws l1 l2), fun r1 r2 => hrel r1 r2⟩
  · exact absurd rfl e
end
/-! ### isinstance and fields -/
def rIsX (K : PySem.W.Frag) : List V → Hp → VK → Prop := fun xs H Q => ∃ (a C : Addr) (fs : List (Str × V)) (c : V) (cv : Value) (b : Bool), xs = [.ref a, c] ∧ IsX H a C fs ∧ XCls K C ∧ (∀ u, RelV c u → u = cv) ∧ PySem.W.kitOne K (.ref C) cv = some b ∧ Q (.bl b) H
theorem IsX.inst {P : Program} {w : World} {H : Hp} {h : Heap} {a C : Addr} {fs : List (Str × V)} (hok : HOk P w H h) (x : IsX H a C fs) : ∃ ox od, PySem.W.InstAt h a ox C od := by
  rcases x with ⟨_, h1⟩ | ⟨d, h1, h2⟩
  · obtain ⟨t1, ho⟩ := exo_at hok h1
    exact ⟨_, none, ho, rfl, rfl, trivial⟩
  · obtain ⟨t1, ho⟩ := exo_at hok h1
    obtain ⟨mA, hns, rel⟩ := exd_at hok h2
    obtain ⟨od, hod, _⟩ := lookIn_ns hns
    exact ⟨_, some od, ho, rfl, rfl, hod⟩
theorem call_isX {X : Cx} : CallR X (.builtin "isinstance") (rIsX X.K) := by
  intro pins s σ H xs us Q I r h
  obtain ⟨a, C, fs, c, cv, b, rfl, hx, T, hcv, e, q⟩ := h
  cases r with
  | cons rx rr =>
    cases rr with
    | cons rt rr =>
      cases rr
      cases rx
      obtain rfl := hcv _ rt
      obtain ⟨ox, od, J⟩ := hx.inst I.hok
      exact PySem.W.kia_one (PySem.W.kitx_exc T.cl T.x.ga T.x.gg T.x.exC T.ha (by kernel_rfl) (by kernel_rfl) T.hm) I.kIn J e (fun z => nomatch z) fun tk => ⟨.bl b, H, I.kept (t' := tk) fun _ _ z => z, rfl, q⟩
/-- e.n of an own error -/
def tXa (K : PySem.W.Frag) (n : Str) (te : TE) : TE := fun σ H Q => te σ H fun x H1 => ∃ (a C : Addr) (fs : List (Str × V)) (v : V), x = .ref a ∧ IsX H1 a C fs ∧ XCls K C ∧ PySem.W.findIn K (.ref C) n = some none ∧ fs.lookup n = some v ∧ Q v H1
theorem pe_xa {X : Cx} {e : Expr} {te : TE} {pos : Pos} {n : Str} (he : PE X e te) (hb : attributeBase e n X.env (eval e X.env) = eval e X.env := by rfl) : PE X (.Attribute e n pos) (tXa X.K n te) := by
  refine ⟨fun pins s σ H Q I h => attr_of hb (thn (he.run pins s σ H _ I h) fun u s1 hh => ?_)⟩
  obtain ⟨x, H1, I1, rx, a, C, fs, v, ex, hx, T, hno, l, q⟩ := hh
  subst ex
  obtain rfl : u = Value.ref a := rx
  rcases hx with ⟨rfl, _⟩ | ⟨d, h1, h2⟩
  · cases l
  · obtain ⟨t1, ho⟩ := exo_at I1.hok h1
    obtain ⟨mA, hns, rel⟩ := exd_at I1.hok h2
    obtain ⟨od, hod, look⟩ := lookIn_ns hns
    obtain ⟨y, hy, ry⟩ := RelO.some_of (v := v) (o := mA n) (by rw [← l]; exact rel n)
    exact HandSPX.exc_get I1.kIn (od := some od) ⟨ho, rfl, rfl, hod⟩ T.x.ga T.x.gg T.x.exC (PySem.W.findObj_own T.x.hdC hno rfl (by rw [look, hy])) (handed_of ry) ⟨v, H1, I1.tok _, ry, q⟩
end N3

/-! The rows of the text; what each __init__ does. -/
namespace N3
open PySem PySem.Spec PyProof.Rows L2 Evl
def topS (i : Nat) : Stmt := PySem.Challenge.pw_typegate_k03_errors_apart.main.body.getD i (.Pass ⟨0, 0, 0, 0⟩)
def inCls (s : Stmt) : List Stmt := match s with | .ClassDef (body := rows) .. => rows | _ => []
def errs : List Str := ["NoDescriptor", "NoForm", "NoWorld", "NotDefined", "NoLoader", "NoEntry", "NotFound", "NoMethod", "NotRight", "NoCode", "NoFrames", "NoBytes", "NoClass", "NoText", "NoFile", "NoWriting", "NoMember", "NoReference", "NoType", "NoRow", "NoCall"]
def cl (K : PySem.W.Frag) (x : Str) : Addr := He.ga K x
abbrev sLawKinds : Stmt := topS 24
theorem scLawKinds : FnScope ["err", "results"] ["err"] (L2.defScope sLawKinds) := ⟨rfl, rfl, rfl, by decide +kernel, rfl, by decide +kernel, by decide +kernel⟩
abbrev sLawBatchRight : Stmt := topS 25
theorem scLawBatchRight : FnScope ["batch", "number", "thing", "k", "err", "pairs", "other", "pair"] ["batch", "number", "thing"] (L2.defScope sLawBatchRight) := ⟨rfl, rfl, rfl, by decide +kernel, rfl, by decide +kernel, by decide +kernel⟩
abbrev sLaw : Stmt := topS 26
theorem scLaw : FnScope ["script", "cell", "number", "thing", "some", "byname", "batch"] ["script"] (L2.defScope sLaw) := ⟨rfl, rfl, rfl, by decide +kernel, rfl, by decide +kernel, by decide +kernel⟩

abbrev iNoForm : Stmt := (inCls (topS 3)).getD 0 (.Pass ⟨0, 0, 0, 0⟩)
theorem iscNoForm : FnScope ["self", "why", "at"] ["self", "why", "at"] (L2.defScope iNoForm) := ⟨rfl, rfl, rfl, by decide +kernel, rfl, by decide +kernel, by decide +kernel⟩

abbrev iNoWorld : Stmt := (inCls (topS 4)).getD 0 (.Pass ⟨0, 0, 0, 0⟩)
theorem iscNoWorld : FnScope ["self", "loader", "name"] ["self", "loader", "name"] (L2.defScope iNoWorld) := ⟨rfl, rfl, rfl, by decide +kernel, rfl, by decide +kernel, by decide +kernel⟩

abbrev iNotDefined : Stmt := (inCls (topS 5)).getD 0 (.Pass ⟨0, 0, 0, 0⟩)
theorem iscNotDefined : FnScope ["self", "cls"] ["self", "cls"] (L2.defScope iNotDefined) := ⟨rfl, rfl, rfl, by decide +kernel, rfl, by decide +kernel, by decide +kernel⟩

abbrev iNoLoader : Stmt := (inCls (topS 6)).getD 0 (.Pass ⟨0, 0, 0, 0⟩)
theorem iscNoLoader : FnScope ["self", "loader"] ["self", "loader"] (L2.defScope iNoLoader) := ⟨rfl, rfl, rfl, by decide +kernel, rfl, by decide +kernel, by decide +kernel⟩

abbrev iNoEntry : Stmt := (inCls (topS 7)).getD 0 (.Pass ⟨0, 0, 0, 0⟩)
theorem iscNoEntry : FnScope ["self", "entry"] ["self", "entry"] (L2.defScope iNoEntry) := ⟨rfl, rfl, rfl, by decide +kernel, rfl, by decide +kernel, by decide +kernel⟩

abbrev iNotFound : Stmt := (inCls (topS 8)).getD 0 (.Pass ⟨0, 0, 0, 0⟩)
theorem iscNotFound : FnScope ["self", "name", "word"] ["self", "name", "word"] (L2.defScope iNotFound) := ⟨rfl, rfl, rfl, by decide +kernel, rfl, by decide +kernel, by decide +kernel⟩

abbrev iNotRight : Stmt := (inCls (topS 10)).getD 0 (.Pass ⟨0, 0, 0, 0⟩)
theorem iscNotRight : FnScope ["self", "index", "word"] ["self", "index", "word"] (L2.defScope iNotRight) := ⟨rfl, rfl, rfl, by decide +kernel, rfl, by decide +kernel, by decide +kernel⟩

abbrev iNoFrames : Stmt := (inCls (topS 12)).getD 0 (.Pass ⟨0, 0, 0, 0⟩)
theorem iscNoFrames : FnScope ["self", "index", "word"] ["self", "index", "word"] (L2.defScope iNoFrames) := ⟨rfl, rfl, rfl, by decide +kernel, rfl, by decide +kernel, by decide +kernel⟩

abbrev iNoClass : Stmt := (inCls (topS 14)).getD 0 (.Pass ⟨0, 0, 0, 0⟩)
theorem iscNoClass : FnScope ["self", "at", "why"] ["self", "at", "why"] (L2.defScope iNoClass) := ⟨rfl, rfl, rfl, by decide +kernel, rfl, by decide +kernel, by decide +kernel⟩

abbrev iNoWriting : Stmt := (inCls (topS 17)).getD 0 (.Pass ⟨0, 0, 0, 0⟩)
theorem iscNoWriting : FnScope ["self", "why", "method"] ["self", "why", "method"] (L2.defScope iNoWriting) := ⟨rfl, rfl, rfl, by decide +kernel, rfl, by decide +kernel, by decide +kernel⟩

abbrev iNoMember : Stmt := (inCls (topS 18)).getD 0 (.Pass ⟨0, 0, 0, 0⟩)
theorem iscNoMember : FnScope ["self", "member"] ["self", "member"] (L2.defScope iNoMember) := ⟨rfl, rfl, rfl, by decide +kernel, rfl, by decide +kernel, by decide +kernel⟩

abbrev iNoReference : Stmt := (inCls (topS 19)).getD 0 (.Pass ⟨0, 0, 0, 0⟩)
theorem iscNoReference : FnScope ["self", "reference"] ["self", "reference"] (L2.defScope iNoReference) := ⟨rfl, rfl, rfl, by decide +kernel, rfl, by decide +kernel, by decide +kernel⟩

abbrev iNoType : Stmt := (inCls (topS 20)).getD 0 (.Pass ⟨0, 0, 0, 0⟩)
theorem iscNoType : FnScope ["self", "name"] ["self", "name"] (L2.defScope iNoType) := ⟨rfl, rfl, rfl, by decide +kernel, rfl, by decide +kernel, by decide +kernel⟩

abbrev iNoRow : Stmt := (inCls (topS 21)).getD 0 (.Pass ⟨0, 0, 0, 0⟩)
theorem iscNoRow : FnScope ["self", "row"] ["self", "row"] (L2.defScope iNoRow) := ⟨rfl, rfl, rfl, by decide +kernel, rfl, by decide +kernel, by decide +kernel⟩

abbrev iNoCall : Stmt := (inCls (topS 22)).getD 0 (.Pass ⟨0, 0, 0, 0⟩)
theorem iscNoCall : FnScope ["self", "why"] ["self", "why"] (L2.defScope iNoCall) := ⟨rfl, rfl, rfl, by decide +kernel, rfl, by decide +kernel, by decide +kernel⟩

theorem init1 {K : PySem.W.Frag} {C a : Addr} {f : Str} {y : V} {H : Hp} {Q : VK} {E : XK} {N : List Str} {D : Ends} (T : OexC K C) (n1 : PySem.W.findIn K (.ref C) f = some none) (h : spI C [f] [.ref a, y] H Q E) (hD : D.nx = fun _ H' => Q .non H') : tOst K f (tVar 0) (tVar 1) D [some (.ref a), some y] H := by
  obtain ⟨b, ys, e, hl, ha, q⟩ := h
  cases e
  refine ⟨y, rfl, .ref a, rfl, a, C, rfl, T, n1, .inl ⟨ha, fun dx hd hne => ?_⟩⟩
  rw [hD]
  exact q dx _ hd (fun c o hc ho => by rw [upd_ne hc, upd_ne (ne_of_none ho hd)]; exact ho) upd_same (by rw [upd_ne hne]; exact upd_same)
theorem init2 {K : PySem.W.Frag} {C a : Addr} {f g : Str} {y z : V} {H : Hp} {Q : VK} {E : XK} {N : List Str} {D : Ends} (T : OexC K C) (n1 : PySem.W.findIn K (.ref C) f = some none) (n2 : PySem.W.findIn K (.ref C) g = some none) (h : spI C [f, g] [.ref a, y, z] H Q E) (hD : D.nx = fun _ H' => Q .non H') :
    tSeq (tOst K f (tVar 0) (tVar 1)) (tOst K g (tVar 0) (tVar 2)) D [some (.ref a), some y, some z] H := by
  obtain ⟨b, ys, e, hl, ha, q⟩ := h
  cases e
  refine ⟨y, rfl, .ref a, rfl, a, C, rfl, T, n1, .inl ⟨ha, fun dx hd hne => ?_⟩⟩
  refine ⟨z, rfl, .ref a, rfl, a, C, rfl, T, n2, .inr ⟨dx, _, upd_same, by rw [upd_ne hne]; exact upd_same, by show 1 ≤ 900; decide, ?_⟩⟩
  rw [hD]
  exact q dx _ hd (fun c o hc ho => by rw [upd_ne (ne_of_none ho hd), upd_ne hc, upd_ne (ne_of_none ho hd)]; exact ho) (by rw [upd_ne (Ne.symm hne)]; exact upd_same) upd_same
section
variable {P : Program} {w : World} {K : PySem.W.Frag} {mg : Str → Option Value} {base : Heap} {C : Addr}
abbrev FnI (K : PySem.W.Frag) (q : Str) (st : Stmt) (f : Addr) (fd : FuncData) : Prop := FunD K "__init__" q (L2.defArgs st) (L2.defBody st) (L2.defScope st) [] [] f fd
theorem okiNoForm {f : Addr} {fd : FuncData} (F : FnI K "NoForm.__init__" iNoForm f fd) (T : OexC K C) (n1 : PySem.W.findIn K (.ref C) "why" = some none) (n2 : PySem.W.findIn K (.ref C) "at" = some none) : FnOk P w K mg base L2.CX0 1 f fd ["self", "why", "at"] (spI C ["why", "at"]) := by
  refine F.ok iscNoForm (fun vs H Q E h => ?_) (fun cdv A outer s H vs Q E hr h => ?_)
  · obtain ⟨a, ys, rfl, hl, _⟩ := h
    exact congrArg Nat.succ hl
  · obtain ⟨a, ys, rfl, hl, hh⟩ := h
    obtain ⟨y0, y1, rfl⟩ : ∃ y0 y1, ys = [y0, y1] := by
      match ys, hl with
      | [y0, y1], _ => exact ⟨y0, y1, rfl⟩
    have h : spI C ["why", "at"] [.ref a, y0, y1] H Q E := ⟨a, _, rfl, hl, hh⟩
    exact ⟨_, PSs.nox (pss_cons (ps_ost (pv 0) (pv 1)) (pss_one (ps_ost (pv 0) (pv 2)))), init2 (N := []) (E := E) T n1 n2 h rfl⟩
theorem okiNoWorld {f : Addr} {fd : FuncData} (F : FnI K "NoWorld.__init__" iNoWorld f fd) (T : OexC K C) (n1 : PySem.W.findIn K (.ref C) "loader" = some none) (n2 : PySem.W.findIn K (.ref C) "name" = some none) : FnOk P w K mg base L2.CX0 1 f fd ["self", "loader", "name"] (spI C ["loader", "name"]) := by
  refine F.ok iscNoWorld (fun vs H Q E h => ?_) (fun cdv A outer s H vs Q E hr h => ?_)
  · obtain ⟨a, ys, rfl, hl, _⟩ := h
    exact congrArg Nat.succ hl
  · obtain ⟨a, ys, rfl, hl, hh⟩ := h
    obtain ⟨y0, y1, rfl⟩ : ∃ y0 y1, ys = [y0, y1] := by
      match ys, hl with
      | [y0, y1], _ => exact ⟨y0, y1, rfl⟩
    have h : spI C ["loader", "name"] [.ref a, y0, y1] H Q E := ⟨a, _, rfl, hl, hh⟩
    exact ⟨_, PSs.nox (pss_cons (ps_ost (pv 0) (pv 1)) (pss_one (ps_ost (pv 0) (pv 2)))), init2 (N := []) (E := E) T n1 n2 h rfl⟩
theorem okiNotDefined {f : Addr} {fd : FuncData} (F : FnI K "NotDefined.__init__" iNotDefined f fd) (T : OexC K C) (n1 : PySem.W.findIn K (.ref C) "cls" = some none) : FnOk P w K mg base L2.CX0 1 f fd ["self", "cls"] (spI C ["cls"]) := by
  refine F.ok iscNotDefined (fun vs H Q E h => ?_) (fun cdv A outer s H vs Q E hr h => ?_)
  · obtain ⟨a, ys, rfl, hl, _⟩ := h
    exact congrArg Nat.succ hl
  · obtain ⟨a, ys, rfl, hl, hh⟩ := h
    obtain ⟨y0, rfl⟩ : ∃ y0, ys = [y0] := by
      match ys, hl with
      | [y0], _ => exact ⟨y0, rfl⟩
    have h : spI C ["cls"] [.ref a, y0] H Q E := ⟨a, _, rfl, hl, hh⟩
    exact ⟨_, PSs.nox (pss_one (ps_ost (pv 0) (pv 1))), init1 (N := []) (E := E) T n1 h rfl⟩
theorem okiNoLoader {f : Addr} {fd : FuncData} (F : FnI K "NoLoader.__init__" iNoLoader f fd) (T : OexC K C) (n1 : PySem.W.findIn K (.ref C) "loader" = some none) : FnOk P w K mg base L2.CX0 1 f fd ["self", "loader"] (spI C ["loader"]) := by
  refine F.ok iscNoLoader (fun vs H Q E h => ?_) (fun cdv A outer s H vs Q E hr h => ?_)
  · obtain ⟨a, ys, rfl, hl, _⟩ := h
    exact congrArg Nat.succ hl
  · obtain ⟨a, ys, rfl, hl, hh⟩ := h
    obtain ⟨y0, rfl⟩ : ∃ y0, ys = [y0] := by
      match ys, hl with
      | [y0], _ => exact ⟨y0, rfl⟩
    have h : spI C ["loader"] [.ref a, y0] H Q E := ⟨a, _, rfl, hl, hh⟩
    exact ⟨_, PSs.nox (pss_one (ps_ost (pv 0) (pv 1))), init1 (N := []) (E := E) T n1 h rfl⟩
theorem okiNoEntry {f : Addr} {fd : FuncData} (F : FnI K "NoEntry.__init__" iNoEntry f fd) (T : OexC K C) (n1 : PySem.W.findIn K (.ref C) "entry" = some none) : FnOk P w K mg base L2.CX0 1 f fd ["self", "entry"] (spI C ["entry"]) := by
  refine F.ok iscNoEntry (fun vs H Q E h => ?_) (fun cdv A outer s H vs Q E hr h => ?_)
  · obtain ⟨a, ys, rfl, hl, _⟩ := h
    exact congrArg Nat.succ hl
  · obtain ⟨a, ys, rfl, hl, hh⟩ := h
    obtain ⟨y0, rfl⟩ : ∃ y0, ys = [y0] := by
      match ys, hl with
      | [y0], _ => exact ⟨y0, rfl⟩
    have h : spI C ["entry"] [.ref a, y0] H Q E := ⟨a, _, rfl, hl, hh⟩
    exact ⟨_, PSs.nox (pss_one (ps_ost (pv 0) (pv 1))), init1 (N := []) (E := E) T n1 h rfl⟩
theorem okiNotFound {f : Addr} {fd : FuncData} (F : FnI K "NotFound.__init__" iNotFound f fd) (T : OexC K C) (n1 : PySem.W.findIn K (.ref C) "name" = some none) (n2 : PySem.W.findIn K (.ref C) "word" = some none) : FnOk P w K mg base L2.CX0 1 f fd ["self", "name", "word"] (spI C ["name", "word"]) := by
  refine F.ok iscNotFound (fun vs H Q E h => ?_) (fun cdv A outer s H vs Q E hr h => ?_)
  · obtain ⟨a, ys, rfl, hl, _⟩ := h
    exact congrArg Nat.succ hl
  · obtain ⟨a, ys, rfl, hl, hh⟩ := h
    obtain ⟨y0, y1, rfl⟩ : ∃ y0 y1, ys = [y0, y1] := by
      match ys, hl with
      | [y0, y1], _ => exact ⟨y0, y1, rfl⟩
    have h : spI C ["name", "word"] [.ref a, y0, y1] H Q E := ⟨a, _, rfl, hl, hh⟩
    exact ⟨_, PSs.nox (pss_cons (ps_ost (pv 0) (pv 1)) (pss_one (ps_ost (pv 0) (pv 2)))), init2 (N := []) (E := E) T n1 n2 h rfl⟩
theorem okiNotRight {f : Addr} {fd : FuncData} (F : FnI K "NotRight.__init__" iNotRight f fd) (T : OexC K C) (n1 : PySem.W.findIn K (.ref C) "index" = some none) (n2 : PySem.W.findIn K (.ref C) "word" = some none) : FnOk P w K mg base L2.CX0 1 f fd ["self", "index", "word"] (spI C ["index", "word"]) := by
  refine F.ok iscNotRight (fun vs H Q E h => ?_) (fun cdv A outer s H vs Q E hr h => ?_)
  · obtain ⟨a, ys, rfl, hl, _⟩ := h
    exact congrArg Nat.succ hl
  · obtain ⟨a, ys, rfl, hl, hh⟩ := h
    obtain ⟨y0, y1, rfl⟩ : ∃ y0 y1, ys = [y0, y1] := by
      match ys, hl with
      | [y0, y1], _ => exact ⟨y0, y1, rfl⟩
    have h : spI C ["index", "word"] [.ref a, y0, y1] H Q E := ⟨a, _, rfl, hl, hh⟩
    exact ⟨_, PSs.nox (pss_cons (ps_ost (pv 0) (pv 1)) (pss_one (ps_ost (pv 0) (pv 2)))), init2 (N := []) (E := E) T n1 n2 h rfl⟩
theorem okiNoFrames {f : Addr} {fd : FuncData} (F : FnI K "NoFrames.__init__" iNoFrames f fd) (T : OexC K C) (n1 : PySem.W.findIn K (.ref C) "index" = some none) (n2 : PySem.W.findIn K (.ref C) "word" = some none) : FnOk P w K mg base L2.CX0 1 f fd ["self", "index", "word"] (spI C ["index", "word"]) := by
  refine F.ok iscNoFrames (fun vs H Q E h => ?_) (fun cdv A outer s H vs Q E hr h => ?_)
  · obtain ⟨a, ys, rfl, hl, _⟩ := h
    exact congrArg Nat.succ hl
  · obtain ⟨a, ys, rfl, hl, hh⟩ := h
    obtain ⟨y0, y1, rfl⟩ : ∃ y0 y1, ys = [y0, y1] := by
      match ys, hl with
      | [y0, y1], _ => exact ⟨y0, y1, rfl⟩
    have h : spI C ["index", "word"] [.ref a, y0, y1] H Q E := ⟨a, _, rfl, hl, hh⟩
    exact ⟨_, PSs.nox (pss_cons (ps_ost (pv 0) (pv 1)) (pss_one (ps_ost (pv 0) (pv 2)))), init2 (N := []) (E := E) T n1 n2 h rfl⟩
theorem okiNoClass {f : Addr} {fd : FuncData} (F : FnI K "NoClass.__init__" iNoClass f fd) (T : OexC K C) (n1 : PySem.W.findIn K (.ref C) "at" = some none) (n2 : PySem.W.findIn K (.ref C) "why" = some none) : FnOk P w K mg base L2.CX0 1 f fd ["self", "at", "why"] (spI C ["at", "why"]) := by
  refine F.ok iscNoClass (fun vs H Q E h => ?_) (fun cdv A outer s H vs Q E hr h => ?_)
  · obtain ⟨a, ys, rfl, hl, _⟩ := h
    exact congrArg Nat.succ hl
  · obtain ⟨a, ys, rfl, hl, hh⟩ := h
    obtain ⟨y0, y1, rfl⟩ : ∃ y0 y1, ys = [y0, y1] := by
      match ys, hl with
      | [y0, y1], _ => exact ⟨y0, y1, rfl⟩
    have h : spI C ["at", "why"] [.ref a, y0, y1] H Q E := ⟨a, _, rfl, hl, hh⟩
    exact ⟨_, PSs.nox (pss_cons (ps_ost (pv 0) (pv 1)) (pss_one (ps_ost (pv 0) (pv 2)))), init2 (N := []) (E := E) T n1 n2 h rfl⟩
theorem okiNoWriting {f : Addr} {fd : FuncData} (F : FnI K "NoWriting.__init__" iNoWriting f fd) (T : OexC K C) (n1 : PySem.W.findIn K (.ref C) "why" = some none) (n2 : PySem.W.findIn K (.ref C) "method" = some none) : FnOk P w K mg base L2.CX0 1 f fd ["self", "why", "method"] (spI C ["why", "method"]) := by
  refine F.ok iscNoWriting (fun vs H Q E h => ?_) (fun cdv A outer s H vs Q E hr h => ?_)
  · obtain ⟨a, ys, rfl, hl, _⟩ := h
    exact congrArg Nat.succ hl
  · obtain ⟨a, ys, rfl, hl, hh⟩ := h
    obtain ⟨y0, y1, rfl⟩ : ∃ y0 y1, ys = [y0, y1] := by
      match ys, hl with
      | [y0, y1], _ => exact ⟨y0, y1, rfl⟩
    have h : spI C ["why", "method"] [.ref a, y0, y1] H Q E := ⟨a, _, rfl, hl, hh⟩
    exact ⟨_, PSs.nox (pss_cons (ps_ost (pv 0) (pv 1)) (pss_one (ps_ost (pv 0) (pv 2)))), init2 (N := []) (E := E) T n1 n2 h rfl⟩
theorem okiNoMember {f : Addr} {fd : FuncData} (F : FnI K "NoMember.__init__" iNoMember f fd) (T : OexC K C) (n1 : PySem.W.findIn K (.ref C) "member" = some none) : FnOk P w K mg base L2.CX0 1 f fd ["self", "member"] (spI C ["member"]) := by
  refine F.ok iscNoMember (fun vs H Q E h => ?_) (fun cdv A outer s H vs Q E hr h => ?_)
  · obtain ⟨a, ys, rfl, hl, _⟩ := h
    exact congrArg Nat.succ hl
  · obtain ⟨a, ys, rfl, hl, hh⟩ := h
    obtain ⟨y0, rfl⟩ : ∃ y0, ys = [y0] := by
      match ys, hl with
      | [y0], _ => exact ⟨y0, rfl⟩
    have h : spI C ["member"] [.ref a, y0] H Q E := ⟨a, _, rfl, hl, hh⟩
    exact ⟨_, PSs.nox (pss_one (ps_ost (pv 0) (pv 1))), init1 (N := []) (E := E) T n1 h rfl⟩
theorem okiNoReference {f : Addr} {fd : FuncData} (F : FnI K "NoReference.__init__" iNoReference f fd) (T : OexC K C) (n1 : PySem.W.findIn K (.ref C) "reference" = some none) : FnOk P w K mg base L2.CX0 1 f fd ["self", "reference"] (spI C ["reference"]) := by
  refine F.ok iscNoReference (fun vs H Q E h => ?_) (fun cdv A outer s H vs Q E hr h => ?_)
  · obtain ⟨a, ys, rfl, hl, _⟩ := h
    exact congrArg Nat.succ hl
  · obtain ⟨a, ys, rfl, hl, hh⟩ := h
    obtain ⟨y0, rfl⟩ : ∃ y0, ys = [y0] := by
      match ys, hl with
      | [y0], _ => exact ⟨y0, rfl⟩
    have h : spI C ["reference"] [.ref a, y0] H Q E := ⟨a, _, rfl, hl, hh⟩
    exact ⟨_, PSs.nox (pss_one (ps_ost (pv 0) (pv 1))), init1 (N := []) (E := E) T n1 h rfl⟩
theorem okiNoType {f : Addr} {fd : FuncData} (F : FnI K "NoType.__init__" iNoType f fd) (T : OexC K C) (n1 : PySem.W.findIn K (.ref C) "name" = some none) : FnOk P w K mg base L2.CX0 1 f fd ["self", "name"] (spI C ["name"]) := by
  refine F.ok iscNoType (fun vs H Q E h => ?_) (fun cdv A outer s H vs Q E hr h => ?_)
  · obtain ⟨a, ys, rfl, hl, _⟩ := h
    exact congrArg Nat.succ hl
  · obtain ⟨a, ys, rfl, hl, hh⟩ := h
    obtain ⟨y0, rfl⟩ : ∃ y0, ys = [y0] := by
      match ys, hl with
      | [y0], _ => exact ⟨y0, rfl⟩
    have h : spI C ["name"] [.ref a, y0] H Q E := ⟨a, _, rfl, hl, hh⟩
    exact ⟨_, PSs.nox (pss_one (ps_ost (pv 0) (pv 1))), init1 (N := []) (E := E) T n1 h rfl⟩
theorem okiNoRow {f : Addr} {fd : FuncData} (F : FnI K "NoRow.__init__" iNoRow f fd) (T : OexC K C) (n1 : PySem.W.findIn K (.ref C) "row" = some none) : FnOk P w K mg base L2.CX0 1 f fd ["self", "row"] (spI C ["row"]) := by
  refine F.ok iscNoRow (fun vs H Q E h => ?_) (fun cdv A outer s H vs Q E hr h => ?_)
  · obtain ⟨a, ys, rfl, hl, _⟩ := h
    exact congrArg Nat.succ hl
  · obtain ⟨a, ys, rfl, hl, hh⟩ := h
    obtain ⟨y0, rfl⟩ : ∃ y0, ys = [y0] := by
      match ys, hl with
      | [y0], _ => exact ⟨y0, rfl⟩
    have h : spI C ["row"] [.ref a, y0] H Q E := ⟨a, _, rfl, hl, hh⟩
    exact ⟨_, PSs.nox (pss_one (ps_ost (pv 0) (pv 1))), init1 (N := []) (E := E) T n1 h rfl⟩
theorem okiNoCall {f : Addr} {fd : FuncData} (F : FnI K "NoCall.__init__" iNoCall f fd) (T : OexC K C) (n1 : PySem.W.findIn K (.ref C) "why" = some none) : FnOk P w K mg base L2.CX0 1 f fd ["self", "why"] (spI C ["why"]) := by
  refine F.ok iscNoCall (fun vs H Q E h => ?_) (fun cdv A outer s H vs Q E hr h => ?_)
  · obtain ⟨a, ys, rfl, hl, _⟩ := h
    exact congrArg Nat.succ hl
  · obtain ⟨a, ys, rfl, hl, hh⟩ := h
    obtain ⟨y0, rfl⟩ : ∃ y0, ys = [y0] := by
      match ys, hl with
      | [y0], _ => exact ⟨y0, rfl⟩
    have h : spI C ["why"] [.ref a, y0] H Q E := ⟨a, _, rfl, hl, hh⟩
    exact ⟨_, PSs.nox (pss_one (ps_ost (pv 0) (pv 1))), init1 (N := []) (E := E) T n1 h rfl⟩
end
end N3

namespace N3
open PySem PySem.Spec PyProof.Rows L2 Evl
/-! ### the making of errors, by class -/
structure MkO (P : Program) (w : World) (K : PySem.W.Frag) (mg : Str → Option Value) (base : Heap) (x : Str) (ns : List Str) : Prop where
  m : mg x = some (.ref (cl K x))
  T : OexC K (cl K x)
  ex : ∃ (fI : Addr) (fd : FuncData), PySem.W.findIn K (.ref (cl K x)) "__init__" = some (some (.ref fI)) ∧ PySem.W.typeIn K (.ref fI) = some (.type "function") ∧ FnOk P w K mg base L2.CX0 1 fI fd ("self" :: ns) (spI (cl K x) ns) ∧
    Binds K fd ("self" :: ns) [] ∧ KBn K fd ("self" :: ns) 1 ns.reverse (fun us ws => us ++ ws.reverse) (fun vs zs => vs ++ zs.reverse)
structure Mk0 (K : PySem.W.Frag) (mg : Str → Option Value) (x : Str) : Prop where
  m : mg x = some (.ref (cl K x))
  q : PySem.W.excIn K (cl K x) He.veBase "ValueError.__new__" = true
  k : PySem.W.keepIn K (.ref (cl K x)) = true
section
variable {X : Cx} {x : Str} {ns : List Str} {j : Nat} {e : Expr} {es : List Expr} {kws : List Keyword} {ta tk : TA} {p pos : Pos}
theorem MkO.pe (M : MkO X.prog X.w X.K X.mg X.base x ns) (hr : Room j X.A) (hk : 2 ≤ j) (hg : Gl X x) (ha : PA X (e :: es) ta) (hns : ns.length ≤ 1000 := by decide)
    (hdb : (x == ("__debug__" : Str)) = false := by decide) (he : starEach (e :: es) X.env = (false, eval e X.env) :: starEach es X.env := by rfl) (hpl : (backTo pos (starEach es X.env)).any (·.1) = false := by rfl) :
    PE X (.Call (.Name x p) (e :: es) [] pos) (tMkX (cl X.K x) ns (fun vs _ => vs) ta tNil) := by
  obtain ⟨fI, fd, i1, i2, F, b, _⟩ := M.ex
  exact pe_mkX M.T i1 i2 F hns (hr.mono hk) b hg M.m ha hdb he hpl
theorem MkO.pk (M : MkO X.prog X.w X.K X.mg X.base x ns) (hr : Room j X.A) (hk : 2 ≤ j) (hg : Gl X x) (hkw : PK X kws tk)
    (hall : (backToKw pos (keywordEach kws X.env)).all (·.1.isSome) = true := by rfl) (hks : (backToKw pos (keywordEach kws X.env)).filterMap (·.1) = ns.reverse := by rfl) (hdb : (x == ("__debug__" : Str)) = false := by decide)
    (hpl : ((backTo pos (starEach [] X.env)).any (·.1) || (backToKw pos (keywordEach kws X.env)).any (·.1.isNone)) = false := by rfl) :
    PE X (.Call (.Name x p) [] kws pos) (tMkX (cl X.K x) ns (fun _ zs => zs.reverse) tNil tk) := by
  obtain ⟨fI, fd, i1, i2, F, _, b⟩ := M.ex
  exact pe_mkXK M.T i1 i2 F (hr.mono hk) (gV := List.reverse) (gW := List.reverse) b hg M.m hkw (fun zs h => by rw [List.length_reverse] at h ⊢; exact h) hall hks hdb hpl
theorem Mk0.pe (M : Mk0 X.K X.mg x) (hg : Gl X x) (hdb : (x == ("__debug__" : Str)) = false := by decide) : PE X (.Call (.Name x p) [] [] pos) (tMkX (cl X.K x) [] (fun _ _ => []) tNil tNil) :=
  pe_mkX0 F.excBase_ValueError M.q M.m M.k hg hdb
end
/-! ### lists of errors -/
inductive AllX (K : PySem.W.Frag) (H : Hp) : List V → List (Str × List (Str × V)) → Prop where
  | nil : AllX K H [] []
  | cons {a : Addr} {x : Str} {fs : List (Str × V)} {vs : List V} {cs : List (Str × List (Str × V))} : IsX H a (cl K x) fs → AllX K H vs cs → AllX K H (.ref a :: vs) ((x, fs) :: cs)
section
variable {K : PySem.W.Frag} {σ : L2.St} {H H' : Hp} {te tb tc : TE} {ta tr tk : TA} {D : Ends} {tz tu : TS} {Q : VK} {v : V}
theorem AllX.ex {as : List V} {cs : List (Str × List (Str × V))} (h : AllX K H as cs) (e : Ex H H') : AllX K H' as cs := by
  induction h with
  | nil => exact .nil
  | cons h1 _ ih => exact .cons (h1.ex e) ih
theorem AllX.app {as bs : List V} {cs ds : List (Str × List (Str × V))} (h : AllX K H as cs) (g : AllX K H bs ds) : AllX K H (as ++ bs) (cs ++ ds) := by
  induction h with
  | nil => exact g
  | cons h1 _ ih => exact .cons h1 ih
theorem AllX.len {as : List V} {cs : List (Str × List (Str × V))} (h : AllX K H as cs) : as.length = cs.length := by
  induction h with
  | nil => rfl
  | cons _ _ ih => exact congrArg Nat.succ ih
theorem AllX.get {as : List V} {cs : List (Str × List (Str × V))} (h : AllX K H as cs) : ∀ {i : Nat} {x : Str} {fs : List (Str × V)}, cs[i]? = some (x, fs) → ∃ a, as[i]? = some (.ref a) ∧ IsX H a (cl K x) fs := by
  induction h with
  | nil => intro i x fs e; simp at e
  | @cons a x' fs' vs cs h1 _ ih =>
    intro i x fs e
    cases i with
    | zero =>
      simp at e
      obtain ⟨rfl, rfl⟩ := e
      exact ⟨a, rfl, h1⟩
    | succ i =>
      obtain ⟨b, e1, e2⟩ := ih (i := i) (by simpa using e)
      exact ⟨b, by simpa using e1, e2⟩
/-- te makes an error of the class x -/
def EvX (K : PySem.W.Frag) (te : TE) (σ : L2.St) (H : Hp) (x : Str) (fs : List (Str × V)) : Prop := ∀ H1, Ex H H1 → ∀ Q : VK, (∀ a H2, Ex H1 H2 → IsX H2 a (cl K x) fs → Q (.ref a) H2) → te σ H1 Q
def EvAX (K : PySem.W.Frag) (ta : TA) (σ : L2.St) (H : Hp) (cs : List (Str × List (Str × V))) : Prop := ∀ H1, Ex H H1 → ∀ Q : List V → Hp → Prop, (∀ as H2, Ex H1 H2 → AllX K H2 as cs → Q as H2) → ta σ H1 Q
theorem ex_pos {x : Str} {ns : List Str} {ys : List V} (h : EvA ta σ H ys) (hl : ys.length = ns.length) : EvX K (tMkX (cl K x) ns (fun vs _ => vs) ta tNil) σ H x (ns.zip ys).reverse := fun H1 e Q q =>
  h H1 e _ fun H2 e2 => ⟨hl, fun a H3 e3 _ hx => q a H3 (e2.trans e3) hx⟩
theorem ex_kw {x : Str} {ns : List Str} {zs : List V} (h : EvA tk σ H zs) (hl : zs.length = ns.length) : EvX K (tMkX (cl K x) ns (fun _ zs => zs.reverse) tNil tk) σ H x (ns.zip zs.reverse).reverse := fun H1 e Q q =>
  h H1 e _ fun H2 e2 => ⟨by rw [List.length_reverse]; exact hl, fun a H3 e3 _ hx => q a H3 (e2.trans e3) hx⟩
theorem ex_0 {x : Str} : EvX K (tMkX (cl K x) [] (fun _ _ => []) tNil tNil) σ H x [] := fun H1 e Q q => ⟨rfl, fun a H3 e3 _ hx => q a H3 e3 hx⟩
theorem eax_nil : EvAX K tNil σ H [] := fun H1 e Q q => q [] H1 (Ex.refl H1) .nil
theorem eax_cons {x : Str} {fs : List (Str × V)} {cs : List (Str × List (Str × V))} (h : EvX K te σ H x fs) (hr : EvAX K tr σ H cs) : EvAX K (tCons te tr) σ H ((x, fs) :: cs) := fun H1 e Q q =>
  h H1 e _ fun a H2 e2 hx => hr H2 (e.trans e2) _ fun as H3 e3 hA => q (.ref a :: as) H3 (e2.trans e3) (.cons (hx.ex e3) hA)
theorem q_asgX {i : Nat} {cs : List (Str × List (Str × V))} (h : EvAX K ta σ H cs) (hl : cs.length ≤ 1000) (k : ∀ p as H1, Ex H H1 → H1 p = some (.lst as) → AllX K H1 as cs → tz D (σ.set i (some (.ref p))) H1) : tSeq (tAsg (tLst ta) (gName i)) tz D σ H :=
  h H (Ex.refl H) _ fun as H1 e hA => ⟨sz_of (by rw [hA.len]; omega), fun p hp => k p as _ (e.trans (Ex.new hp)) upd_same (hA.ex (Ex.new hp))⟩
theorem q_catX {i : Nat} {p0 : Addr} {as0 : List V} {cs0 cs : List (Str × List (Str × V))} (hv : σ[i]? = some (some (.ref p0))) (hp0 : H p0 = some (.lst as0)) (hA0 : AllX K H as0 cs0) (h : EvAX K ta σ H cs) (hl : cs0.length + cs.length ≤ 1000)
    (k : ∀ p as H1, Ex H H1 → H1 p = some (.lst as) → AllX K H1 as (cs0 ++ cs) → tz D (σ.set i (some (.ref p))) H1) : tSeq (tAsg (tOp rCat (tVar i) (tLst ta)) (gName i)) tz D σ H :=
  ⟨.ref p0, hv, h H (Ex.refl H) _ fun as H1 e hA => ⟨sz_of (by rw [hA.len]; omega), fun q hq => ⟨p0, q, as0, as, rfl, rfl, (e.trans (Ex.new hq)) _ _ hp0, upd_same, sz_of (by rw [hA0.len, hA.len]; omega), fun p hp =>
    k p (as0 ++ as) _ ((e.trans (Ex.new hq)).trans (Ex.new hp)) upd_same ((hA0.ex ((e.trans (Ex.new hq)).trans (Ex.new hp))).app (hA.ex ((Ex.new hq).trans (Ex.new hp))))⟩⟩⟩
theorem ev_isX {a C D : Addr} {fs : List (Str × V)} {b : Bool} (h : Ev te σ H (.ref a)) (hx : IsX H a C fs) (T : XCls K C) (k : PySem.W.kitOne K (.ref C) (.ref D) = some b) : Ev (tCB (rIsX K) (tCons te (tCons (tC (.ref D)) tNil))) σ H (.bl b) := fun H1 e Q q =>
  h H1 e _ fun H2 e2 => ⟨a, C, fs, .ref D, .ref D, b, rfl, hx.ex (e.trans e2), T, fun u hu => hu, k, q H2 e2⟩
theorem ev_isXT {a C : Addr} {n : String} {fs : List (Str × V)} {b : Bool} (h : Ev te σ H (.ref a)) (hx : IsX H a C fs) (T : XCls K C) (k : PySem.W.kitOne K (.ref C) (.type n) = some b) : Ev (tCB (rIsX K) (tCons te (tCons (tC (.ty n)) tNil))) σ H (.bl b) := fun H1 e Q q =>
  h H1 e _ fun H2 e2 => ⟨a, C, fs, .ty n, .type n, b, rfl, hx.ex (e.trans e2), T, fun u hu => hu, k, q H2 e2⟩
theorem el_catV {xs ys : List V} {l : Addr} (h : Ev te σ H (.ref l)) (hl : H l = some (.lst xs)) (hb : EvL tb σ H ys) (hx : xs.length + ys.length ≤ 100000) : EvL (tOp rCat te tb) σ H (xs ++ ys) := fun H1 e Q q =>
  h H1 e _ fun H2 e2 => hb H2 (e.trans e2) _ fun p3 H3 hp3 e3 h3 => ⟨l, p3, xs, ys, rfl, rfl, e3 _ _ (e2 _ _ (e _ _ hl)), h3, sz_of hx, fun p2 hp2 => q p2 _ (fresh_back (e2.trans e3) hp2) ((e2.trans e3).trans (Ex.new hp2)) upd_same⟩
end
/-- what is known of the classes -/
structure Kf (K : PySem.W.Frag) : Prop where
  t : ∀ x ∈ errs, XCls K (cl K x)
  kit : ∀ x ∈ errs, ∀ y ∈ errs, PySem.W.kitOne K (.ref (cl K x)) (.ref (cl K y)) = some (decide (x = y))
  kT : ∀ x ∈ errs, PySem.W.kitOne K (.ref (cl K x)) (.ref (cl K "TypegateError")) = some true
  kV : ∀ x ∈ errs, PySem.W.kitOne K (.ref (cl K x)) (.type "ValueError") = some true
/-- what _law_kinds tells of the class x -/
def kindsL (x : Str) : List Bool := errs.map fun y => decide (x = y)
def spKinds (K : PySem.W.Frag) : Sp := fun vs H Q _ => ∃ (a : Addr) (x : Str) (fs : List (Str × V)), vs = [.ref a] ∧ x ∈ errs ∧ IsX H a (cl K x) fs ∧ ∀ p H', H p = none → Ex H H' → H' p = some (.lst ((kindsL x).map V.bl)) → Q (.ref p) H'
section
variable {P : Program} {w : World} {K : PySem.W.Frag} {mg : Str → Option Value} {base : Heap}
theorem ok_kinds {f : Addr} {fd : FuncData} (F : FnP K "_law_kinds" sLawKinds f fd) (B : Bt mg) (kf : Kf K) (G : ∀ x : Str, x ∈ ("TypegateError" : Str) :: errs → mg x = some (.ref (cl K x))) : FnOk P w K mg base L2.CX0 1 f fd ["err"] (spKinds K) := by
  refine F.ok scLawKinds (fun vs H Q E h => ?_) (fun cdv A outer s H vs Q E hr h => ?_)
  · obtain ⟨a, x, fs, rfl, _⟩ := h
    rfl
  · obtain ⟨a, x, fs, rfl, hx, hi, q⟩ := h
    refine ⟨_, PSs.nox (pss_cons (ps_set (i := 1) scLawKinds.nd rfl (.inl rfl) (pe_lst (pa_cons (pe_callB call_isX (by rfl) B.isi (by decide +kernel) (pa_cons (pv 0) (pa_cons (pe_glob (v := .ref (cl K "NoDescriptor")) (by rfl) (G "NoDescriptor" (by decide)) rfl) pa_nil))) (pa_cons (pe_callB call_isX (by rfl) B.isi (by decide +kernel) (pa_cons (pv 0) (pa_cons (pe_glob (v := .ref (cl K "NoForm")) (by rfl) (G "NoForm" (by decide)) rfl) pa_nil))) (pa_cons (pe_callB call_isX (by rfl) B.isi (by decide +kernel) (pa_cons (pv 0) (pa_cons (pe_glob (v := .ref (cl K "NoWorld")) (by rfl) (G "NoWorld" (by decide)) rfl) pa_nil))) pa_nil)))))
      (pss_cons (ps_set (i := 1) scLawKinds.nd rfl (.inl rfl) (pe_op op_cat (pv 1) (pe_lst (pa_cons (pe_callB call_isX (by rfl) B.isi (by decide +kernel) (pa_cons (pv 0) (pa_cons (pe_glob (v := .ref (cl K "NotDefined")) (by rfl) (G "NotDefined" (by decide)) rfl) pa_nil))) (pa_cons (pe_callB call_isX (by rfl) B.isi (by decide +kernel) (pa_cons (pv 0) (pa_cons (pe_glob (v := .ref (cl K "NoLoader")) (by rfl) (G "NoLoader" (by decide)) rfl) pa_nil))) (pa_cons (pe_callB call_isX (by rfl) B.isi (by decide +kernel) (pa_cons (pv 0) (pa_cons (pe_glob (v := .ref (cl K "NoEntry")) (by rfl) (G "NoEntry" (by decide)) rfl) pa_nil))) pa_nil))))))
      (pss_cons (ps_set (i := 1) scLawKinds.nd rfl (.inl rfl) (pe_op op_cat (pv 1) (pe_lst (pa_cons (pe_callB call_isX (by rfl) B.isi (by decide +kernel) (pa_cons (pv 0) (pa_cons (pe_glob (v := .ref (cl K "NotFound")) (by rfl) (G "NotFound" (by decide)) rfl) pa_nil))) (pa_cons (pe_callB call_isX (by rfl) B.isi (by decide +kernel) (pa_cons (pv 0) (pa_cons (pe_glob (v := .ref (cl K "NoMethod")) (by rfl) (G "NoMethod" (by decide)) rfl) pa_nil))) (pa_cons (pe_callB call_isX (by rfl) B.isi (by decide +kernel) (pa_cons (pv 0) (pa_cons (pe_glob (v := .ref (cl K "NotRight")) (by rfl) (G "NotRight" (by decide)) rfl) pa_nil))) pa_nil))))))
      (pss_cons (ps_set (i := 1) scLawKinds.nd rfl (.inl rfl) (pe_op op_cat (pv 1) (pe_lst (pa_cons (pe_callB call_isX (by rfl) B.isi (by decide +kernel) (pa_cons (pv 0) (pa_cons (pe_glob (v := .ref (cl K "NoCode")) (by rfl) (G "NoCode" (by decide)) rfl) pa_nil))) (pa_cons (pe_callB call_isX (by rfl) B.isi (by decide +kernel) (pa_cons (pv 0) (pa_cons (pe_glob (v := .ref (cl K "NoFrames")) (by rfl) (G "NoFrames" (by decide)) rfl) pa_nil))) (pa_cons (pe_callB call_isX (by rfl) B.isi (by decide +kernel) (pa_cons (pv 0) (pa_cons (pe_glob (v := .ref (cl K "NoBytes")) (by rfl) (G "NoBytes" (by decide)) rfl) pa_nil))) pa_nil))))))
      (pss_cons (ps_set (i := 1) scLawKinds.nd rfl (.inl rfl) (pe_op op_cat (pv 1) (pe_lst (pa_cons (pe_callB call_isX (by rfl) B.isi (by decide +kernel) (pa_cons (pv 0) (pa_cons (pe_glob (v := .ref (cl K "NoClass")) (by rfl) (G "NoClass" (by decide)) rfl) pa_nil))) (pa_cons (pe_callB call_isX (by rfl) B.isi (by decide +kernel) (pa_cons (pv 0) (pa_cons (pe_glob (v := .ref (cl K "NoText")) (by rfl) (G "NoText" (by decide)) rfl) pa_nil))) (pa_cons (pe_callB call_isX (by rfl) B.isi (by decide +kernel) (pa_cons (pv 0) (pa_cons (pe_glob (v := .ref (cl K "NoFile")) (by rfl) (G "NoFile" (by decide)) rfl) pa_nil))) pa_nil))))))
      (pss_cons (ps_set (i := 1) scLawKinds.nd rfl (.inl rfl) (pe_op op_cat (pv 1) (pe_lst (pa_cons (pe_callB call_isX (by rfl) B.isi (by decide +kernel) (pa_cons (pv 0) (pa_cons (pe_glob (v := .ref (cl K "NoWriting")) (by rfl) (G "NoWriting" (by decide)) rfl) pa_nil))) (pa_cons (pe_callB call_isX (by rfl) B.isi (by decide +kernel) (pa_cons (pv 0) (pa_cons (pe_glob (v := .ref (cl K "NoMember")) (by rfl) (G "NoMember" (by decide)) rfl) pa_nil))) (pa_cons (pe_callB call_isX (by rfl) B.isi (by decide +kernel) (pa_cons (pv 0) (pa_cons (pe_glob (v := .ref (cl K "NoReference")) (by rfl) (G "NoReference" (by decide)) rfl) pa_nil))) pa_nil))))))
      (pss_cons (ps_set (i := 1) scLawKinds.nd rfl (.inl rfl) (pe_op op_cat (pv 1) (pe_lst (pa_cons (pe_callB call_isX (by rfl) B.isi (by decide +kernel) (pa_cons (pv 0) (pa_cons (pe_glob (v := .ref (cl K "NoType")) (by rfl) (G "NoType" (by decide)) rfl) pa_nil))) (pa_cons (pe_callB call_isX (by rfl) B.isi (by decide +kernel) (pa_cons (pv 0) (pa_cons (pe_glob (v := .ref (cl K "NoRow")) (by rfl) (G "NoRow" (by decide)) rfl) pa_nil))) (pa_cons (pe_callB call_isX (by rfl) B.isi (by decide +kernel) (pa_cons (pv 0) (pa_cons (pe_glob (v := .ref (cl K "NoCall")) (by rfl) (G "NoCall" (by decide)) rfl) pa_nil))) pa_nil))))))
      (pss_one (ps_ret (pv 1)))))))))), ?_⟩
    have k : ∀ {σ : L2.St} {H' : Hp} (y : Str), y ∈ errs → σ[0]? = some (some (.ref a)) → Ex H H' → Ev (tCB (rIsX K) (tCons (tVar 0) (tCons (tC (.ref (cl K y))) tNil))) σ H' (.bl (decide (x = y))) := fun y hy h0 e => ev_isX (ev_var h0) (hi.ex e) (kf.t x hx) (kf.kit x hx y hy)
    refine q_asgL (el_lst (ea_cons (k _ (by decide) rfl (Ex.refl _)) (ea_cons (k _ (by decide) rfl (Ex.refl _)) (ea_cons (k _ (by decide) rfl (Ex.refl _)) ea_nil))) (by show 3 ≤ 100000; decide)) fun p1 H1 _ x1 h1 => ?_
    refine q_asgL (el_catV (ev_var rfl) h1 (el_lst (ea_cons (k _ (by decide) rfl x1) (ea_cons (k _ (by decide) rfl x1) (ea_cons (k _ (by decide) rfl x1) ea_nil))) (by show 3 ≤ 100000; decide)) (by show 6 ≤ 100000; decide)) fun p2 H2 _ y2 h2 => ?_
    have x2 := x1.trans y2
    refine q_asgL (el_catV (ev_var rfl) h2 (el_lst (ea_cons (k _ (by decide) rfl x2) (ea_cons (k _ (by decide) rfl x2) (ea_cons (k _ (by decide) rfl x2) ea_nil))) (by show 3 ≤ 100000; decide)) (by show 9 ≤ 100000; decide)) fun p3 H3 _ y3 h3 => ?_
    have x3 := x2.trans y3
    refine q_asgL (el_catV (ev_var rfl) h3 (el_lst (ea_cons (k _ (by decide) rfl x3) (ea_cons (k _ (by decide) rfl x3) (ea_cons (k _ (by decide) rfl x3) ea_nil))) (by show 3 ≤ 100000; decide)) (by show 12 ≤ 100000; decide)) fun p4 H4 _ y4 h4 => ?_
    have x4 := x3.trans y4
    refine q_asgL (el_catV (ev_var rfl) h4 (el_lst (ea_cons (k _ (by decide) rfl x4) (ea_cons (k _ (by decide) rfl x4) (ea_cons (k _ (by decide) rfl x4) ea_nil))) (by show 3 ≤ 100000; decide)) (by show 15 ≤ 100000; decide)) fun p5 H5 _ y5 h5 => ?_
    have x5 := x4.trans y5
    refine q_asgL (el_catV (ev_var rfl) h5 (el_lst (ea_cons (k _ (by decide) rfl x5) (ea_cons (k _ (by decide) rfl x5) (ea_cons (k _ (by decide) rfl x5) ea_nil))) (by show 3 ≤ 100000; decide)) (by show 18 ≤ 100000; decide)) fun p6 H6 _ y6 h6 => ?_
    have x6 := x5.trans y6
    refine q_asgL (el_catV (ev_var rfl) h6 (el_lst (ea_cons (k _ (by decide) rfl x6) (ea_cons (k _ (by decide) rfl x6) (ea_cons (k _ (by decide) rfl x6) ea_nil))) (by show 3 ≤ 100000; decide)) (by show 21 ≤ 100000; decide)) fun p7 H7 hp7 y7 h7 => ?_
    exact s_ret (ev_var rfl) fun H8 x8 => q p7 H8 (fresh_back x6 hp7) ((x6.trans y7).trans x8) (x8 _ _ h7)
end
end N3

set_option maxHeartbeats 4000000
namespace N3
open PySem PySem.Spec PyProof.Rows L2 Evl
/-- the errors of a batch, and what each one keeps -/
def due (n : Int) (t : V) : List (Str × List (Str × V)) := [("NoDescriptor", []), ("NoForm", [("at", .int n), ("why", .str "w")]), ("NoWorld", [("name", .str "n"), ("loader", t)]), ("NotDefined", [("cls", t)]), ("NoLoader", [("loader", t)]), ("NoEntry", [("entry", t)]), ("NotFound", [("word", .str "w"), ("name", .str "n")]), ("NoMethod", []), ("NotRight", [("word", .str "w"), ("index", .int n)]), ("NoCode", []), ("NoFrames", [("word", .str "w"), ("index", .int n)]), ("NoBytes", []), ("NoClass", [("why", .str "w"), ("at", .int n)]), ("NoText", []), ("NoFile", []), ("NoWriting", [("method", t), ("why", .str "w")]), ("NoMember", [("member", t)]), ("NoReference", [("reference", t)]), ("NoType", [("name", .str "n")]), ("NoRow", [("row", t)]), ("NoCall", [("why", .str "w")])]
/-- the fields that are read -/
def readsL : List (Str × Str) := [("NoForm", "at"), ("NoForm", "why"), ("NoWorld", "loader"), ("NoWorld", "name"), ("NotDefined", "cls"), ("NoLoader", "loader"), ("NoEntry", "entry"), ("NotFound", "name"), ("NotFound", "word"), ("NotRight", "index"), ("NotRight", "word"), ("NoFrames", "index"), ("NoFrames", "word"), ("NoClass", "at"), ("NoClass", "why"), ("NoWriting", "method"), ("NoWriting", "why"), ("NoMember", "member"), ("NoReference", "reference"), ("NoType", "name"), ("NoRow", "row"), ("NoCall", "why")]
/-! ### data -/
theorem shaped_of {d : PyData} (h1 : d.canLay0 = true) (h2 : d.depth ≤ 64) : SeqAt.shaped d = true := by
  show (d.canLay0 && decide (d.depth ≤ 64)) = true
  rw [h1, decide_eq_true h2]; rfl
section
variable {K : PySem.W.Frag} {σ : L2.St} {H H' : Hp} {te tb tc : TE} {ta tr : TA} {D : Ends} {tz tu : TS} {Q : VK} {v x y : V}
mutual
theorem dp_ex {H H' : Hp} (e : Ex H H') : ∀ (d : PyData) (v : V), Dp K H v d → Dp K H' v d
  | .none, _, h => by cases h; exact .non
  | .bool b, _, h => by cases h; exact .bl b
  | .int i, _, h => by cases h; exact .int i
  | .str x, _, h => by cases h; exact .str x
  | .list ds, _, h => by
    cases h with
    | lst hs ha => exact .lst (ex_l e hs) (dp_exAll e ds _ ha)
  | .tuple ds, _, h => by
    cases h with
    | tup hs ha => exact .tup (ex_t e hs) (dp_exAll e ds _ ha)
  | .dict _, _, h => by cases h
theorem dp_exAll {H H' : Hp} (e : Ex H H') : ∀ (ds : List PyData) (vs : List V), DpAll K H vs ds → DpAll K H' vs ds
  | [], _, h => by cases h; exact .nil
  | d :: ds, _, h => by
    cases h with
    | cons h1 h2 => exact .cons (dp_ex e d _ h1) (dp_exAll e ds _ h2)
end
theorem bl_iff {p q : Prop} [Decidable p] [Decidable q] (h : p ↔ q) : V.bl (decide p) = V.bl (decide q) := congrArg V.bl (decide_eq_decide.mpr h)
theorem rv_is {r : R2} {z u : V} (h : RV r x y H z) (e : z = u) : RV r x y H u := e ▸ h
theorem rv_eqI {a b : Int} : RV rEq (.int a) (.int b) H (.bl (decide (a = b))) := rv_is (rv_eq rfl) (bl_iff ⟨fun e => V.int.inj e, fun e => by rw [e]⟩)
theorem et_yes : EvT tYes σ H true := fun H1 e Q q => q H1 (Ex.refl H1)
/-- v is equal to itself -/
def SameV (K : PySem.W.Frag) (H : Hp) (v : V) : Prop := ∃ d, Dp K H v d ∧ SeqAt.shaped d = true ∧ PyData.eqv d d = true
theorem SameV.ex (h : SameV K H v) (e : Ex H H') : SameV K H' v := by
  obtain ⟨d, h1, h2, h3⟩ := h
  exact ⟨d, dp_ex e _ _ h1, h2, h3⟩
theorem same_int (n : Int) : SameV K H (.int n) := ⟨.int n, .int n, shaped_of (by simp [PyData.canLay0]) (by simp [PyData.depth]), by simp [PyData.eqv]⟩
theorem same_str {z : Str} (h : (PyData.str z).canLay0 = true) : SameV K H (.str z) := ⟨.str z, .str z, shaped_of h (by simp [PyData.depth]), by simp [PyData.eqv]⟩
/-- a list of bools as data -/
def dB (bs : List Bool) : PyData := .list (bs.map .bool)
theorem dBs_dp : ∀ bs : List Bool, DpAll K H (bs.map V.bl) (bs.map .bool)
  | [] => .nil
  | b :: bs => .cons (.bl b) (dBs_dp bs)
theorem dB_dp {p : Addr} {bs : List Bool} (h : SqL K H p (bs.map V.bl)) : Dp K H (.ref p) (dB bs) := .lst h (dBs_dp bs)
theorem dBs_lay : ∀ bs : List Bool, PyData.canLayAll0 (bs.map .bool) = true
  | [] => rfl
  | b :: bs => by
    have e := dBs_lay bs
    simp only [List.map_cons, PyData.canLayAll0, e, PyData.canLay0]
    rfl
theorem dBs_depth : ∀ bs : List Bool, PyData.depthAll (bs.map .bool) ≤ 1
  | [] => by simp [PyData.depthAll]
  | b :: bs => by
    have e := dBs_depth bs
    have e2 : PyData.depth (.bool b) ≤ 1 := by simp [PyData.depth]
    simp only [List.map_cons, PyData.depthAll]
    omega
theorem dB_shaped (bs : List Bool) : SeqAt.shaped (dB bs) = true := shaped_of (by simp only [dB, PyData.canLay0]; exact dBs_lay bs) (by
  have e := dBs_depth bs
  simp only [dB, PyData.depth]
  omega)
theorem dBs_eqv : ∀ bs : List Bool, PyData.eqvAll (bs.map .bool) (bs.map .bool) = true
  | [] => rfl
  | b :: bs => by
    have e := dBs_eqv bs
    simp only [List.map_cons, PyData.eqvAll, e, PyData.eqv]
    cases b <;> rfl
theorem dB_eqv (bs : List Bool) : PyData.eqv (dB bs) (dB bs) = true := by
  simp only [dB, PyData.eqv]
  exact dBs_eqv bs
/-! ### a batch, and pairs of what it keeps -/
/-- the batch at p -/
structure BS (K : PySem.W.Frag) (H : Hp) (p : Addr) (n : Int) (t : V) : Prop where
  at_ : ∃ as, H p = some (.lst as) ∧ AllX K H as (due n t)
  thing : SameV K H t
theorem BS.ex {p : Addr} {n : Int} (h : BS K H p n v) (e : Ex H H') : BS K H' p n v := by
  obtain ⟨as, h1, h2⟩ := h.at_
  exact ⟨⟨as, e _ _ h1, h2.ex e⟩, h.thing.ex e⟩
theorem BS.num {p : Addr} {n : Int} (h : BS K H p n v) : SameV K H (.int n) := same_int n
def PairOk (K : PySem.W.Frag) (H : Hp) (x : V) : Prop := ∃ t v, x = .ref t ∧ H t = some (.tup [v, v]) ∧ SameV K H v
theorem PairOk.ex (h : PairOk K H x) (e : Ex H H') : PairOk K H' x := by
  obtain ⟨t, v, h1, h2, h3⟩ := h
  exact ⟨t, v, h1, e _ _ h2, h3.ex e⟩
def EvP (K : PySem.W.Frag) (te : TE) (σ : L2.St) (H : Hp) : Prop := ∀ H1, Ex H H1 → ∀ Q : VK, (∀ x H2, Ex H1 H2 → PairOk K H2 x → Q x H2) → te σ H1 Q
def EvAP (K : PySem.W.Frag) (ta : TA) (σ : L2.St) (H : Hp) (m : Nat) : Prop := ∀ H1, Ex H H1 → ∀ Q : List V → Hp → Prop, (∀ xs H2, Ex H1 H2 → xs.length = m → (∀ x ∈ xs, PairOk K H2 x) → Q xs H2) → ta σ H1 Q
theorem eap_nil : EvAP K tNil σ H 0 := fun H1 e Q q => q [] H1 (Ex.refl H1) rfl fun x hx => by cases hx
theorem eap_cons {m : Nat} (h : EvP K te σ H) (hr : EvAP K tr σ H m) : EvAP K (tCons te tr) σ H (m + 1) := fun H1 e Q q =>
  h H1 e _ fun x H2 e2 hx => hr H2 (e.trans e2) _ fun xs H3 e3 hl hA => q (x :: xs) H3 (e2.trans e3) (congrArg Nat.succ hl) fun y hy => by
    rcases List.mem_cons.mp hy with r | r
    · rw [r]; exact hx.ex e3
    · exact hA y r
theorem ep {p : Addr} {n : Int} {t : V} {i : Nat} {x : Str} {fs : List (Str × V)} {f : Str} {ii : Int} (kf : Kf K) (hB : BS K H p n t) (h0 : σ[0]? = some (some (.ref p))) (hi : (due n t)[i]? = some (x, fs)) (hx : x ∈ errs) (no : PySem.W.findIn K (.ref (cl K x)) f = some none) (hl : fs.lookup f = some v)
    (hb : ∀ {H' : Hp}, Ev tb σ H' v) (sv : SameV K H v) (hii : ii = (i : Int) := by rfl) : EvP K (tTup (tCons (tXa K f (tOp (rIxL K) (tVar 0) (tC (.int ii)))) (tCons tb tNil))) σ H := by
  subst hii
  intro H1 e Q q
  obtain ⟨as, h1, h2⟩ := hB.at_
  obtain ⟨a, ha, hX⟩ := h2.get hi
  have hat : atI as (i : Int) = some (.ref a) := by
    have hlt : i < as.length := (List.getElem?_eq_some_iff.mp ha).1
    unfold atI
    rw [ixN_nat hlt]
    exact ha
  refine ev_op (ev_var h0) ev_c (rv_ixL (sq_of h1) hat) H1 e _ fun H2 e2 => ?_
  refine ⟨a, cl K x, fs, v, rfl, hX.ex (e.trans e2), kf.t x hx, no, hl, ?_⟩
  refine hb (H' := H2) H2 (Ex.refl H2) _ fun H3 e3 => ⟨by show 2 ≤ sizeLine; decide, fun r hr => ?_⟩
  exact q (.ref r) _ ((e2.trans e3).trans (Ex.new hr)) ⟨r, v, rfl, upd_same, sv.ex (((e.trans e2).trans e3).trans (Ex.new hr))⟩
theorem q_asgP {i m : Nat} (h : EvAP K ta σ H m) (hl : m ≤ 1000) (k : ∀ p xs H1, Ex H H1 → H1 p = some (.lst xs) → xs.length = m → (∀ x ∈ xs, PairOk K H1 x) → tz D (σ.set i (some (.ref p))) H1) : tSeq (tAsg (tLst ta) (gName i)) tz D σ H :=
  h H (Ex.refl H) _ fun xs H1 e hn hA => ⟨sz_of (by omega), fun p hp => k p xs _ (e.trans (Ex.new hp)) upd_same hn fun x hx => (hA x hx).ex (Ex.new hp)⟩
theorem q_catP {i m m0 : Nat} {p0 : Addr} {xs0 : List V} (hv : σ[i]? = some (some (.ref p0))) (hp0 : H p0 = some (.lst xs0)) (hl0 : xs0.length = m0) (hA0 : ∀ x ∈ xs0, PairOk K H x) (h : EvAP K ta σ H m) (hl : m0 + m ≤ 1000)
    (k : ∀ p xs H1, Ex H H1 → H1 p = some (.lst xs) → xs.length = m0 + m → (∀ x ∈ xs, PairOk K H1 x) → tz D (σ.set i (some (.ref p))) H1) : tSeq (tAsg (tOp rCat (tVar i) (tLst ta)) (gName i)) tz D σ H :=
  ⟨.ref p0, hv, h H (Ex.refl H) _ fun xs H1 e hn hA => ⟨sz_of (by omega), fun q hq => ⟨p0, q, xs0, xs, rfl, rfl, (e.trans (Ex.new hq)) _ _ hp0, upd_same, sz_of (by omega), fun p hp =>
    k p (xs0 ++ xs) _ ((e.trans (Ex.new hq)).trans (Ex.new hp)) upd_same (by rw [List.length_append]; omega) fun x hx => by
      rcases List.mem_append.mp hx with r | r
      · exact (hA0 x r).ex ((e.trans (Ex.new hq)).trans (Ex.new hp))
      · exact (hA x r).ex ((Ex.new hq).trans (Ex.new hp))⟩⟩⟩
/-- for i, x in enumerate(xs) -/
theorem for_enumX {a : Addr} {xs : List V} {g : TG} (Pv : Nat → L2.St → Hp → Prop) (h0 : Pv 0 σ H) (hl : ∀ i σ H, Pv i σ H → SqL K H a xs)
    (hs : ∀ i x σ H T, xs[i]? = some x → Pv i σ H → H T = none → g (.ref T) σ (upd H T (.tup [.int (i : Nat), x])) fun σ2 H2 => tu { D with nx := Pv (i + 1), ct := Pv (i + 1), bk := D.nx } σ2 H2) (hd : ∀ σ H, Pv xs.length σ H → D.nx σ H) :
    ∃ W : Nat → Nat → L2.St → Hp → Prop, (∃ m, W 0 m σ H) ∧ ∀ i m σ H, W i m σ H → ((Ite K a).stop i H ∧ D.nx σ H) ∨ ((Ite K a).go i H ∧ ∃ N : L2.St → Hp → Prop, (∀ σ' H', N σ' H' → ∃ m', m' < m ∧ W (i + 1) m' σ' H') ∧ ∀ x H', (Ite K a).yld i H x H' → g x σ H' fun σ2 H2 => tu { D with nx := N, ct := N, bk := D.nx } σ2 H2) := by
  refine ⟨fun i m σ H => m = xs.length - i ∧ i ≤ xs.length ∧ Pv i σ H, ⟨_, rfl, Nat.zero_le _, h0⟩, fun i m σ H hW => ?_⟩
  obtain ⟨em, hi, p⟩ := hW
  have q := hl i σ H p
  by_cases hlt : i < xs.length
  · refine .inr ⟨⟨xs, xs[i], q, List.getElem?_eq_getElem hlt⟩, Pv (i + 1), fun σ' H' p' => ⟨xs.length - (i + 1), by omega, rfl, hlt, p'⟩, fun v H' y => ?_⟩
    obtain ⟨T, x, e1, e2, e3, e4⟩ := y
    subst e1 e3
    exact hs i x σ H T (e4 xs q) p e2
  · obtain rfl : i = xs.length := by omega
    exact .inl ⟨⟨xs, q, Nat.le_refl _⟩, hd σ H p⟩
end
theorem kinds_at : ∀ k : Nat, k < 21 → ∀ x : Str, errs[k]? = some x → kindsL x = (List.range 21).map fun (o : Nat) => decide ((o : Int) = (k : Int)) := by
  have key : ∀ k < 21, kindsL (errs.getD k Str.empty) = (List.range 21).map fun (o : Nat) => decide ((o : Int) = (k : Int)) := by decide +kernel
  intro k hk x hx
  have e : errs.getD k Str.empty = x := by
    rw [List.getD_eq_getElem?_getD, hx]; rfl
  rw [← e]
  exact key k hk
theorem due_at {n : Int} {t : V} {i : Nat} {x : Str} {fs : List (Str × V)} (h : (due n t)[i]? = some (x, fs)) : i < 21 ∧ errs[i]? = some x := by
  have e : (due n t).map (·.1) = errs := rfl
  refine ⟨(List.getElem?_eq_some_iff.mp h).1, ?_⟩
  rw [← e, List.getElem?_map, h]; rfl
theorem due_len {n : Int} {t : V} : (due n t).length = 21 := rfl
def spBatch (K : PySem.W.Frag) : Sp := fun vs H Q _ => ∃ (p : Addr) (n : Int) (t : V), vs = [.ref p, .int n, t] ∧ BS K H p n t ∧ ∀ H', Ex H H' → Q (.bl true) H'
theorem given_none (v : Nat → V) : ∀ n, given n (fun _ => false) v = []
  | 0 => rfl
  | n + 1 => by rw [given_no rfl, given_none v n]
section
variable {P : Program} {w : World} {K : PySem.W.Frag} {mg : Str → Option Value} {base : Heap}
theorem ok_batch {f : Addr} {fd : FuncData} (F : FnP K "_law_batch_right" sLawBatchRight f fd) (B : Bt mg) (kf : Kf K) (kn : ∀ q ∈ readsL, PySem.W.findIn K (.ref (cl K q.1)) q.2 = some none) (G : ∀ x : Str, x ∈ ("TypegateError" : Str) :: errs → mg x = some (.ref (cl K x)))
    (c_law_kinds : Cl P w K mg base L2.CX0 1 "_law_kinds" ["err"] (spKinds K)) : FnOk P w K mg base L2.CX0 2 f fd ["batch", "number", "thing"] (spBatch K) := by
  refine F.ok scLawBatchRight (fun vs H Q E h => ?_) (fun cdv A outer s H vs Q E hr h => ?_)
  · obtain ⟨p, n, t, rfl, _⟩ := h
    rfl
  · obtain ⟨p, n, t, rfl, hB, q⟩ := h
    refine ⟨_, PSs.nox (pss_cons (ps_for PassesOwn.never rfl (pi_enum (by rfl) B.enumerate (pa_cons (pv 0) pa_nil)) (pg_tup rfl (pgs_cons (pg_name (i := 3) scLawBatchRight.nd rfl (.inr rfl)) (pgs_cons (pg_name (i := 4) scLawBatchRight.nd rfl (.inl rfl)) pgs_nil))) (pss_cons (ps_if (PW.pt (pw_or (pt_not (pt_val (pe_callB call_isX (by rfl) B.isi (by decide +kernel) (pa_cons (pv 4) (pa_cons (pe_glob (v := .ref (cl K "TypegateError")) (by rfl) (G "TypegateError" (by decide)) rfl) pa_nil))))) (pw_or1 (pt_not (pt_val (pe_callB call_isX (by rfl) B.isi (by decide +kernel) (pa_cons (pv 4) (pa_cons (pe_bltn (v := .ty "ValueError") (by rfl) B.ValueError (by decide +kernel) rfl) pa_nil)))))))) (pss_one (ps_ret pe_bl)) pss_nil)
      (pss_one (ps_if (pt_cmpR (op_neD hr.units) (pe_cl c_law_kinds hr (by decide) (by rfl) (pa_cons (pv 4) pa_nil)) (pe_lc (own := [("other", 6)]) (g := gName 6) (tt := tYes) rfl scLawBatchRight.nd (pi_range1 (by rfl) B.range (pa_cons pe_int pa_nil)) (blkOk_by (N := ["batch", "number", "thing", "k", "err", "pairs", "other", "pair"]) (sc := L2.defScope sLawBatchRight) (by decide +kernel)) (fun _ _ _ _ _ => pg_name (i := 6) scLawBatchRight.nd rfl (Or.inl rfl)) (fun _ _ _ _ _ => pts_nil) (fun _ _ _ _ _ => (pe_cmpR op_eq (pv 6) (pv 3) (nomark _)))) (nomark _)) (pss_one (ps_ret pe_bl)) pss_nil))))
      (pss_cons (ps_set (i := 5) scLawBatchRight.nd rfl (.inl rfl) (pe_lst (pa_cons (pe_tup (pa_cons (pe_xa (pe_ix ix_list (pv 0) pe_int (fun _ _ => rfl))) (pa_cons pe_str pa_nil))) (pa_cons (pe_tup (pa_cons (pe_xa (pe_ix ix_list (pv 0) pe_int (fun _ _ => rfl))) (pa_cons (pv 1) pa_nil))) pa_nil))))
      (pss_cons (ps_set (i := 5) scLawBatchRight.nd rfl (.inl rfl) (pe_op op_cat (pv 5) (pe_lst (pa_cons (pe_tup (pa_cons (pe_xa (pe_ix ix_list (pv 0) pe_int (fun _ _ => rfl))) (pa_cons (pv 2) pa_nil))) (pa_cons (pe_tup (pa_cons (pe_xa (pe_ix ix_list (pv 0) pe_int (fun _ _ => rfl))) (pa_cons pe_str pa_nil))) pa_nil)))))
      (pss_cons (ps_set (i := 5) scLawBatchRight.nd rfl (.inl rfl) (pe_op op_cat (pv 5) (pe_lst (pa_cons (pe_tup (pa_cons (pe_xa (pe_ix ix_list (pv 0) pe_int (fun _ _ => rfl))) (pa_cons (pv 2) pa_nil))) (pa_cons (pe_tup (pa_cons (pe_xa (pe_ix ix_list (pv 0) pe_int (fun _ _ => rfl))) (pa_cons (pv 2) pa_nil))) pa_nil)))))
      (pss_cons (ps_set (i := 5) scLawBatchRight.nd rfl (.inl rfl) (pe_op op_cat (pv 5) (pe_lst (pa_cons (pe_tup (pa_cons (pe_xa (pe_ix ix_list (pv 0) pe_int (fun _ _ => rfl))) (pa_cons (pv 2) pa_nil))) (pa_cons (pe_tup (pa_cons (pe_xa (pe_ix ix_list (pv 0) pe_int (fun _ _ => rfl))) (pa_cons pe_str pa_nil))) pa_nil)))))
      (pss_cons (ps_set (i := 5) scLawBatchRight.nd rfl (.inl rfl) (pe_op op_cat (pv 5) (pe_lst (pa_cons (pe_tup (pa_cons (pe_xa (pe_ix ix_list (pv 0) pe_int (fun _ _ => rfl))) (pa_cons pe_str pa_nil))) (pa_cons (pe_tup (pa_cons (pe_xa (pe_ix ix_list (pv 0) pe_int (fun _ _ => rfl))) (pa_cons (pv 1) pa_nil))) pa_nil)))))
      (pss_cons (ps_set (i := 5) scLawBatchRight.nd rfl (.inl rfl) (pe_op op_cat (pv 5) (pe_lst (pa_cons (pe_tup (pa_cons (pe_xa (pe_ix ix_list (pv 0) pe_int (fun _ _ => rfl))) (pa_cons pe_str pa_nil))) (pa_cons (pe_tup (pa_cons (pe_xa (pe_ix ix_list (pv 0) pe_int (fun _ _ => rfl))) (pa_cons (pv 1) pa_nil))) pa_nil)))))
      (pss_cons (ps_set (i := 5) scLawBatchRight.nd rfl (.inl rfl) (pe_op op_cat (pv 5) (pe_lst (pa_cons (pe_tup (pa_cons (pe_xa (pe_ix ix_list (pv 0) pe_int (fun _ _ => rfl))) (pa_cons pe_str pa_nil))) (pa_cons (pe_tup (pa_cons (pe_xa (pe_ix ix_list (pv 0) pe_int (fun _ _ => rfl))) (pa_cons (pv 1) pa_nil))) pa_nil)))))
      (pss_cons (ps_set (i := 5) scLawBatchRight.nd rfl (.inl rfl) (pe_op op_cat (pv 5) (pe_lst (pa_cons (pe_tup (pa_cons (pe_xa (pe_ix ix_list (pv 0) pe_int (fun _ _ => rfl))) (pa_cons pe_str pa_nil))) (pa_cons (pe_tup (pa_cons (pe_xa (pe_ix ix_list (pv 0) pe_int (fun _ _ => rfl))) (pa_cons pe_str pa_nil))) pa_nil)))))
      (pss_cons (ps_set (i := 5) scLawBatchRight.nd rfl (.inl rfl) (pe_op op_cat (pv 5) (pe_lst (pa_cons (pe_tup (pa_cons (pe_xa (pe_ix ix_list (pv 0) pe_int (fun _ _ => rfl))) (pa_cons (pv 2) pa_nil))) (pa_cons (pe_tup (pa_cons (pe_xa (pe_ix ix_list (pv 0) pe_int (fun _ _ => rfl))) (pa_cons (pv 2) pa_nil))) pa_nil)))))
      (pss_cons (ps_set (i := 5) scLawBatchRight.nd rfl (.inl rfl) (pe_op op_cat (pv 5) (pe_lst (pa_cons (pe_tup (pa_cons (pe_xa (pe_ix ix_list (pv 0) pe_int (fun _ _ => rfl))) (pa_cons (pv 2) pa_nil))) pa_nil))))
      (pss_cons (ps_set (i := 5) scLawBatchRight.nd rfl (.inl rfl) (pe_op op_cat (pv 5) (pe_lst (pa_cons (pe_tup (pa_cons (pe_xa (pe_ix ix_list (pv 0) pe_int (fun _ _ => rfl))) (pa_cons pe_str pa_nil))) (pa_cons (pe_tup (pa_cons (pe_xa (pe_ix ix_list (pv 0) pe_int (fun _ _ => rfl))) (pa_cons (pv 2) pa_nil))) pa_nil)))))
      (pss_cons (ps_set (i := 5) scLawBatchRight.nd rfl (.inl rfl) (pe_op op_cat (pv 5) (pe_lst (pa_cons (pe_tup (pa_cons (pe_xa (pe_ix ix_list (pv 0) pe_int (fun _ _ => rfl))) (pa_cons pe_str pa_nil))) pa_nil))))
      (pss_cons (ps_if (pt_cmpR (op_neD hr.units) (pe_lc (own := [("pair", 7)]) (g := gName 7) rfl scLawBatchRight.nd (pi_list (pv 5)) (blkOk_by (N := ["batch", "number", "thing", "k", "err", "pairs", "other", "pair"]) (sc := L2.defScope sLawBatchRight) (by decide +kernel)) (fun _ _ _ _ _ => pg_name (i := 7) scLawBatchRight.nd rfl (Or.inl rfl)) (fun _ _ _ _ _ => (pts_one (pt_cmpR (r := rNeD K) (op_neD hr.units) (pe_ix (r := rIxT K) ix_tup (pv 7) pe_int (fun _ _ => rfl)) (pe_ix (r := rIxT K) ix_tup (pv 7) pe_int (fun _ _ => rfl)) (nomark _)))) (fun _ _ _ _ _ => (pv 7))) (pe_lst pa_nil) (nomark _)) (pss_one (ps_ret pe_bl)) pss_nil)
      (pss_one (ps_ret pe_bl)))))))))))))))), ?_⟩
    obtain ⟨as, hp, hA⟩ := hB.at_
    refine ⟨.ref p, rfl, p, as, rfl, sq_of hp, ?_⟩
    refine for_enumX (xs := as) (fun i σ' H' => Ex H H' ∧ ∃ v3 v4 v5 v6 v7, σ' = [some (.ref p), some (.int n), some t, v3, v4, v5, v6, v7]) ⟨Ex.refl H, none, none, none, none, none, rfl⟩ (fun i σ' H' hP => ex_l hP.1 (sq_of hp)) (fun i x σ' H' T hx hP hT => ?_) (fun σ' H' hP => ?_)
    · obtain ⟨e, v3, v4, v5, v6, v7, rfl⟩ := hP
      obtain ⟨c, hc⟩ : ∃ c, (due n t)[i]? = some c := by
        have h1 := (List.getElem?_eq_some_iff.mp hx).1
        rw [hA.len] at h1
        exact ⟨_, List.getElem?_eq_getElem h1⟩
      obtain ⟨cx, fs⟩ := c
      obtain ⟨a, ha, hX⟩ := hA.get hc
      obtain rfl : x = .ref a := Option.some.inj (hx.symm.trans ha)
      obtain ⟨hi, hcx⟩ := due_at hc
      have hm : cx ∈ errs := List.mem_of_getElem? hcx
      have e1 : Ex H' (upd H' T (.tup [.int (i : Nat), .ref a])) := Ex.new hT
      refine ⟨T, _, rfl, st_of upd_same, rfl, .int (i : Nat), [.ref a], rfl, .ref a, [], rfl, rfl, ?_⟩
      have eA := e.trans e1
      refine q_when (b := false) (et_is (et_or (a := false) (b := false) (et_is (et_not (et_test (ev_isX (ev_var rfl) (hX.ex eA) (kf.t cx hm) (kf.kT cx hm)))) rfl) fun _ => et_is (et_not (et_test (ev_isXT (ev_var rfl) (hX.ex eA) (kf.t cx hm) (kf.kV cx hm)))) rfl) rfl) (fun e => by cases e) fun _ H2 x2 => ?_
      refine s_when (b := false) ?_ (fun e => by cases e) fun _ H3 x3 => ⟨(eA.trans x2).trans x3, _, _, _, _, _, rfl⟩
      intro H3 x3 Q' q'
      refine ⟨.ref a, rfl, a, cx, fs, rfl, hm, hX.ex ((eA.trans x2).trans x3), fun r H4 hr x4 h4 => ?_⟩
      refine el_lcR1 (n := 21) (fun _ => true) (fun o => .bl (decide ((o : Int) = (i : Int)))) (ea_cons ev_c ea_nil) (by decide) (fun x => rfl) (fun o H5 x5 ho => et_yes) (fun o H5 x5 ho _ => ev_op (ev_var rfl) (ev_var rfl) rv_eqI) H4 (Ex.refl H4) _ fun r2 H5 hr2 x5 h5 => ?_
      have eg : given (21 : Int).toNat (fun _ => true) (fun o => V.bl (decide ((o : Int) = (i : Int)))) = (kindsL cx).map V.bl := by
        rw [kinds_at i hi cx hcx, List.map_map]
        rfl
      rw [eg] at h5
      refine ⟨dB (kindsL cx), dB (kindsL cx), dB_dp (sq_of (x5 _ _ h4)), dB_dp (sq_of h5), dB_shaped _, dB_shaped _, ?_⟩
      rw [dB_eqv]
      exact ⟨false, rfl, q' H5 (x4.trans x5)⟩
    obtain ⟨e0, v3, v4, v5, v6, v7, rfl⟩ := hP
    have hB0 : BS K H' p n t := hB.ex e0
    have x0 : Ex H' H' := Ex.refl H'
    refine q_asgP (eap_cons (ep (i := 1) (x := "NoForm") kf (hB0) rfl rfl (by decide) (kn ("NoForm", "why") (by decide)) rfl ev_c ((same_str (by decide +kernel)))) (eap_cons (ep (i := 1) (x := "NoForm") kf (hB0) rfl rfl (by decide) (kn ("NoForm", "at") (by decide)) rfl (ev_var rfl) ((hB0).num)) eap_nil)) (by decide) fun p1 xs1 H1 x1 h1 l1 o1 => ?_
    refine q_catP (m0 := 2) rfl h1 l1 o1 (eap_cons (ep (i := 2) (x := "NoWorld") kf (hB0.ex x1) rfl rfl (by decide) (kn ("NoWorld", "loader") (by decide)) rfl (ev_var rfl) ((hB0.ex x1).thing)) (eap_cons (ep (i := 2) (x := "NoWorld") kf (hB0.ex x1) rfl rfl (by decide) (kn ("NoWorld", "name") (by decide)) rfl ev_c ((same_str (by decide +kernel)))) eap_nil)) (by decide) fun p2 xs2 H2 y2 h2 l2 o2 => ?_
    have x2 := x1.trans y2
    refine q_catP (m0 := 4) rfl h2 l2 o2 (eap_cons (ep (i := 3) (x := "NotDefined") kf (hB0.ex x2) rfl rfl (by decide) (kn ("NotDefined", "cls") (by decide)) rfl (ev_var rfl) ((hB0.ex x2).thing)) (eap_cons (ep (i := 4) (x := "NoLoader") kf (hB0.ex x2) rfl rfl (by decide) (kn ("NoLoader", "loader") (by decide)) rfl (ev_var rfl) ((hB0.ex x2).thing)) eap_nil)) (by decide) fun p3 xs3 H3 y3 h3 l3 o3 => ?_
    have x3 := x2.trans y3
    refine q_catP (m0 := 6) rfl h3 l3 o3 (eap_cons (ep (i := 5) (x := "NoEntry") kf (hB0.ex x3) rfl rfl (by decide) (kn ("NoEntry", "entry") (by decide)) rfl (ev_var rfl) ((hB0.ex x3).thing)) (eap_cons (ep (i := 6) (x := "NotFound") kf (hB0.ex x3) rfl rfl (by decide) (kn ("NotFound", "name") (by decide)) rfl ev_c ((same_str (by decide +kernel)))) eap_nil)) (by decide) fun p4 xs4 H4 y4 h4 l4 o4 => ?_
    have x4 := x3.trans y4
    refine q_catP (m0 := 8) rfl h4 l4 o4 (eap_cons (ep (i := 6) (x := "NotFound") kf (hB0.ex x4) rfl rfl (by decide) (kn ("NotFound", "word") (by decide)) rfl ev_c ((same_str (by decide +kernel)))) (eap_cons (ep (i := 8) (x := "NotRight") kf (hB0.ex x4) rfl rfl (by decide) (kn ("NotRight", "index") (by decide)) rfl (ev_var rfl) ((hB0.ex x4).num)) eap_nil)) (by decide) fun p5 xs5 H5 y5 h5 l5 o5 => ?_
    have x5 := x4.trans y5
    refine q_catP (m0 := 10) rfl h5 l5 o5 (eap_cons (ep (i := 8) (x := "NotRight") kf (hB0.ex x5) rfl rfl (by decide) (kn ("NotRight", "word") (by decide)) rfl ev_c ((same_str (by decide +kernel)))) (eap_cons (ep (i := 10) (x := "NoFrames") kf (hB0.ex x5) rfl rfl (by decide) (kn ("NoFrames", "index") (by decide)) rfl (ev_var rfl) ((hB0.ex x5).num)) eap_nil)) (by decide) fun p6 xs6 H6 y6 h6 l6 o6 => ?_
    have x6 := x5.trans y6
    refine q_catP (m0 := 12) rfl h6 l6 o6 (eap_cons (ep (i := 10) (x := "NoFrames") kf (hB0.ex x6) rfl rfl (by decide) (kn ("NoFrames", "word") (by decide)) rfl ev_c ((same_str (by decide +kernel)))) (eap_cons (ep (i := 12) (x := "NoClass") kf (hB0.ex x6) rfl rfl (by decide) (kn ("NoClass", "at") (by decide)) rfl (ev_var rfl) ((hB0.ex x6).num)) eap_nil)) (by decide) fun p7 xs7 H7 y7 h7 l7 o7 => ?_
    have x7 := x6.trans y7
    refine q_catP (m0 := 14) rfl h7 l7 o7 (eap_cons (ep (i := 12) (x := "NoClass") kf (hB0.ex x7) rfl rfl (by decide) (kn ("NoClass", "why") (by decide)) rfl ev_c ((same_str (by decide +kernel)))) (eap_cons (ep (i := 15) (x := "NoWriting") kf (hB0.ex x7) rfl rfl (by decide) (kn ("NoWriting", "why") (by decide)) rfl ev_c ((same_str (by decide +kernel)))) eap_nil)) (by decide) fun p8 xs8 H8 y8 h8 l8 o8 => ?_
    have x8 := x7.trans y8
    refine q_catP (m0 := 16) rfl h8 l8 o8 (eap_cons (ep (i := 15) (x := "NoWriting") kf (hB0.ex x8) rfl rfl (by decide) (kn ("NoWriting", "method") (by decide)) rfl (ev_var rfl) ((hB0.ex x8).thing)) (eap_cons (ep (i := 16) (x := "NoMember") kf (hB0.ex x8) rfl rfl (by decide) (kn ("NoMember", "member") (by decide)) rfl (ev_var rfl) ((hB0.ex x8).thing)) eap_nil)) (by decide) fun p9 xs9 H9 y9 h9 l9 o9 => ?_
    have x9 := x8.trans y9
    refine q_catP (m0 := 18) rfl h9 l9 o9 (eap_cons (ep (i := 17) (x := "NoReference") kf (hB0.ex x9) rfl rfl (by decide) (kn ("NoReference", "reference") (by decide)) rfl (ev_var rfl) ((hB0.ex x9).thing)) eap_nil) (by decide) fun p10 xs10 H10 y10 h10 l10 o10 => ?_
    have x10 := x9.trans y10
    refine q_catP (m0 := 19) rfl h10 l10 o10 (eap_cons (ep (i := 18) (x := "NoType") kf (hB0.ex x10) rfl rfl (by decide) (kn ("NoType", "name") (by decide)) rfl ev_c ((same_str (by decide +kernel)))) (eap_cons (ep (i := 19) (x := "NoRow") kf (hB0.ex x10) rfl rfl (by decide) (kn ("NoRow", "row") (by decide)) rfl (ev_var rfl) ((hB0.ex x10).thing)) eap_nil)) (by decide) fun p11 xs11 H11 y11 h11 l11 o11 => ?_
    have x11 := x10.trans y11
    refine q_catP (m0 := 21) rfl h11 l11 o11 (eap_cons (ep (i := 20) (x := "NoCall") kf (hB0.ex x11) rfl rfl (by decide) (kn ("NoCall", "why") (by decide)) rfl ev_c ((same_str (by decide +kernel)))) eap_nil) (by decide) fun p12 xs12 H12 y12 h12 l12 o12 => ?_
    have x12 := x11.trans y12
    refine q_when (b := false) (et_test ?_) (fun e => by cases e) fun _ H9 x9 => ?_
    · refine ev_opLL (xs := []) (ys := []) (z := .bl false) ?_ (el_lst ea_nil (by decide)) ?_
      · have hc := fun (σ2 : L2.St) (te : TE) => el_lcL (K := K) (H := H12) (σ := σ2) (te := te) (t := tTest (tOp (rNeD K) (tOp (rIxT K) (tVar 7) (tC (.int 0))) (tOp (rIxT K) (tVar 7) (tC (.int 1))))) (tl := tVar 5) (a := p12) (j := 7) (vs := [7]) (xs := xs12) (fun _ => false) (fun _ => V.non)
        rw [given_none] at hc
        refine hc _ _ (ev_var rfl) (sq_of h12) (by rw [l12]; decide) (fun x => rfl) (fun i x H9 x9 hx => ?_) (fun i x H9 x9 hx hf => by cases hf)
        obtain ⟨r, v, rfl, hr, sv⟩ := (o12 x (List.mem_of_getElem? hx)).ex x9
        refine et_test fun H10 x10 Q' q' => ?_
        refine ev_op (ev_var rfl) ev_c (rv_ixT (st_of hr) (i := 0) (v := v) rfl) H10 x10 _ fun H11 x11 => ?_
        refine ev_op (ev_var rfl) ev_c (rv_ixT (st_of hr) (i := 1) (v := v) rfl) H11 (x10.trans x11) _ fun H12 x12 => ?_
        obtain ⟨d, d1, d2, d3⟩ := sv.ex ((x10.trans x11).trans x12)
        refine ⟨d, d, d1, d1, d2, d2, ?_⟩
        rw [d3]
        exact q' H12 (x11.trans x12)
      · intro r1 r2 H9 h9 g9 x9 H10 x10 Q' q'
        refine ⟨dB [], dB [], dB_dp (sq_of (x10 _ _ h9)), dB_dp (sq_of (x10 _ _ g9)), dB_shaped _, dB_shaped _, ?_⟩
        rw [dB_eqv]
        exact q' H10 (Ex.refl H10)
    exact s_ret ev_c fun H10 x10 => q H10 (((e0.trans x12).trans x9).trans x10)
end
end N3

set_option maxHeartbeats 4000000
namespace N3
open PySem PySem.Spec PyProof.Rows L2 Evl
section
variable {K : PySem.W.Frag} {σ : L2.St} {H H' : Hp} {te ta tb : TE} {t : TA} {r : R2} {v : V} {D : Ends} {tz tu : TS} {Q : VK}
theorem q_asgAny {i : Nat} (h : te σ H fun v H1 => tz D (σ.set i (some v)) H1) : tSeq (tAsg te (gName i)) tz D σ H := h
theorem rd_op (h : ta σ H fun x H1 => tb σ H1 fun y H2 => r x y H2 Q) : tOp r ta tb σ H Q := h
theorem rd_c (h : Q v H) : tC v σ H Q := h
theorem rd_lst (h : t σ H fun xs H1 => xs.length ≤ sizeLine ∧ ∀ p, H1 p = none → Q (.ref p) (upd H1 p (.lst xs))) : tLst t σ H Q := h
theorem rd_tup (h : t σ H fun xs H1 => xs.length ≤ sizeLine ∧ ∀ p, H1 p = none → Q (.ref p) (upd H1 p (.tup xs))) : tTup t σ H Q := h
theorem rd_cons {QL : List V → Hp → Prop} (h : te σ H fun x H1 => t σ H1 fun xs H2 => QL (x :: xs) H2) : tCons te t σ H QL := h
theorem rd_nil {QL : List V → Hp → Prop} (h : QL [] H) : tNil σ H QL := h
theorem rd_ev (h : Ev te σ H v) (k : ∀ H1, Ex H H1 → Q v H1) : te σ H Q := h H (Ex.refl H) Q k
theorem el_cat {xs ys : List V} (h : EvL ta σ H xs) (hb : EvL tb σ H ys) (hx : xs.length + ys.length ≤ 100000) : EvL (tOp rCat ta tb) σ H (xs ++ ys) := fun H1 e Q q =>
  h H1 e _ fun p H2 hp e2 h2 => hb H2 (e.trans e2) _ fun p3 H3 hp3 e3 h3 => ⟨p, p3, xs, ys, rfl, rfl, e3 _ _ h2, h3, sz_of hx, fun p2 hp2 => q p2 _ (fresh_back (e2.trans e3) hp2) ((e2.trans e3).trans (Ex.new hp2)) upd_same⟩
abbrev rInt1 : List V → Hp → VK → Prop := fun xs H Q => (∃ i, xs = [.int i] ∧ Q (.int i) H) ∨ ∃ k, xs = [.bl k] ∧ Q (.int (if k then 1 else 0)) H
theorem ev_intI {i : Int} (h : Ev te σ H (.int i)) : Ev (tCB rInt1 (tCons te tNil)) σ H (.int i) := fun H1 e Q q => h H1 e _ fun H2 e2 => .inl ⟨i, rfl, q H2 e2⟩
theorem rv_mod {i j : Int} (h : 0 < j) : RV (rI (fun _ j => 0 < j) fun i j => .int (i % j)) (.int i) (.int j) H (.int (i % j)) := rv_I h
/-- the thing of a cell -/
theorem thing_of {n : Int} {pt pl : Addr} (ht : H pt = some (.tup [.int 1, .int 2])) (hl : H pl = some (.lst [.int 3])) : ∃ t, atI [V.int n, V.non, V.int (-1), V.ref pt, V.str "x", V.ref pl] (n % 6) = some t ∧ SameV K H t := by
  obtain ⟨k, hk, e⟩ : ∃ k : Nat, k < 6 ∧ n % 6 = (k : Int) := ⟨(n % 6).toNat, by omega, by omega⟩
  rw [e]
  have h6 : atI [V.int n, V.non, V.int (-1), V.ref pt, V.str "x", V.ref pl] (k : Int) = [V.int n, V.non, V.int (-1), V.ref pt, V.str "x", V.ref pl][k]? := by
    unfold atI
    rw [show [V.int n, V.non, V.int (-1), V.ref pt, V.str "x", V.ref pl].length = 6 from rfl, ixN_nat hk]
    rfl
  rw [h6]
  match k, hk with
  | 0, _ => exact ⟨_, rfl, same_int n⟩
  | 1, _ => exact ⟨_, rfl, .none, .non, by decide, by simp [PyData.eqv]⟩
  | 2, _ => exact ⟨_, rfl, same_int (-1)⟩
  | 3, _ => exact ⟨_, rfl, .tuple [.int 1, .int 2], .tup (st_of ht) (.cons (.int 1) (.cons (.int 2) .nil)), by decide +kernel, by decide +kernel⟩
  | 4, _ => exact ⟨_, rfl, same_str (by decide +kernel)⟩
  | 5, _ => exact ⟨_, rfl, .list [.int 3], .lst (sq_of hl) (.cons (.int 3) .nil), by decide +kernel, by decide +kernel⟩
  | k + 6, h => exact absurd h (by omega)
end
def spLaw (K : PySem.W.Frag) : Sp := fun vs H Q _ => ∃ (a : Addr) (ns : List Int), vs = [.ref a] ∧ SqL K H a (ns.map V.int) ∧ ns.length ≤ 63 ∧ ∀ H', Q (.bl true) H'
section
variable {P : Program} {w : World} {K : PySem.W.Frag} {mg : Str → Option Value} {base : Heap}
theorem ok_law {f : Addr} {fd : FuncData} (F : FnP K "law" sLaw f fd) (B : Bt mg) (m_NoDescriptor : Mk0 K mg "NoDescriptor") (m_NoForm : MkO P w K mg base "NoForm" ["why", "at"]) (m_NoWorld : MkO P w K mg base "NoWorld" ["loader", "name"]) (m_NotDefined : MkO P w K mg base "NotDefined" ["cls"]) (m_NoLoader : MkO P w K mg base "NoLoader" ["loader"]) (m_NoEntry : MkO P w K mg base "NoEntry" ["entry"]) (m_NotFound : MkO P w K mg base "NotFound" ["name", "word"]) (m_NoMethod : Mk0 K mg "NoMethod") (m_NotRight : MkO P w K mg base "NotRight" ["index", "word"]) (m_NoCode : Mk0 K mg "NoCode") (m_NoFrames : MkO P w K mg base "NoFrames" ["index", "word"]) (m_NoBytes : Mk0 K mg "NoBytes") (m_NoClass : MkO P w K mg base "NoClass" ["at", "why"]) (m_NoText : Mk0 K mg "NoText") (m_NoFile : Mk0 K mg "NoFile") (m_NoWriting : MkO P w K mg base "NoWriting" ["why", "method"]) (m_NoMember : MkO P w K mg base "NoMember" ["member"]) (m_NoReference : MkO P w K mg base "NoReference" ["reference"]) (m_NoType : MkO P w K mg base "NoType" ["name"]) (m_NoRow : MkO P w K mg base "NoRow" ["row"]) (m_NoCall : MkO P w K mg base "NoCall" ["why"])
    (c_law_batch_right : Cl P w K mg base L2.CX0 2 "_law_batch_right" ["batch", "number", "thing"] (spBatch K)) : FnOk P w K mg base L2.CX0 3 f fd ["script"] (spLaw K) := by
  refine F.ok scLaw (fun vs H Q E h => ?_) (fun cdv A outer s H vs Q E hr h => ?_)
  · obtain ⟨a, ns, rfl, _⟩ := h
    rfl
  · obtain ⟨sc, ns, rfl, hS, hns, q⟩ := h
    refine ⟨_, PSs.nox (pss_cons (ps_for PassesOwn.never rfl (pi_list (pe_op op_cat (pe_slice sl_list (pv 0) po_none (po_some pe_int)) (pe_lst (pa_cons pe_int pa_nil)))) (pg_name (i := 1) scLaw.nd rfl (.inl rfl)) (pss_cons (ps_set (i := 2) scLaw.nd rfl (.inl rfl) (pe_op op_sub (pe_op op_mod (pe_callTy call_int1 (by rfl) B.int (by decide +kernel) (pa_cons (pv 1) pa_nil)) (pe_op op_add (pe_op op_mulW pe_int (pe_op op_pow pe_int pe_int)) pe_int)) (pe_op op_pow pe_int pe_int)))
      (pss_cons (ps_set (i := 3) scLaw.nd rfl (.inl rfl) (pe_ix ix_list (pe_lst (pa_cons (pv 2) (pa_cons pe_non (pa_cons (pe_un un_neg pe_int) (pa_cons (pe_tup (pa_cons pe_int (pa_cons pe_int pa_nil))) (pa_cons pe_str (pa_cons (pe_lst (pa_cons pe_int pa_nil)) pa_nil))))))) (pe_op op_mod (pe_callTy call_int1 (by rfl) B.int (by decide +kernel) (pa_cons (pv 2) pa_nil)) pe_int) (fun _ _ => rfl)))
      (pss_cons (ps_set (i := 4) scLaw.nd rfl (.inl rfl) (pe_lst (pa_cons (Mk0.pe m_NoDescriptor (by rfl)) (pa_cons (MkO.pe m_NoForm hr (by decide) (by rfl) (pa_cons pe_str (pa_cons (pv 2) pa_nil))) (pa_cons (MkO.pe m_NoWorld hr (by decide) (by rfl) (pa_cons (pv 3) (pa_cons pe_str pa_nil))) (pa_cons (MkO.pe m_NotDefined hr (by decide) (by rfl) (pa_cons (pv 3) pa_nil)) pa_nil))))))
      (pss_cons (ps_set (i := 4) scLaw.nd rfl (.inl rfl) (pe_op op_cat (pv 4) (pe_lst (pa_cons (MkO.pe m_NoLoader hr (by decide) (by rfl) (pa_cons (pv 3) pa_nil)) (pa_cons (MkO.pe m_NoEntry hr (by decide) (by rfl) (pa_cons (pv 3) pa_nil)) (pa_cons (MkO.pe m_NotFound hr (by decide) (by rfl) (pa_cons pe_str (pa_cons pe_str pa_nil))) (pa_cons (Mk0.pe m_NoMethod (by rfl)) (pa_cons (MkO.pe m_NotRight hr (by decide) (by rfl) (pa_cons (pv 2) (pa_cons pe_str pa_nil))) pa_nil))))))))
      (pss_cons (ps_set (i := 4) scLaw.nd rfl (.inl rfl) (pe_op op_cat (pv 4) (pe_lst (pa_cons (Mk0.pe m_NoCode (by rfl)) (pa_cons (MkO.pe m_NoFrames hr (by decide) (by rfl) (pa_cons (pv 2) (pa_cons pe_str pa_nil))) (pa_cons (Mk0.pe m_NoBytes (by rfl)) (pa_cons (MkO.pe m_NoClass hr (by decide) (by rfl) (pa_cons (pv 2) (pa_cons pe_str pa_nil))) (pa_cons (Mk0.pe m_NoText (by rfl)) (pa_cons (Mk0.pe m_NoFile (by rfl)) pa_nil)))))))))
      (pss_cons (ps_set (i := 4) scLaw.nd rfl (.inl rfl) (pe_op op_cat (pv 4) (pe_lst (pa_cons (MkO.pe m_NoWriting hr (by decide) (by rfl) (pa_cons pe_str (pa_cons (pv 3) pa_nil))) (pa_cons (MkO.pe m_NoMember hr (by decide) (by rfl) (pa_cons (pv 3) pa_nil)) (pa_cons (MkO.pe m_NoReference hr (by decide) (by rfl) (pa_cons (pv 3) pa_nil)) (pa_cons (MkO.pe m_NoType hr (by decide) (by rfl) (pa_cons pe_str pa_nil)) (pa_cons (MkO.pe m_NoRow hr (by decide) (by rfl) (pa_cons (pv 3) pa_nil)) pa_nil))))))))
      (pss_cons (ps_set (i := 4) scLaw.nd rfl (.inl rfl) (pe_op op_cat (pv 4) (pe_lst (pa_cons (MkO.pe m_NoCall hr (by decide) (by rfl) (pa_cons pe_str pa_nil)) pa_nil))))
      (pss_cons (ps_set (i := 5) scLaw.nd rfl (.inl rfl) (pe_lst (pa_cons (Mk0.pe m_NoDescriptor (by rfl)) (pa_cons (MkO.pk m_NoForm hr (by decide) (by rfl) (pk_cons (pv 2) (pk_cons pe_str pk_nil))) (pa_cons (MkO.pk m_NoWorld hr (by decide) (by rfl) (pk_cons pe_str (pk_cons (pv 3) pk_nil))) pa_nil)))))
      (pss_cons (ps_set (i := 5) scLaw.nd rfl (.inl rfl) (pe_op op_cat (pv 5) (pe_lst (pa_cons (MkO.pk m_NotDefined hr (by decide) (by rfl) (pk_cons (pv 3) pk_nil)) (pa_cons (MkO.pk m_NoLoader hr (by decide) (by rfl) (pk_cons (pv 3) pk_nil)) (pa_cons (MkO.pk m_NoEntry hr (by decide) (by rfl) (pk_cons (pv 3) pk_nil)) pa_nil))))))
      (pss_cons (ps_set (i := 5) scLaw.nd rfl (.inl rfl) (pe_op op_cat (pv 5) (pe_lst (pa_cons (MkO.pk m_NotFound hr (by decide) (by rfl) (pk_cons pe_str (pk_cons pe_str pk_nil))) (pa_cons (Mk0.pe m_NoMethod (by rfl)) (pa_cons (MkO.pk m_NotRight hr (by decide) (by rfl) (pk_cons pe_str (pk_cons (pv 2) pk_nil))) (pa_cons (Mk0.pe m_NoCode (by rfl)) pa_nil)))))))
      (pss_cons (ps_set (i := 5) scLaw.nd rfl (.inl rfl) (pe_op op_cat (pv 5) (pe_lst (pa_cons (MkO.pk m_NoFrames hr (by decide) (by rfl) (pk_cons pe_str (pk_cons (pv 2) pk_nil))) (pa_cons (Mk0.pe m_NoBytes (by rfl)) (pa_cons (MkO.pk m_NoClass hr (by decide) (by rfl) (pk_cons pe_str (pk_cons (pv 2) pk_nil))) (pa_cons (Mk0.pe m_NoText (by rfl)) pa_nil)))))))
      (pss_cons (ps_set (i := 5) scLaw.nd rfl (.inl rfl) (pe_op op_cat (pv 5) (pe_lst (pa_cons (Mk0.pe m_NoFile (by rfl)) (pa_cons (MkO.pk m_NoWriting hr (by decide) (by rfl) (pk_cons (pv 3) (pk_cons pe_str pk_nil))) (pa_cons (MkO.pk m_NoMember hr (by decide) (by rfl) (pk_cons (pv 3) pk_nil)) pa_nil))))))
      (pss_cons (ps_set (i := 5) scLaw.nd rfl (.inl rfl) (pe_op op_cat (pv 5) (pe_lst (pa_cons (MkO.pk m_NoReference hr (by decide) (by rfl) (pk_cons (pv 3) pk_nil)) (pa_cons (MkO.pk m_NoType hr (by decide) (by rfl) (pk_cons pe_str pk_nil)) (pa_cons (MkO.pk m_NoRow hr (by decide) (by rfl) (pk_cons (pv 3) pk_nil)) (pa_cons (MkO.pk m_NoCall hr (by decide) (by rfl) (pk_cons pe_str pk_nil)) pa_nil)))))))
      (pss_one (ps_for PassesOwn.never rfl (pi_list (pe_lst (pa_cons (pv 4) (pa_cons (pv 5) pa_nil)))) (pg_name (i := 6) scLaw.nd rfl (.inl rfl)) (pss_one (ps_if (pt_not (pt_val (pe_cl c_law_batch_right hr (by decide) (by rfl) (pa_cons (pv 6) (pa_cons (pv 2) (pa_cons (pv 3) pa_nil)))))) (pss_one (ps_ret pe_bl)) pss_nil))))))))))))))))))
      (pss_one (ps_ret pe_bl))), ?_⟩
    have hcut : (cutV (ns.map V.int) none (some 8)).length ≤ 63 := by
      unfold cutV
      rw [List.length_take, List.length_drop, List.length_map]
      omega
    refine q_forNL (el_cat (el_sl (lo := none) (hi := some 8) (ev_var rfl) eo_none (eo_some ev_c) hS) (el_lst (ea_cons ev_c ea_nil) (by show 1 ≤ 100000; decide)) (by show _ + 1 ≤ 100000; omega))
      (fun p i σ' H' => Ex H H' ∧ H' p = some (.lst (cutV (ns.map V.int) none (some 8) ++ [.int 0])) ∧ ∃ v1 v2 v3 v4 v5 v6, σ' = [some (.ref sc), v1, v2, v3, v4, v5, v6])
      (fun p H1 hp x1 h1 => ⟨x1, h1, none, none, none, none, none, none, rfl⟩) (fun p i σ' H' hi hP => sq_of hP.2.1) (fun p i x σ' Hs hx hP => ?_) (fun p σ' H' hP => ?_)
    · obtain ⟨xE, hp, v1, v2, v3, v4, v5, v6, rfl⟩ := hP
      obtain ⟨cell, rfl⟩ : ∃ i : Int, x = .int i := by
        have hm := List.mem_of_getElem? hx
        rcases List.mem_append.mp hm with h | h
        · unfold cutV at h
          obtain ⟨i, _, e⟩ := List.mem_map.mp (List.mem_of_mem_drop (List.mem_of_mem_take h))
          exact ⟨i, e.symm⟩
        · exact ⟨0, List.mem_singleton.mp h⟩
      -- number
      refine q_asg (ev_op (ev_op (ev_intI (ev_var rfl)) (ev_op (ev_op ev_c (ev_op ev_c ev_c (rv_I (by unfold CPow; decide))) (rv_I (by unfold CMulW; decide +kernel))) ev_c rv_I0) (rv_mod (by decide +kernel))) (ev_op ev_c ev_c (rv_I (by unfold CPow; decide))) rv_I0) fun Ha xa => ?_
      generalize cell % _ - _ = n
      -- thing
      refine q_asgAny (rd_op (rd_lst (rd_cons (rd_ev (ev_var rfl) fun Hb xb => rd_cons (rd_c (rd_cons (rd_ev (ev_un ev_c ru_neg) fun Hc xc => rd_cons (rd_tup (rd_cons (rd_c (rd_cons (rd_c (rd_nil ⟨by show 2 ≤ sizeLine; decide, fun pt hpt => rd_cons (rd_c (rd_cons (rd_lst (rd_cons (rd_c (rd_nil ⟨by show 1 ≤ sizeLine; decide, fun pl hpl => rd_nil ⟨by show 6 ≤ sizeLine; decide, fun p6 hp6 => ?_⟩⟩))))))⟩)))))))))))))
      refine rd_ev (ev_op (ev_intI (ev_var rfl)) ev_c (rv_mod (by decide))) fun Hd xd => ?_
      have y6 : Ex Ha Hd := (((xb.trans xc).trans (Ex.new hpt)).trans (Ex.new hpl)).trans ((Ex.new hp6).trans xd)
      have ht : Hd pt = some (.tup [.int 1, .int 2]) := ((Ex.new hpl).trans ((Ex.new hp6).trans xd)) _ _ upd_same
      have hl : Hd pl = some (.lst [.int 3]) := ((Ex.new hp6).trans xd) _ _ upd_same
      obtain ⟨t, hat, sv⟩ := thing_of (K := K) (n := n) ht hl
      refine ⟨p6, _, _, t, rfl, rfl, sq_of (xd _ _ upd_same), hat, ?_⟩
      have s0 : Ex Hd Hd := Ex.refl Hd
      have xs0 : Ex Hs Hd := xa.trans y6
      have ax0 : Ex Hd Hd := Ex.refl Hd
      refine q_asgX (eax_cons ex_0 (eax_cons (ex_pos (ea_cons ev_c (ea_cons (ev_var rfl) ea_nil)) rfl) (eax_cons (ex_pos (ea_cons (ev_var rfl) (ea_cons ev_c ea_nil)) rfl) (eax_cons (ex_pos (ea_cons (ev_var rfl) ea_nil) rfl) eax_nil)))) (Nat.le_of_ble_eq_true rfl) fun ap1 aas1 aH1 ay1 ah1 ao1 => ?_
      have ax1 := ax0.trans ay1
      refine q_catX rfl ah1 ao1 (eax_cons (ex_pos (ea_cons (ev_var rfl) ea_nil) rfl) (eax_cons (ex_pos (ea_cons (ev_var rfl) ea_nil) rfl) (eax_cons (ex_pos (ea_cons ev_c (ea_cons ev_c ea_nil)) rfl) (eax_cons ex_0 (eax_cons (ex_pos (ea_cons (ev_var rfl) (ea_cons ev_c ea_nil)) rfl) eax_nil))))) (Nat.le_of_ble_eq_true rfl) fun ap2 aas2 aH2 ay2 ah2 ao2 => ?_
      have ax2 := ax1.trans ay2
      refine q_catX rfl ah2 ao2 (eax_cons ex_0 (eax_cons (ex_pos (ea_cons (ev_var rfl) (ea_cons ev_c ea_nil)) rfl) (eax_cons ex_0 (eax_cons (ex_pos (ea_cons (ev_var rfl) (ea_cons ev_c ea_nil)) rfl) (eax_cons ex_0 (eax_cons ex_0 eax_nil)))))) (Nat.le_of_ble_eq_true rfl) fun ap3 aas3 aH3 ay3 ah3 ao3 => ?_
      have ax3 := ax2.trans ay3
      refine q_catX rfl ah3 ao3 (eax_cons (ex_pos (ea_cons ev_c (ea_cons (ev_var rfl) ea_nil)) rfl) (eax_cons (ex_pos (ea_cons (ev_var rfl) ea_nil) rfl) (eax_cons (ex_pos (ea_cons (ev_var rfl) ea_nil) rfl) (eax_cons (ex_pos (ea_cons ev_c ea_nil) rfl) (eax_cons (ex_pos (ea_cons (ev_var rfl) ea_nil) rfl) eax_nil))))) (Nat.le_of_ble_eq_true rfl) fun ap4 aas4 aH4 ay4 ah4 ao4 => ?_
      have ax4 := ax3.trans ay4
      refine q_catX rfl ah4 ao4 (eax_cons (ex_pos (ea_cons ev_c ea_nil) rfl) eax_nil) (Nat.le_of_ble_eq_true rfl) fun ap5 aas5 aH5 ay5 ah5 ao5 => ?_
      have ax5 := ax4.trans ay5
      have bx0 := Ex.refl aH5
      refine q_asgX (eax_cons ex_0 (eax_cons (ex_kw (ea_cons (ev_var rfl) (ea_cons ev_c ea_nil)) rfl) (eax_cons (ex_kw (ea_cons ev_c (ea_cons (ev_var rfl) ea_nil)) rfl) eax_nil))) (Nat.le_of_ble_eq_true rfl) fun bp1 bas1 bH1 by1 bh1 bo1 => ?_
      have bx1 := bx0.trans by1
      refine q_catX rfl bh1 bo1 (eax_cons (ex_kw (ea_cons (ev_var rfl) ea_nil) rfl) (eax_cons (ex_kw (ea_cons (ev_var rfl) ea_nil) rfl) (eax_cons (ex_kw (ea_cons (ev_var rfl) ea_nil) rfl) eax_nil))) (Nat.le_of_ble_eq_true rfl) fun bp2 bas2 bH2 by2 bh2 bo2 => ?_
      have bx2 := bx1.trans by2
      refine q_catX rfl bh2 bo2 (eax_cons (ex_kw (ea_cons ev_c (ea_cons ev_c ea_nil)) rfl) (eax_cons ex_0 (eax_cons (ex_kw (ea_cons ev_c (ea_cons (ev_var rfl) ea_nil)) rfl) (eax_cons ex_0 eax_nil)))) (Nat.le_of_ble_eq_true rfl) fun bp3 bas3 bH3 by3 bh3 bo3 => ?_
      have bx3 := bx2.trans by3
      refine q_catX rfl bh3 bo3 (eax_cons (ex_kw (ea_cons ev_c (ea_cons (ev_var rfl) ea_nil)) rfl) (eax_cons ex_0 (eax_cons (ex_kw (ea_cons ev_c (ea_cons (ev_var rfl) ea_nil)) rfl) (eax_cons ex_0 eax_nil)))) (Nat.le_of_ble_eq_true rfl) fun bp4 bas4 bH4 by4 bh4 bo4 => ?_
      have bx4 := bx3.trans by4
      refine q_catX rfl bh4 bo4 (eax_cons ex_0 (eax_cons (ex_kw (ea_cons (ev_var rfl) (ea_cons ev_c ea_nil)) rfl) (eax_cons (ex_kw (ea_cons (ev_var rfl) ea_nil) rfl) eax_nil))) (Nat.le_of_ble_eq_true rfl) fun bp5 bas5 bH5 by5 bh5 bo5 => ?_
      have bx5 := bx4.trans by5
      refine q_catX rfl bh5 bo5 (eax_cons (ex_kw (ea_cons (ev_var rfl) ea_nil) rfl) (eax_cons (ex_kw (ea_cons ev_c ea_nil) rfl) (eax_cons (ex_kw (ea_cons (ev_var rfl) ea_nil) rfl) (eax_cons (ex_kw (ea_cons ev_c ea_nil) rfl) eax_nil)))) (Nat.le_of_ble_eq_true rfl) fun bp6 bas6 bH6 by6 bh6 bo6 => ?_
      have bx6 := bx5.trans by6
      have bs1 : BS K bH6 ap5 n t := ⟨⟨aas5, bx6 _ _ ah5, ao5.ex bx6⟩, sv.ex (ax5.trans bx6)⟩
      have bs2 : BS K bH6 bp6 n t := ⟨⟨bas6, bh6, bo6⟩, sv.ex (ax5.trans bx6)⟩
      refine s_forNL (xs := [.ref ap5, .ref bp6]) (el_lst (ea_cons (ev_var rfl) (ea_cons (ev_var rfl) ea_nil)) (Nat.le_of_ble_eq_true rfl))
        (fun p2 i σ' H' => Ex bH6 H' ∧ H' p2 = some (.lst [.ref ap5, .ref bp6]) ∧ ∃ v6, σ' = [some (.ref sc), some (.int cell), some (.int n), some t, some (.ref ap5), some (.ref bp6), v6])
        (fun p2 H1 hp2 x1 h1 => ⟨x1, h1, v6, rfl⟩) (fun p2 i σ' H' hi hP => sq_of hP.2.1) (fun p2 i x σ' Ht hx hP => ?_) (fun p2 σ' Ht hP => ?_)
      · obtain ⟨z1, z2, v6, rfl⟩ := hP
        obtain ⟨b, rfl, hb⟩ : ∃ b, x = .ref b ∧ BS K Ht b n t := by
          rcases List.mem_cons.mp (List.mem_of_getElem? hx) with e | e
          · exact ⟨_, e, bs1.ex z1⟩
          · exact ⟨_, List.mem_singleton.mp e, bs2.ex z1⟩
        exact s_when (b := false) (et_is (et_not (et_test (ev_call (ea_cons (ev_var rfl) (ea_cons (ev_var rfl) (ea_cons (ev_var rfl) ea_nil))) fun H1 e Q' q' E' => ⟨b, n, t, rfl, hb.ex e, q'⟩))) rfl) (fun e => by cases e) fun _ H2 x2 => ⟨z1.trans x2, x2 _ _ z2, _, rfl⟩
      · obtain ⟨z1, z2, v6, rfl⟩ := hP
        have xe : Ex Hs Ht := ((xs0.trans ax5).trans bx6).trans z1
        exact ⟨xE.trans xe, xe _ _ hp, _, _, _, _, _, _, rfl⟩
    · exact s_ret ev_c fun H1 _ => q H1
end
end N3

set_option maxHeartbeats 4000000
namespace N3
open PySem PySem.Spec PyProof.Rows L2
theorem rev_vals : ∀ {vs : List V} {us : List Value}, Vals vs us → Vals vs.reverse us.reverse
  | _, _, .nil => .nil
  | _, _, .cons r h => by
    rw [List.reverse_cons, List.reverse_cons]
    exact (rev_vals h).append (.cons r .nil)
section
variable {P : Program} {w : World} {K : PySem.W.Frag} {mg : Str → Option Value} {base : Heap} {fd : FuncData}
theorem mk_NoForm {f : Addr} (F : FnI K "NoForm.__init__" iNoForm f fd) (M : Meth K (cl K "NoForm") "__init__" f) (T : OexC K (cl K "NoForm")) (hm : mg "NoForm" = some (.ref (cl K "NoForm"))) (n1 : PySem.W.findIn K (.ref (cl K "NoForm")) "why" = some none) (n2 : PySem.W.findIn K (.ref (cl K "NoForm")) "at" = some none) : MkO P w K mg base "NoForm" ["why", "at"] :=
  ⟨hm, T, f, fd, M.at_, beq_iff_eq.mp M.fn, okiNoForm F T n1 n2, F.bindsN fun _ _ _ _ _ _ us hl => (match us, hl with | [_, _, _], _ => rfl), kb00 F 1 _ (fun us ws => us ++ ws.reverse) (fun r1 r2 => r1.append (rev_vals r2)) fun _ _ _ _ _ _ us ws h1 h2 => (match us, h1, ws, h2 with | [_], _, [_, _], _ => rfl)⟩
theorem mk_NoWorld {f : Addr} (F : FnI K "NoWorld.__init__" iNoWorld f fd) (M : Meth K (cl K "NoWorld") "__init__" f) (T : OexC K (cl K "NoWorld")) (hm : mg "NoWorld" = some (.ref (cl K "NoWorld"))) (n1 : PySem.W.findIn K (.ref (cl K "NoWorld")) "loader" = some none) (n2 : PySem.W.findIn K (.ref (cl K "NoWorld")) "name" = some none) : MkO P w K mg base "NoWorld" ["loader", "name"] :=
  ⟨hm, T, f, fd, M.at_, beq_iff_eq.mp M.fn, okiNoWorld F T n1 n2, F.bindsN fun _ _ _ _ _ _ us hl => (match us, hl with | [_, _, _], _ => rfl), kb00 F 1 _ (fun us ws => us ++ ws.reverse) (fun r1 r2 => r1.append (rev_vals r2)) fun _ _ _ _ _ _ us ws h1 h2 => (match us, h1, ws, h2 with | [_], _, [_, _], _ => rfl)⟩
theorem mk_NotDefined {f : Addr} (F : FnI K "NotDefined.__init__" iNotDefined f fd) (M : Meth K (cl K "NotDefined") "__init__" f) (T : OexC K (cl K "NotDefined")) (hm : mg "NotDefined" = some (.ref (cl K "NotDefined"))) (n1 : PySem.W.findIn K (.ref (cl K "NotDefined")) "cls" = some none) : MkO P w K mg base "NotDefined" ["cls"] :=
  ⟨hm, T, f, fd, M.at_, beq_iff_eq.mp M.fn, okiNotDefined F T n1, F.bindsN fun _ _ _ _ _ _ us hl => (match us, hl with | [_, _], _ => rfl), kb00 F 1 _ (fun us ws => us ++ ws.reverse) (fun r1 r2 => r1.append (rev_vals r2)) fun _ _ _ _ _ _ us ws h1 h2 => (match us, h1, ws, h2 with | [_], _, [_], _ => rfl)⟩
theorem mk_NoLoader {f : Addr} (F : FnI K "NoLoader.__init__" iNoLoader f fd) (M : Meth K (cl K "NoLoader") "__init__" f) (T : OexC K (cl K "NoLoader")) (hm : mg "NoLoader" = some (.ref (cl K "NoLoader"))) (n1 : PySem.W.findIn K (.ref (cl K "NoLoader")) "loader" = some none) : MkO P w K mg base "NoLoader" ["loader"] :=
  ⟨hm, T, f, fd, M.at_, beq_iff_eq.mp M.fn, okiNoLoader F T n1, F.bindsN fun _ _ _ _ _ _ us hl => (match us, hl with | [_, _], _ => rfl), kb00 F 1 _ (fun us ws => us ++ ws.reverse) (fun r1 r2 => r1.append (rev_vals r2)) fun _ _ _ _ _ _ us ws h1 h2 => (match us, h1, ws, h2 with | [_], _, [_], _ => rfl)⟩
theorem mk_NoEntry {f : Addr} (F : FnI K "NoEntry.__init__" iNoEntry f fd) (M : Meth K (cl K "NoEntry") "__init__" f) (T : OexC K (cl K "NoEntry")) (hm : mg "NoEntry" = some (.ref (cl K "NoEntry"))) (n1 : PySem.W.findIn K (.ref (cl K "NoEntry")) "entry" = some none) : MkO P w K mg base "NoEntry" ["entry"] :=
  ⟨hm, T, f, fd, M.at_, beq_iff_eq.mp M.fn, okiNoEntry F T n1, F.bindsN fun _ _ _ _ _ _ us hl => (match us, hl with | [_, _], _ => rfl), kb00 F 1 _ (fun us ws => us ++ ws.reverse) (fun r1 r2 => r1.append (rev_vals r2)) fun _ _ _ _ _ _ us ws h1 h2 => (match us, h1, ws, h2 with | [_], _, [_], _ => rfl)⟩
theorem mk_NotFound {f : Addr} (F : FnI K "NotFound.__init__" iNotFound f fd) (M : Meth K (cl K "NotFound") "__init__" f) (T : OexC K (cl K "NotFound")) (hm : mg "NotFound" = some (.ref (cl K "NotFound"))) (n1 : PySem.W.findIn K (.ref (cl K "NotFound")) "name" = some none) (n2 : PySem.W.findIn K (.ref (cl K "NotFound")) "word" = some none) : MkO P w K mg base "NotFound" ["name", "word"] :=
  ⟨hm, T, f, fd, M.at_, beq_iff_eq.mp M.fn, okiNotFound F T n1 n2, F.bindsN fun _ _ _ _ _ _ us hl => (match us, hl with | [_, _, _], _ => rfl), kb00 F 1 _ (fun us ws => us ++ ws.reverse) (fun r1 r2 => r1.append (rev_vals r2)) fun _ _ _ _ _ _ us ws h1 h2 => (match us, h1, ws, h2 with | [_], _, [_, _], _ => rfl)⟩
theorem mk_NotRight {f : Addr} (F : FnI K "NotRight.__init__" iNotRight f fd) (M : Meth K (cl K "NotRight") "__init__" f) (T : OexC K (cl K "NotRight")) (hm : mg "NotRight" = some (.ref (cl K "NotRight"))) (n1 : PySem.W.findIn K (.ref (cl K "NotRight")) "index" = some none) (n2 : PySem.W.findIn K (.ref (cl K "NotRight")) "word" = some none) : MkO P w K mg base "NotRight" ["index", "word"] :=
  ⟨hm, T, f, fd, M.at_, beq_iff_eq.mp M.fn, okiNotRight F T n1 n2, F.bindsN fun _ _ _ _ _ _ us hl => (match us, hl with | [_, _, _], _ => rfl), kb00 F 1 _ (fun us ws => us ++ ws.reverse) (fun r1 r2 => r1.append (rev_vals r2)) fun _ _ _ _ _ _ us ws h1 h2 => (match us, h1, ws, h2 with | [_], _, [_, _], _ => rfl)⟩
theorem mk_NoFrames {f : Addr} (F : FnI K "NoFrames.__init__" iNoFrames f fd) (M : Meth K (cl K "NoFrames") "__init__" f) (T : OexC K (cl K "NoFrames")) (hm : mg "NoFrames" = some (.ref (cl K "NoFrames"))) (n1 : PySem.W.findIn K (.ref (cl K "NoFrames")) "index" = some none) (n2 : PySem.W.findIn K (.ref (cl K "NoFrames")) "word" = some none) : MkO P w K mg base "NoFrames" ["index", "word"] :=
  ⟨hm, T, f, fd, M.at_, beq_iff_eq.mp M.fn, okiNoFrames F T n1 n2, F.bindsN fun _ _ _ _ _ _ us hl => (match us, hl with | [_, _, _], _ => rfl), kb00 F 1 _ (fun us ws => us ++ ws.reverse) (fun r1 r2 => r1.append (rev_vals r2)) fun _ _ _ _ _ _ us ws h1 h2 => (match us, h1, ws, h2 with | [_], _, [_, _], _ => rfl)⟩
theorem mk_NoClass {f : Addr} (F : FnI K "NoClass.__init__" iNoClass f fd) (M : Meth K (cl K "NoClass") "__init__" f) (T : OexC K (cl K "NoClass")) (hm : mg "NoClass" = some (.ref (cl K "NoClass"))) (n1 : PySem.W.findIn K (.ref (cl K "NoClass")) "at" = some none) (n2 : PySem.W.findIn K (.ref (cl K "NoClass")) "why" = some none) : MkO P w K mg base "NoClass" ["at", "why"] :=
  ⟨hm, T, f, fd, M.at_, beq_iff_eq.mp M.fn, okiNoClass F T n1 n2, F.bindsN fun _ _ _ _ _ _ us hl => (match us, hl with | [_, _, _], _ => rfl), kb00 F 1 _ (fun us ws => us ++ ws.reverse) (fun r1 r2 => r1.append (rev_vals r2)) fun _ _ _ _ _ _ us ws h1 h2 => (match us, h1, ws, h2 with | [_], _, [_, _], _ => rfl)⟩
theorem mk_NoWriting {f : Addr} (F : FnI K "NoWriting.__init__" iNoWriting f fd) (M : Meth K (cl K "NoWriting") "__init__" f) (T : OexC K (cl K "NoWriting")) (hm : mg "NoWriting" = some (.ref (cl K "NoWriting"))) (n1 : PySem.W.findIn K (.ref (cl K "NoWriting")) "why" = some none) (n2 : PySem.W.findIn K (.ref (cl K "NoWriting")) "method" = some none) : MkO P w K mg base "NoWriting" ["why", "method"] :=
  ⟨hm, T, f, fd, M.at_, beq_iff_eq.mp M.fn, okiNoWriting F T n1 n2, F.bindsN fun _ _ _ _ _ _ us hl => (match us, hl with | [_, _, _], _ => rfl), kb00 F 1 _ (fun us ws => us ++ ws.reverse) (fun r1 r2 => r1.append (rev_vals r2)) fun _ _ _ _ _ _ us ws h1 h2 => (match us, h1, ws, h2 with | [_], _, [_, _], _ => rfl)⟩
theorem mk_NoMember {f : Addr} (F : FnI K "NoMember.__init__" iNoMember f fd) (M : Meth K (cl K "NoMember") "__init__" f) (T : OexC K (cl K "NoMember")) (hm : mg "NoMember" = some (.ref (cl K "NoMember"))) (n1 : PySem.W.findIn K (.ref (cl K "NoMember")) "member" = some none) : MkO P w K mg base "NoMember" ["member"] :=
  ⟨hm, T, f, fd, M.at_, beq_iff_eq.mp M.fn, okiNoMember F T n1, F.bindsN fun _ _ _ _ _ _ us hl => (match us, hl with | [_, _], _ => rfl), kb00 F 1 _ (fun us ws => us ++ ws.reverse) (fun r1 r2 => r1.append (rev_vals r2)) fun _ _ _ _ _ _ us ws h1 h2 => (match us, h1, ws, h2 with | [_], _, [_], _ => rfl)⟩
theorem mk_NoReference {f : Addr} (F : FnI K "NoReference.__init__" iNoReference f fd) (M : Meth K (cl K "NoReference") "__init__" f) (T : OexC K (cl K "NoReference")) (hm : mg "NoReference" = some (.ref (cl K "NoReference"))) (n1 : PySem.W.findIn K (.ref (cl K "NoReference")) "reference" = some none) : MkO P w K mg base "NoReference" ["reference"] :=
  ⟨hm, T, f, fd, M.at_, beq_iff_eq.mp M.fn, okiNoReference F T n1, F.bindsN fun _ _ _ _ _ _ us hl => (match us, hl with | [_, _], _ => rfl), kb00 F 1 _ (fun us ws => us ++ ws.reverse) (fun r1 r2 => r1.append (rev_vals r2)) fun _ _ _ _ _ _ us ws h1 h2 => (match us, h1, ws, h2 with | [_], _, [_], _ => rfl)⟩
theorem mk_NoType {f : Addr} (F : FnI K "NoType.__init__" iNoType f fd) (M : Meth K (cl K "NoType") "__init__" f) (T : OexC K (cl K "NoType")) (hm : mg "NoType" = some (.ref (cl K "NoType"))) (n1 : PySem.W.findIn K (.ref (cl K "NoType")) "name" = some none) : MkO P w K mg base "NoType" ["name"] :=
  ⟨hm, T, f, fd, M.at_, beq_iff_eq.mp M.fn, okiNoType F T n1, F.bindsN fun _ _ _ _ _ _ us hl => (match us, hl with | [_, _], _ => rfl), kb00 F 1 _ (fun us ws => us ++ ws.reverse) (fun r1 r2 => r1.append (rev_vals r2)) fun _ _ _ _ _ _ us ws h1 h2 => (match us, h1, ws, h2 with | [_], _, [_], _ => rfl)⟩
theorem mk_NoRow {f : Addr} (F : FnI K "NoRow.__init__" iNoRow f fd) (M : Meth K (cl K "NoRow") "__init__" f) (T : OexC K (cl K "NoRow")) (hm : mg "NoRow" = some (.ref (cl K "NoRow"))) (n1 : PySem.W.findIn K (.ref (cl K "NoRow")) "row" = some none) : MkO P w K mg base "NoRow" ["row"] :=
  ⟨hm, T, f, fd, M.at_, beq_iff_eq.mp M.fn, okiNoRow F T n1, F.bindsN fun _ _ _ _ _ _ us hl => (match us, hl with | [_, _], _ => rfl), kb00 F 1 _ (fun us ws => us ++ ws.reverse) (fun r1 r2 => r1.append (rev_vals r2)) fun _ _ _ _ _ _ us ws h1 h2 => (match us, h1, ws, h2 with | [_], _, [_], _ => rfl)⟩
theorem mk_NoCall {f : Addr} (F : FnI K "NoCall.__init__" iNoCall f fd) (M : Meth K (cl K "NoCall") "__init__" f) (T : OexC K (cl K "NoCall")) (hm : mg "NoCall" = some (.ref (cl K "NoCall"))) (n1 : PySem.W.findIn K (.ref (cl K "NoCall")) "why" = some none) : MkO P w K mg base "NoCall" ["why"] :=
  ⟨hm, T, f, fd, M.at_, beq_iff_eq.mp M.fn, okiNoCall F T n1, F.bindsN fun _ _ _ _ _ _ us hl => (match us, hl with | [_, _], _ => rfl), kb00 F 1 _ (fun us ws => us ++ ws.reverse) (fun r1 r2 => r1.append (rev_vals r2)) fun _ _ _ _ _ _ us ws h1 h2 => (match us, h1, ws, h2 with | [_], _, [_], _ => rfl)⟩
end
def dLawKinds : He.DefD := ⟨("_law_kinds", none), "_law_kinds", "_law_kinds", L2.defArgs sLawKinds, L2.defBody sLawKinds, L2.defScope sLawKinds, [], []⟩
def dLawBatchRight : He.DefD := ⟨("_law_batch_right", none), "_law_batch_right", "_law_batch_right", L2.defArgs sLawBatchRight, L2.defBody sLawBatchRight, L2.defScope sLawBatchRight, [], []⟩
def dLaw : He.DefD := ⟨("law", none), "law", "law", L2.defArgs sLaw, L2.defBody sLaw, L2.defScope sLaw, [], []⟩
def eNoForm : He.DefD := ⟨("NoForm", some "__init__"), "__init__", "NoForm.__init__", L2.defArgs iNoForm, L2.defBody iNoForm, L2.defScope iNoForm, [], []⟩
def eNoWorld : He.DefD := ⟨("NoWorld", some "__init__"), "__init__", "NoWorld.__init__", L2.defArgs iNoWorld, L2.defBody iNoWorld, L2.defScope iNoWorld, [], []⟩
def eNotDefined : He.DefD := ⟨("NotDefined", some "__init__"), "__init__", "NotDefined.__init__", L2.defArgs iNotDefined, L2.defBody iNotDefined, L2.defScope iNotDefined, [], []⟩
def eNoLoader : He.DefD := ⟨("NoLoader", some "__init__"), "__init__", "NoLoader.__init__", L2.defArgs iNoLoader, L2.defBody iNoLoader, L2.defScope iNoLoader, [], []⟩
def eNoEntry : He.DefD := ⟨("NoEntry", some "__init__"), "__init__", "NoEntry.__init__", L2.defArgs iNoEntry, L2.defBody iNoEntry, L2.defScope iNoEntry, [], []⟩
def eNotFound : He.DefD := ⟨("NotFound", some "__init__"), "__init__", "NotFound.__init__", L2.defArgs iNotFound, L2.defBody iNotFound, L2.defScope iNotFound, [], []⟩
def eNotRight : He.DefD := ⟨("NotRight", some "__init__"), "__init__", "NotRight.__init__", L2.defArgs iNotRight, L2.defBody iNotRight, L2.defScope iNotRight, [], []⟩
def eNoFrames : He.DefD := ⟨("NoFrames", some "__init__"), "__init__", "NoFrames.__init__", L2.defArgs iNoFrames, L2.defBody iNoFrames, L2.defScope iNoFrames, [], []⟩
def eNoClass : He.DefD := ⟨("NoClass", some "__init__"), "__init__", "NoClass.__init__", L2.defArgs iNoClass, L2.defBody iNoClass, L2.defScope iNoClass, [], []⟩
def eNoWriting : He.DefD := ⟨("NoWriting", some "__init__"), "__init__", "NoWriting.__init__", L2.defArgs iNoWriting, L2.defBody iNoWriting, L2.defScope iNoWriting, [], []⟩
def eNoMember : He.DefD := ⟨("NoMember", some "__init__"), "__init__", "NoMember.__init__", L2.defArgs iNoMember, L2.defBody iNoMember, L2.defScope iNoMember, [], []⟩
def eNoReference : He.DefD := ⟨("NoReference", some "__init__"), "__init__", "NoReference.__init__", L2.defArgs iNoReference, L2.defBody iNoReference, L2.defScope iNoReference, [], []⟩
def eNoType : He.DefD := ⟨("NoType", some "__init__"), "__init__", "NoType.__init__", L2.defArgs iNoType, L2.defBody iNoType, L2.defScope iNoType, [], []⟩
def eNoRow : He.DefD := ⟨("NoRow", some "__init__"), "__init__", "NoRow.__init__", L2.defArgs iNoRow, L2.defBody iNoRow, L2.defScope iNoRow, [], []⟩
def eNoCall : He.DefD := ⟨("NoCall", some "__init__"), "__init__", "NoCall.__init__", L2.defArgs iNoCall, L2.defBody iNoCall, L2.defScope iNoCall, [], []⟩
def fnL : List He.DefD := [dLawKinds, dLawBatchRight, dLaw, eNoForm, eNoWorld, eNotDefined, eNoLoader, eNoEntry, eNotFound, eNotRight, eNoFrames, eNoClass, eNoWriting, eNoMember, eNoReference, eNoType, eNoRow, eNoCall]
def faL : List He.Fa := [.glo "_law_kinds", .glo "_law_batch_right", .glo "law", .free "isinstance", .free "range", .free "int", .free "enumerate", .free "ValueError", .glo "TypegateError", .glo "NoDescriptor", .glo "NoForm", .glo "NoWorld", .glo "NotDefined", .glo "NoLoader", .glo "NoEntry", .glo "NotFound", .glo "NoMethod", .glo "NotRight", .glo "NoCode", .glo "NoFrames", .glo "NoBytes", .glo "NoClass", .glo "NoText", .glo "NoFile", .glo "NoWriting", .glo "NoMember", .glo "NoReference", .glo "NoType", .glo "NoRow", .glo "NoCall", .meth "NoForm" "__init__", .meth "NoWorld" "__init__", .meth "NotDefined" "__init__", .meth "NoLoader" "__init__", .meth "NoEntry" "__init__", .meth "NotFound" "__init__", .meth "NotRight" "__init__", .meth "NoFrames" "__init__", .meth "NoClass" "__init__", .meth "NoWriting" "__init__", .meth "NoMember" "__init__", .meth "NoReference" "__init__", .meth "NoType" "__init__", .meth "NoRow" "__init__", .meth "NoCall" "__init__", .exc "NoDescriptor", .exc "NoMethod", .exc "NoCode", .exc "NoBytes", .exc "NoText", .exc "NoFile"]
def kitB (K : PySem.W.Frag) : Bool := errs.all fun x => (errs.all fun y => decide (PySem.W.kitOne K (.ref (cl K x)) (.ref (cl K y)) = some (decide (x = y)))) && (decide (PySem.W.kitOne K (.ref (cl K x)) (.ref (cl K "TypegateError")) = some true) && decide (PySem.W.kitOne K (.ref (cl K x)) (.type "ValueError") = some true))
def exL (K : PySem.W.Frag) : Bool := (errs.all fun x => xclsB K (cl K x)) && ((readsL.all fun q => decide (PySem.W.findIn K (.ref (cl K q.1)) q.2 = some none)) && kitB K)
theorem exL_ok {K : PySem.W.Frag} (h : exL K = true) : Kf K ∧ ∀ q ∈ readsL, PySem.W.findIn K (.ref (cl K q.1)) q.2 = some none := by
  obtain ⟨h1, h⟩ := Bool.and_eq_true_iff.mp h
  obtain ⟨h2, h3⟩ := Bool.and_eq_true_iff.mp h
  refine ⟨⟨fun x hx => xclsB_ok (List.all_eq_true.mp h1 x hx), fun x hx y hy => ?_, fun x hx => ?_, fun x hx => ?_⟩, fun q hq => of_decide_eq_true (List.all_eq_true.mp h2 q hq)⟩
  · obtain ⟨k1, _⟩ := Bool.and_eq_true_iff.mp (List.all_eq_true.mp h3 x hx)
    exact of_decide_eq_true (List.all_eq_true.mp k1 y hy)
  · obtain ⟨_, k2⟩ := Bool.and_eq_true_iff.mp (List.all_eq_true.mp h3 x hx)
    exact of_decide_eq_true (Bool.and_eq_true_iff.mp k2).1
  · obtain ⟨_, k2⟩ := Bool.and_eq_true_iff.mp (List.all_eq_true.mp h3 x hx)
    exact of_decide_eq_true (Bool.and_eq_true_iff.mp k2).2
abbrev R : PySem.W.OpenRow := PySem.W.OpenLaw.row PySem.Challenge.rw_typegate_k03_errors_apart
abbrev hk : PySem.W.Hook := He.hookX 7 faL fnL [] [] exL
def ob (s : PySem.W.SharedT) : He.AlX := He.obsX 7 faL fnL [] [] exL (HandSHeadRun.getT s)
theorem ob_eq (s : PySem.W.SharedT) : ob s = hk.obs s.abs := He.obsX_eq (HandSHeadRun.getT_eq s)
theorem run (w : World) : HandSHeadRun.RunEq R (PySem.W.view R.prog [26]) hk ob 20000 ["TypegateError", "NoDescriptor", "NoForm", "NoWorld", "NotDefined", "NoLoader", "NoEntry", "NotFound", "NoMethod", "NotRight", "NoCode", "NoFrames", "NoBytes", "NoClass", "NoText", "NoFile", "NoWriting", "NoMember", "NoReference", "NoType", "NoRow", "NoCall", "_law_kinds", "_law_batch_right"] w := by
  intro os
  kernel_rfl
theorem facts {P : Program} {w : World} {K : PySem.W.Frag} {h : Heap} {mg : Str → Option Value} {f : Addr} (X : K.In h) (G : h.Ns mainGlobals mg) (hfa : mg ("law" : Str) = some (.ref f)) (c : He.SaysD faL fnL K) (cL : exL K = true) :
    ∃ fd : FuncData, (∀ (s : Shared) (v : Value), BindsTo s fd ⟨[v], []⟩ [("script", v)]) ∧ ∀ base : Heap, K.In base → base.Ns mainGlobals mg → FnOk P w K mg base L2.CX0 3 f fd ["script"] (spLaw K) := by
  obtain ⟨kf, kn⟩ := exL_ok cL
  obtain ⟨fd0, F0⟩ := c.def_ 0 (d := dLawKinds) rfl
  obtain ⟨fd1, F1⟩ := c.def_ 1 (d := dLawBatchRight) rfl
  obtain ⟨fd2, F2⟩ := c.def_ 2 (d := dLaw) rfl
  obtain ⟨fd3, F3⟩ := c.def_ 3 (d := eNoForm) rfl
  obtain ⟨fd4, F4⟩ := c.def_ 4 (d := eNoWorld) rfl
  obtain ⟨fd5, F5⟩ := c.def_ 5 (d := eNotDefined) rfl
  obtain ⟨fd6, F6⟩ := c.def_ 6 (d := eNoLoader) rfl
  obtain ⟨fd7, F7⟩ := c.def_ 7 (d := eNoEntry) rfl
  obtain ⟨fd8, F8⟩ := c.def_ 8 (d := eNotFound) rfl
  obtain ⟨fd9, F9⟩ := c.def_ 9 (d := eNotRight) rfl
  obtain ⟨fd10, F10⟩ := c.def_ 10 (d := eNoFrames) rfl
  obtain ⟨fd11, F11⟩ := c.def_ 11 (d := eNoClass) rfl
  obtain ⟨fd12, F12⟩ := c.def_ 12 (d := eNoWriting) rfl
  obtain ⟨fd13, F13⟩ := c.def_ 13 (d := eNoMember) rfl
  obtain ⟨fd14, F14⟩ := c.def_ 14 (d := eNoReference) rfl
  obtain ⟨fd15, F15⟩ := c.def_ 15 (d := eNoType) rfl
  obtain ⟨fd16, F16⟩ := c.def_ 16 (d := eNoRow) rfl
  obtain ⟨fd17, F17⟩ := c.def_ 17 (d := eNoCall) rfl
  have B : Bt mg := ⟨He.free_ok X G (c.fact 3 (f := .free "isinstance") rfl), He.free_ok X G (c.fact 4 (f := .free "range") rfl), He.free_ok X G (c.fact 5 (f := .free "int") rfl), He.free_ok X G (c.fact 6 (f := .free "enumerate") rfl), He.free_ok X G (c.fact 7 (f := .free "ValueError") rfl)⟩
  have g_TypegateError : mg "TypegateError" = some (.ref (cl K "TypegateError")) := He.glo_ok X G (c.fact 8 (f := .glo "TypegateError") rfl)
  have g_NoDescriptor : mg "NoDescriptor" = some (.ref (cl K "NoDescriptor")) := He.glo_ok X G (c.fact 9 (f := .glo "NoDescriptor") rfl)
  have g_NoForm : mg "NoForm" = some (.ref (cl K "NoForm")) := He.glo_ok X G (c.fact 10 (f := .glo "NoForm") rfl)
  have g_NoWorld : mg "NoWorld" = some (.ref (cl K "NoWorld")) := He.glo_ok X G (c.fact 11 (f := .glo "NoWorld") rfl)
  have g_NotDefined : mg "NotDefined" = some (.ref (cl K "NotDefined")) := He.glo_ok X G (c.fact 12 (f := .glo "NotDefined") rfl)
  have g_NoLoader : mg "NoLoader" = some (.ref (cl K "NoLoader")) := He.glo_ok X G (c.fact 13 (f := .glo "NoLoader") rfl)
  have g_NoEntry : mg "NoEntry" = some (.ref (cl K "NoEntry")) := He.glo_ok X G (c.fact 14 (f := .glo "NoEntry") rfl)
  have g_NotFound : mg "NotFound" = some (.ref (cl K "NotFound")) := He.glo_ok X G (c.fact 15 (f := .glo "NotFound") rfl)
  have g_NoMethod : mg "NoMethod" = some (.ref (cl K "NoMethod")) := He.glo_ok X G (c.fact 16 (f := .glo "NoMethod") rfl)
  have g_NotRight : mg "NotRight" = some (.ref (cl K "NotRight")) := He.glo_ok X G (c.fact 17 (f := .glo "NotRight") rfl)
  have g_NoCode : mg "NoCode" = some (.ref (cl K "NoCode")) := He.glo_ok X G (c.fact 18 (f := .glo "NoCode") rfl)
  have g_NoFrames : mg "NoFrames" = some (.ref (cl K "NoFrames")) := He.glo_ok X G (c.fact 19 (f := .glo "NoFrames") rfl)
  have g_NoBytes : mg "NoBytes" = some (.ref (cl K "NoBytes")) := He.glo_ok X G (c.fact 20 (f := .glo "NoBytes") rfl)
  have g_NoClass : mg "NoClass" = some (.ref (cl K "NoClass")) := He.glo_ok X G (c.fact 21 (f := .glo "NoClass") rfl)
  have g_NoText : mg "NoText" = some (.ref (cl K "NoText")) := He.glo_ok X G (c.fact 22 (f := .glo "NoText") rfl)
  have g_NoFile : mg "NoFile" = some (.ref (cl K "NoFile")) := He.glo_ok X G (c.fact 23 (f := .glo "NoFile") rfl)
  have g_NoWriting : mg "NoWriting" = some (.ref (cl K "NoWriting")) := He.glo_ok X G (c.fact 24 (f := .glo "NoWriting") rfl)
  have g_NoMember : mg "NoMember" = some (.ref (cl K "NoMember")) := He.glo_ok X G (c.fact 25 (f := .glo "NoMember") rfl)
  have g_NoReference : mg "NoReference" = some (.ref (cl K "NoReference")) := He.glo_ok X G (c.fact 26 (f := .glo "NoReference") rfl)
  have g_NoType : mg "NoType" = some (.ref (cl K "NoType")) := He.glo_ok X G (c.fact 27 (f := .glo "NoType") rfl)
  have g_NoRow : mg "NoRow" = some (.ref (cl K "NoRow")) := He.glo_ok X G (c.fact 28 (f := .glo "NoRow") rfl)
  have g_NoCall : mg "NoCall" = some (.ref (cl K "NoCall")) := He.glo_ok X G (c.fact 29 (f := .glo "NoCall") rfl)
  have GG : ∀ x : Str, x ∈ ("TypegateError" : Str) :: errs → mg x = some (.ref (cl K x)) := by
    intro x hx
    rcases List.mem_cons.mp hx with rfl | hx
    · exact g_TypegateError
    rcases List.mem_cons.mp hx with rfl | hx
    · exact g_NoDescriptor
    rcases List.mem_cons.mp hx with rfl | hx
    · exact g_NoForm
    rcases List.mem_cons.mp hx with rfl | hx
    · exact g_NoWorld
    rcases List.mem_cons.mp hx with rfl | hx
    · exact g_NotDefined
    rcases List.mem_cons.mp hx with rfl | hx
    · exact g_NoLoader
    rcases List.mem_cons.mp hx with rfl | hx
    · exact g_NoEntry
    rcases List.mem_cons.mp hx with rfl | hx
    · exact g_NotFound
    rcases List.mem_cons.mp hx with rfl | hx
    · exact g_NoMethod
    rcases List.mem_cons.mp hx with rfl | hx
    · exact g_NotRight
    rcases List.mem_cons.mp hx with rfl | hx
    · exact g_NoCode
    rcases List.mem_cons.mp hx with rfl | hx
    · exact g_NoFrames
    rcases List.mem_cons.mp hx with rfl | hx
    · exact g_NoBytes
    rcases List.mem_cons.mp hx with rfl | hx
    · exact g_NoClass
    rcases List.mem_cons.mp hx with rfl | hx
    · exact g_NoText
    rcases List.mem_cons.mp hx with rfl | hx
    · exact g_NoFile
    rcases List.mem_cons.mp hx with rfl | hx
    · exact g_NoWriting
    rcases List.mem_cons.mp hx with rfl | hx
    · exact g_NoMember
    rcases List.mem_cons.mp hx with rfl | hx
    · exact g_NoReference
    rcases List.mem_cons.mp hx with rfl | hx
    · exact g_NoType
    rcases List.mem_cons.mp hx with rfl | hx
    · exact g_NoRow
    rcases List.mem_cons.mp hx with rfl | hx
    · exact g_NoCall
    · cases hx
  have M3 := He.meth_ok (c.fact 30 (f := .meth "NoForm" "__init__") rfl)
  have M4 := He.meth_ok (c.fact 31 (f := .meth "NoWorld" "__init__") rfl)
  have M5 := He.meth_ok (c.fact 32 (f := .meth "NotDefined" "__init__") rfl)
  have M6 := He.meth_ok (c.fact 33 (f := .meth "NoLoader" "__init__") rfl)
  have M7 := He.meth_ok (c.fact 34 (f := .meth "NoEntry" "__init__") rfl)
  have M8 := He.meth_ok (c.fact 35 (f := .meth "NotFound" "__init__") rfl)
  have M9 := He.meth_ok (c.fact 36 (f := .meth "NotRight" "__init__") rfl)
  have M10 := He.meth_ok (c.fact 37 (f := .meth "NoFrames" "__init__") rfl)
  have M11 := He.meth_ok (c.fact 38 (f := .meth "NoClass" "__init__") rfl)
  have M12 := He.meth_ok (c.fact 39 (f := .meth "NoWriting" "__init__") rfl)
  have M13 := He.meth_ok (c.fact 40 (f := .meth "NoMember" "__init__") rfl)
  have M14 := He.meth_ok (c.fact 41 (f := .meth "NoReference" "__init__") rfl)
  have M15 := He.meth_ok (c.fact 42 (f := .meth "NoType" "__init__") rfl)
  have M16 := He.meth_ok (c.fact 43 (f := .meth "NoRow" "__init__") rfl)
  have M17 := He.meth_ok (c.fact 44 (f := .meth "NoCall" "__init__") rfl)
  have e := hfa.symm.trans (He.glo_ok X G (c.fact 2 (f := .glo "law") rfl))
  cases e
  have b := FunD.bindsA (ps := ["script"]) F2 fun _ _ _ _ _ _ us hl => match us, hl with | [_], _ => rfl
  have bk : Binds K fd0 ["err"] [] := F0.bindsN fun _ _ _ _ _ _ us hl => match us, hl with | [_], _ => rfl
  have bb : Binds K fd1 ["batch", "number", "thing"] [] := F1.bindsN fun _ _ _ _ _ _ us hl => match us, hl with | [_, _, _], _ => rfl
  refine ⟨fd2, fun s v => b s [v] rfl, fun base _ _ => ?_⟩
  have ck : Cl P w K mg base L2.CX0 1 "_law_kinds" ["err"] (spKinds K) := ⟨_, fd0, ok_kinds F0 B kf GG, He.glo_ok X G (c.fact 0 (f := .glo "_law_kinds") rfl), F0.kp, bk⟩
  have cb : Cl P w K mg base L2.CX0 2 "_law_batch_right" ["batch", "number", "thing"] (spBatch K) := ⟨_, fd1, ok_batch F1 B kf kn GG ck, He.glo_ok X G (c.fact 1 (f := .glo "_law_batch_right") rfl), F1.kp, bb⟩
  exact ok_law F2 B ⟨g_NoDescriptor, (He.exc_ok (c.fact 45 (f := .exc "NoDescriptor") rfl)).1, (He.exc_ok (c.fact 45 (f := .exc "NoDescriptor") rfl)).2.1⟩ (mk_NoForm F3 M3 (kf.t "NoForm" (by decide)).o g_NoForm (kn ("NoForm", "why") (by decide)) (kn ("NoForm", "at") (by decide))) (mk_NoWorld F4 M4 (kf.t "NoWorld" (by decide)).o g_NoWorld (kn ("NoWorld", "loader") (by decide)) (kn ("NoWorld", "name") (by decide))) (mk_NotDefined F5 M5 (kf.t "NotDefined" (by decide)).o g_NotDefined (kn ("NotDefined", "cls") (by decide))) (mk_NoLoader F6 M6 (kf.t "NoLoader" (by decide)).o g_NoLoader (kn ("NoLoader", "loader") (by decide))) (mk_NoEntry F7 M7 (kf.t "NoEntry" (by decide)).o g_NoEntry (kn ("NoEntry", "entry") (by decide))) (mk_NotFound F8 M8 (kf.t "NotFound" (by decide)).o g_NotFound (kn ("NotFound", "name") (by decide)) (kn ("NotFound", "word") (by decide))) ⟨g_NoMethod, (He.exc_ok (c.fact 46 (f := .exc "NoMethod") rfl)).1, (He.exc_ok (c.fact 46 (f := .exc "NoMethod") rfl)).2.1⟩ (mk_NotRight F9 M9 (kf.t "NotRight" (by decide)).o g_NotRight (kn ("NotRight", "index") (by decide)) (kn ("NotRight", "word") (by decide))) ⟨g_NoCode, (He.exc_ok (c.fact 47 (f := .exc "NoCode") rfl)).1, (He.exc_ok (c.fact 47 (f := .exc "NoCode") rfl)).2.1⟩ (mk_NoFrames F10 M10 (kf.t "NoFrames" (by decide)).o g_NoFrames (kn ("NoFrames", "index") (by decide)) (kn ("NoFrames", "word") (by decide))) ⟨g_NoBytes, (He.exc_ok (c.fact 48 (f := .exc "NoBytes") rfl)).1, (He.exc_ok (c.fact 48 (f := .exc "NoBytes") rfl)).2.1⟩ (mk_NoClass F11 M11 (kf.t "NoClass" (by decide)).o g_NoClass (kn ("NoClass", "at") (by decide)) (kn ("NoClass", "why") (by decide))) ⟨g_NoText, (He.exc_ok (c.fact 49 (f := .exc "NoText") rfl)).1, (He.exc_ok (c.fact 49 (f := .exc "NoText") rfl)).2.1⟩ ⟨g_NoFile, (He.exc_ok (c.fact 50 (f := .exc "NoFile") rfl)).1, (He.exc_ok (c.fact 50 (f := .exc "NoFile") rfl)).2.1⟩ (mk_NoWriting F12 M12 (kf.t "NoWriting" (by decide)).o g_NoWriting (kn ("NoWriting", "why") (by decide)) (kn ("NoWriting", "method") (by decide))) (mk_NoMember F13 M13 (kf.t "NoMember" (by decide)).o g_NoMember (kn ("NoMember", "member") (by decide))) (mk_NoReference F14 M14 (kf.t "NoReference" (by decide)).o g_NoReference (kn ("NoReference", "reference") (by decide))) (mk_NoType F15 M15 (kf.t "NoType" (by decide)).o g_NoType (kn ("NoType", "name") (by decide))) (mk_NoRow F16 M16 (kf.t "NoRow" (by decide)).o g_NoRow (kn ("NoRow", "row") (by decide))) (mk_NoCall F17 M17 (kf.t "NoCall" (by decide)).o g_NoCall (kn ("NoCall", "why") (by decide))) cb
end N3
open PySem PySem.W PySem.Calls PyProof.Rows
theorem PySem.Challenge.cw_typegate_k03_errors_apart_holds : PySem.Challenge.rw_typegate_k03_errors_apart.Holds := by
  w_on; o_law
  refine HandSHeadRun.head_any (r := OpenLaw.row PySem.Challenge.rw_typegate_k03_errors_apart) (q := view (OpenLaw.row PySem.Challenge.rw_typegate_k03_errors_apart).prog [26]) (H := N3.hk) (ob := N3.ob) (M := 20000) (loose := ["TypegateError", "NoDescriptor", "NoForm", "NoWorld", "NotDefined", "NoLoader", "NoEntry", "NotFound", "NoMethod", "NotRight", "NoCode", "NoFrames", "NoBytes", "NoClass", "NoText", "NoFile", "NoWriting", "NoMember", "NoReference", "NoType", "NoRow", "NoCall", "_law_kinds", "_law_batch_right"]) (d := HandSHeadRun.topDef (OpenLaw.row PySem.Challenge.rw_typegate_k03_errors_apart).prog 26) (kwd := []) N3.ob_eq
    (by kernel_rfl) (fun s => by kernel_rfl) N3.run (by kernel_rfl) (by kernel_rfl) (by kernel_rfl) (by rfl) (by first | assumption | decide +kernel) (by decide +kernel) ⟨rfl, rfl, rfl, rfl, rfl, by decide +kernel⟩ ?hw ?hc
  case hw => w_witness2
  case hc =>
    refine L2.walk_ofE (l := PySem.Challenge.rw_typegate_k03_errors_apart) (n := 63) (k := 3) (x := "script") (CX := L2.CX0) rfl (by decide) (by kernel_rfl) ⟨rfl, by decide, by decide⟩ ?F (fun _ _ _ _ z => z)
    intro w mg fa h Y G hmg0
    obtain ⟨K, KX, c⟩ := Y
    have hmg : mg ("law" : PySem.Str) = some (.ref fa) := by
      have e : (HandSHeadRun.topDef (OpenLaw.row PySem.Challenge.rw_typegate_k03_errors_apart).prog 26).name = ("law" : PySem.Str) := by kernel_rfl
      rw [← e]
      exact hmg0
    obtain ⟨fd, hb, hF⟩ := N3.facts (P := (PySem.Challenge.rw_typegate_k03_errors_apart).prog) (w := w) KX G hmg c.t.d c.more
    exact ⟨K, fd, N3.spLaw K, KX, hb, fun H a ns hl _ hS => ⟨a, ns, rfl, hS, hl, fun _ => rfl⟩, hF⟩
