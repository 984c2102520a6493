import PyProof.Rows.All
import Wide.All
import OpenK.AllK
import Wide.FinOn
import HandS.ForMost
import HandS.ForExc
import HandS.IsInst
import HandS.StrMore
import HandS.Walk
import HandS.Codes
import HandS.Wide
import HandS.WideBits
import HandS.Small
import HandS.Defaults
import HandS.HeadHook2
import HandS.Head2
import HandS.HeadEnd
import HandS.Evl
import HandS.HeadHook4
import PySem.Challenge.RW_typegate_k01_names_and_descriptors
set_option Elab.async false
set_option linter.all false
set_option maxRecDepth 100000
set_option autoImplicit false
/-! The rows of the text, and the short words. -/
namespace N1
open PySem PySem.Spec PyProof.Rows L2
def topS (i : Nat) : Stmt := PySem.Challenge.pw_typegate_k01_names_and_descriptors.main.body.getD i (.Pass ⟨0, 0, 0, 0⟩)
abbrev sIsName : Stmt := topS 9
theorem scIsName : FnScope ["thing", "sign"] ["thing"] (L2.defScope sIsName) := ⟨rfl, rfl, rfl, by decide +kernel, rfl, by decide +kernel, by decide +kernel⟩
abbrev sIsNameSign : Stmt := topS 10
theorem scIsNameSign : FnScope ["sign"] ["sign"] (L2.defScope sIsNameSign) := ⟨rfl, rfl, rfl, by decide +kernel, rfl, by decide +kernel, by decide +kernel⟩
abbrev sIsClassName : Stmt := topS 11
theorem scIsClassName : FnScope ["thing", "part"] ["thing"] (L2.defScope sIsClassName) := ⟨rfl, rfl, rfl, by decide +kernel, rfl, by decide +kernel, by decide +kernel⟩
abbrev sIsFieldDescriptor : Stmt := topS 12
theorem scIsFieldDescriptor : FnScope ["thing"] ["thing"] (L2.defScope sIsFieldDescriptor) := ⟨rfl, rfl, rfl, by decide +kernel, rfl, by decide +kernel, by decide +kernel⟩
abbrev sPlacesOf : Stmt := topS 13
theorem scPlacesOf : FnScope ["descriptors", "descriptor"] ["descriptors"] (L2.defScope sPlacesOf) := ⟨rfl, rfl, rfl, by decide +kernel, rfl, by decide +kernel, by decide +kernel⟩
abbrev sParameters : Stmt := topS 14
theorem scParameters : FnScope ["descriptor", "parts"] ["descriptor"] (L2.defScope sParameters) := ⟨rfl, rfl, rfl, by decide +kernel, rfl, by decide +kernel, by decide +kernel⟩
abbrev sResult : Stmt := topS 15
theorem scResult : FnScope ["descriptor", "parts"] ["descriptor"] (L2.defScope sResult) := ⟨rfl, rfl, rfl, by decide +kernel, rfl, by decide +kernel, by decide +kernel⟩
abbrev sMethodParts : Stmt := topS 16
theorem scMethodParts : FnScope ["thing", "parts", "at", "end", "last"] ["thing"] (L2.defScope sMethodParts) := ⟨rfl, rfl, rfl, by decide +kernel, rfl, by decide +kernel, by decide +kernel⟩
abbrev sFieldEnd : Stmt := topS 17
theorem scFieldEnd : FnScope ["text", "begin", "at", "end"] ["text", "begin"] (L2.defScope sFieldEnd) := ⟨rfl, rfl, rfl, by decide +kernel, rfl, by decide +kernel, by decide +kernel⟩
abbrev sLawWell : Stmt := topS 19
theorem scLawWell : FnScope ["cell"] ["cell"] (L2.defScope sLawWell) := ⟨rfl, rfl, rfl, by decide +kernel, rfl, by decide +kernel, by decide +kernel⟩
abbrev sLawDraw : Stmt := topS 20
theorem scLawDraw : FnScope ["well", "many", "digit", "number", "more"] ["well", "many"] (L2.defScope sLawDraw) := ⟨rfl, rfl, rfl, by decide +kernel, rfl, by decide +kernel, by decide +kernel⟩
abbrev sLawOne : Stmt := topS 21
theorem scLawOne : FnScope ["well", "some"] ["well", "some"] (L2.defScope sLawOne) := ⟨rfl, rfl, rfl, by decide +kernel, rfl, by decide +kernel, by decide +kernel⟩
abbrev sLawName : Stmt := topS 22
theorem scLawName : FnScope ["well", "many", "signs", "k"] ["well", "many"] (L2.defScope sLawName) := ⟨rfl, rfl, rfl, by decide +kernel, rfl, by decide +kernel, by decide +kernel⟩
abbrev sLawClassName : Stmt := topS 23
theorem scLawClassName : FnScope ["well", "k"] ["well"] (L2.defScope sLawClassName) := ⟨rfl, rfl, rfl, by decide +kernel, rfl, by decide +kernel, by decide +kernel⟩
abbrev sLawDescriptor : Stmt := topS 24
theorem scLawDescriptor : FnScope ["well", "way", "element"] ["well"] (L2.defScope sLawDescriptor) := ⟨rfl, rfl, rfl, by decide +kernel, rfl, by decide +kernel, by decide +kernel⟩
abbrev sLawChanged : Stmt := topS 25
theorem scLawChanged : FnScope ["well", "text", "at", "sign", "way"] ["well", "text"] (L2.defScope sLawChanged) := ⟨rfl, rfl, rfl, by decide +kernel, rfl, by decide +kernel, by decide +kernel⟩
abbrev sLawIsName : Stmt := topS 26
theorem scLawIsName : FnScope ["thing", "letters", "sign"] ["thing"] (L2.defScope sLawIsName) := ⟨rfl, rfl, rfl, by decide +kernel, rfl, by decide +kernel, by decide +kernel⟩
abbrev sLawIsClassName : Stmt := topS 27
theorem scLawIsClassName : FnScope ["thing", "part"] ["thing"] (L2.defScope sLawIsClassName) := ⟨rfl, rfl, rfl, by decide +kernel, rfl, by decide +kernel, by decide +kernel⟩
abbrev sLawFieldEnd : Stmt := topS 28
theorem scLawFieldEnd : FnScope ["text", "at", "depth", "end"] ["text", "at"] (L2.defScope sLawFieldEnd) := ⟨rfl, rfl, rfl, by decide +kernel, rfl, by decide +kernel, by decide +kernel⟩
abbrev sLawParts : Stmt := topS 29
theorem scLawParts : FnScope ["text", "found", "at", "end", "last", "part"] ["text"] (L2.defScope sLawParts) := ⟨rfl, rfl, rfl, by decide +kernel, rfl, by decide +kernel, by decide +kernel⟩
abbrev sLawTold : Stmt := topS 30
theorem scLawTold : FnScope ["text", "found"] ["text"] (L2.defScope sLawTold) := ⟨rfl, rfl, rfl, by decide +kernel, rfl, by decide +kernel, by decide +kernel⟩
abbrev sLawManyRight : Stmt := topS 31
theorem scLawManyRight : FnScope ["well", "many", "some", "text", "due", "small", "other", "wanted"] ["well"] (L2.defScope sLawManyRight) := ⟨rfl, rfl, rfl, by decide +kernel, rfl, by decide +kernel, by decide +kernel⟩
abbrev sLaw : Stmt := topS 32
theorem scLaw : FnScope ["script", "cell", "well", "parts", "last", "whole", "odd", "one", "text", "name", "some", "thing", "k"] ["script"] (L2.defScope sLaw) := ⟨rfl, rfl, rfl, by decide +kernel, rfl, by decide +kernel, by decide +kernel⟩

end N1

namespace N1
open PySem PySem.Spec PyProof.Rows L2 Evl
open SX (S)
abbrev FnP (K : PySem.W.Frag) (x : Str) (st : Stmt) (f : Addr) (fd : FuncData) : Prop := FunD K x x (L2.defArgs st) (L2.defBody st) (L2.defScope st) [] [] f fd
/-- a def that may be called by its name -/
structure Cl (P : Program) (w : World) (K : PySem.W.Frag) (mg : Str → Option Value) (base : Heap) (CX : CXT) (k : Nat) (x : Str) (ps : List Str) (sp : Sp) : Prop where
  ex : ∃ (f : Addr) (fd : FuncData), FnOk P w K mg base CX k f fd ps sp ∧ mg x = some (.ref f) ∧ PySem.W.keepIn K (.ref f) = true ∧ Binds K fd ps []
theorem pe_cl {X : Cx} {k j : Nat} {x : Str} {ps : List Str} {sp : Sp} {p pos : Pos} {e : Expr} {es : List Expr} {t : TA} (c : Cl X.prog X.w X.K X.mg X.base L2.CX0 k x ps sp) (hr : Room j X.A) (hk : k ≤ j) (hg : Gl X x) (ha : PA X (e :: es) t)
    (hdb : (x == ("__debug__" : Str)) = false := by decide) (he : starEach (e :: es) X.env = (false, eval e X.env) :: starEach es X.env := by rfl) (hpl : (backTo pos (starEach es X.env)).any (·.1) = false := by rfl) :
    PE X (.Call (.Name x p) (e :: es) [] pos) (tCall sp [] L2.E0 t) := by
  obtain ⟨f, fd, F, hm, hkp, hb⟩ := c.ex
  exact pe_call F (hr.mono hk) hg hm hkp hb .nil L2.pass0 ha hdb he hpl
theorem room_mono_check {A : Around} {j k : Nat} (hr : Room j A) (hk : k ≤ j) : Room k A := hr.mono hk
/-- the built-ins that the text uses -/
structure Bt (mg : Str → Option Value) : Prop where
  isi : mg "isinstance" = none
  str : mg "str" = none
  len : mg "len" = none
  all : mg "all" = none
  sum : mg "sum" = none
  int : mg "int" = none
  range : mg "range" = none
/-! ### numbers of signs -/
theorem lt1 (a b : Nat) : ([a] < [b]) ↔ a < b := by
  constructor
  · intro h
    cases h with
    | rel h => exact h
    | cons h => cases h
  · intro h
    exact List.Lex.rel h
theorem le1 (a b : Nat) : (!decide ([b] < [a])) = decide (a ≤ b) := by
  by_cases h : a ≤ b
  · rw [decide_eq_true h, decide_eq_false (fun q => by have := (lt1 b a).mp q; omega)]; rfl
  · rw [decide_eq_false h, decide_eq_true ((lt1 b a).mpr (by omega))]; rfl
/-- a sign of a name -/
def isSign (c : Nat) : Bool := (decide (97 ≤ c) && decide (c ≤ 122)) || ((decide (65 ≤ c) && decide (c ≤ 90)) || ((decide (48 ≤ c) && decide (c ≤ 57)) || (decide (c = 95) || decide (c = 36))))
def isNameL (l : List Nat) : Bool := (decide (1 ≤ l.length) && decide (l.length ≤ 30)) && l.all isSign
def isClassL (l : List Nat) : Bool := decide (l.length ≤ 60) && (TL.spl [47] 0 [] l).all isNameL
/-! ### what readings come to -/
section
variable {K : PySem.W.Frag} {σ : L2.St} {H H' : Hp} {ta tb tc te : TE} {t u : TT} {x y z v : V}
theorem ev_chain {r r' : R2} {a b : Bool} (ha : Ev ta σ H x) (hb : Ev tb σ H y) (h1 : RV r x y H (.bl a)) (h2 : a = true → Ev tc σ H z ∧ RV r' y z H (.bl b)) : Ev (tChain r r' ta tb tc) σ H (.bl (a && b)) := fun H1 e Q q =>
  ha H1 e _ fun H2 e2 => hb H2 (e.trans e2) _ fun H3 e3 => h1 H3 ((e.trans e2).trans e3) _ fun H4 e4 => ⟨a, rfl, by
    cases a with
    | true =>
      obtain ⟨hc, hr⟩ := h2 rfl
      have e5 := ((e.trans e2).trans e3).trans e4
      show tc σ H4 fun w' H5 => r' y w' H5 Q
      exact hc H4 e5 _ fun H5 e6 => hr H5 (e5.trans e6) _ fun H6 e7 => q H6 ((((e2.trans e3).trans e4).trans e6).trans e7)
    | false =>
      show Q (.bl false) H4
      exact q H4 ((e2.trans e3).trans e4)⟩
abbrev rLeS : R2 := fun x y H Q => ∃ i j, x = V.str i ∧ y = V.str j ∧ Q (V.bl !decide (j.cps.toList < i.cps.toList)) H
theorem rv_leS {a b : Nat} {z1 z2 : Str} (e1 : z1 = S [a]) (e2 : z2 = S [b]) : RV rLeS (.str z1) (.str z2) H (.bl (decide (a ≤ b))) := fun H1 _ Q q => by
  subst e1 e2
  refine ⟨_, _, rfl, rfl, ?_⟩
  have f : (!decide ((S [b]).cps.toList < (S [a]).cps.toList)) = decide (a ≤ b) := le1 a b
  rw [f]
  exact q H1 (Ex.refl H1)
theorem inV_sign {c : Nat} : ∀ {zs : List Nat}, inV (V.str (S [c])) (zs.map fun a => V.str (S [a])) = zs.any fun a => decide (c = a)
  | [] => rfl
  | a :: r => by
    have h : eqV (V.str (S [a])) (V.str (S [c])) = decide (c = a) := by
      show (S [a] == S [c]) = _
      rw [SX.S_beq_eq]
      by_cases e : c = a
      · subst e
        rw [decide_eq_true rfl, decide_eq_true rfl]
      · rw [decide_eq_false e, decide_eq_false (fun q => e (by injection q with q _; exact q.symm))]
    show (eqV (V.str (S [a])) (V.str (S [c])) || inV (V.str (S [c])) (r.map fun a => V.str (S [a]))) = (decide (c = a) || r.any fun a => decide (c = a))
    rw [h, inV_sign]
/-- not a text -/
def NoStr (K : PySem.W.Frag) (H : Hp) (x : V) : Prop := ∃ T : String, TyX K H x (.type T) ∧ kitB T "str" = some false
theorem TyOf.ex {t : Value} (e : Ex H H') (h : TyOf K H x t) : TyOf K H' x t := by
  cases h with
  | non => exact .non
  | bl b => exact .bl b
  | int i => exact .int i
  | str z => exact .str z
  | flt b => exact .flt b
  | lst h => exact .lst (e _ _ h)
  | frz h => exact .frz (e _ _ h)
  | tup h => exact .tup (e _ _ h)
  | dK h => exact .dK (e _ _ h)
  | dT h => exact .dT (e _ _ h)
  | ins h a b c d f => exact .ins (e _ _ h) a b c d f
theorem TyX.ex {t : Value} (e : Ex H H') (h : TyX K H x t) : TyX K H' x t := by
  cases h with
  | base h => exact .base (TyOf.ex e h)
  | byt b => exact .byt b
  | set h => exact .set (e _ _ h)
  | kList a b => exact .kList a b
  | kTuple a b => exact .kTuple a b
  | kDict a b => exact .kDict a b
  | fTuple h => exact .fTuple (e _ _ h)
  | fDict h => exact .fDict (e _ _ h)
theorem NoStr.ex (e : Ex H H') (h : NoStr K H x) : NoStr K H' x := by
  obtain ⟨T, a, b⟩ := h
  exact ⟨T, TyX.ex e a, b⟩
theorem ev_isi {T U : String} {b : Bool} (h : Ev te σ H x) (ty : TyX K H x (.type T)) (k : kitB T U = some b) : Ev (tCB (rIsi K) (tCons te (tCons (tC (.ty U)) tNil))) σ H (.bl b) := fun H1 e Q q =>
  h H1 e _ fun H2 e2 => ⟨x, .ty U, .type T, .type U, b, rfl, .ty U, TyX.ex (e.trans e2) ty, kit_ty k, q H2 e2⟩
theorem ev_isStr {l : Str} (h : Ev te σ H (.str l)) : Ev (tCB (rIsi K) (tCons te (tCons (tC (.ty "str")) tNil))) σ H (.bl true) := ev_isi h (.base (.str l)) (by decide +kernel)
theorem ev_noStr (h : Ev te σ H x) (n : NoStr K H x) : Ev (tCB (rIsi K) (tCons te (tCons (tC (.ty "str")) tNil))) σ H (.bl false) := by
  obtain ⟨T, a, b⟩ := n
  exact ev_isi h a b
abbrev rLenT : List V → Hp → VK → Prop := fun xs H Q => ∃ z, xs = [.str z] ∧ z.length ≤ sizeLine ∧ Q (.int z.length) H
theorem ev_lenS {l : List Nat} (h : Ev te σ H (.str (S l))) (hl : l.length ≤ 40000) : Ev (tCB rLenT (tCons te tNil)) σ H (.int (l.length : Int)) := fun H1 e Q q =>
  h H1 e _ fun H2 e2 => ⟨S l, rfl, by rw [SX.S_len]; exact sz_of (by omega), by rw [SX.S_len]; exact q H2 e2⟩
theorem ev_all {bs : List Bool} (h : EvL te σ H (bs.map V.bl)) : Ev (tCB (rAll K) (tCons te tNil)) σ H (.bl (bs.all id)) := fun H1 e Q q =>
  h H1 e _ fun p H2 hp e2 h2 => ⟨p, bs, rfl, sq_of h2, q H2 e2⟩
theorem ev_sum {ns : List Int} (h : EvL te σ H (ns.map V.int)) : Ev (tCB (rSum K) (tCons te tNil)) σ H (.int ns.sum) := fun H1 e Q q =>
  h H1 e _ fun p H2 hp e2 h2 => ⟨p, ns, rfl, sq_of h2, q H2 e2⟩
/-- a comprehension over a text -/
theorem el_lcS {l : List Nat} {tl : TE} {j : Nat} {vs : List Nat} (f : Nat → Bool) (v : Nat → V) (h : Ev tl σ H (.str (S l))) (hz : l.length ≤ 40000) (hw : ∀ x, wipe ((wipe σ vs).set j (some x)) vs = wipe σ vs)
    (ht : ∀ (i c : Nat) H1, Ex H H1 → l[i]? = some c → EvT t ((wipe σ vs).set j (some (.str (S [c])))) H1 (f i)) (he : ∀ (i c : Nat) H1, Ex H H1 → l[i]? = some c → f i = true → Ev te ((wipe σ vs).set j (some (.str (S [c])))) H1 (v i)) :
    EvL (tLc (iStr tl) (gName j) t te vs) σ H (given l.length f v) := fun H0 e Q q => h H0 e _ fun H1 e1 => ⟨S l, rfl, fun Dl hD =>
  lc_it (n := l.length) (walk_str (z := S l)) (Cw H1 f v Dl) ⟨hD, Ex.new hD, upd_same⟩ (fun _ _ _ _ => True.intro) (fun i x H' H2 hi p y => by
    obtain ⟨rfl, c, hc, rfl⟩ := y
    have hc2 : l[i]? = some c := by
      have : (S l).cps[i]? = l[i]? := by simp [S]
      rw [← this]
      exact hc
    exact ⟨hw _, cw_turn p (by omega) (ht i c H1 (e.trans e1) hc2) (fun hf => he i c H1 (e.trans e1) hc2 hf)⟩)
    (fun H' p => q Dl H' (fresh_back e1 p.1) (e1.trans p.2.1) p.2.2)⟩
theorem given_all {α : Type} (l : List α) (g : α → V) (v : Nat → V) (h : ∀ i c, l[i]? = some c → v i = g c) : given l.length (fun _ => true) v = l.map g := by
  unfold given
  rw [List.filter_eq_self.mpr (fun _ _ => rfl)]
  refine List.ext_getElem? fun i => ?_
  rw [List.getElem?_map, List.getElem?_map]
  by_cases hi : i < l.length
  · rw [List.getElem?_range hi, List.getElem?_eq_getElem hi]
    exact congrArg some (h i _ (List.getElem?_eq_getElem hi))
  · rw [List.getElem?_eq_none (by rw [List.length_range]; omega), List.getElem?_eq_none (by omega)]
    rfl
end
section
variable {P : Program} {w : World} {K : PySem.W.Frag} {mg : Str → Option Value} {base : Heap}
def spSign : Sp := fun vs H Q _ => ∃ c : Nat, vs = [.str (S [c])] ∧ RetV (.bl (isSign c)) H Q
theorem ok_sign {f : Addr} {fd : FuncData} (F : FnP K "_is_name_sign" sIsNameSign f fd) : FnOk P w K mg base L2.CX0 1 f fd ["sign"] spSign := by
  refine F.ok scIsNameSign (fun vs H Q E h => ?_) (fun cdv A outer s H vs Q E hr h => ?_)
  · obtain ⟨c, rfl, _⟩ := h
    rfl
  · obtain ⟨c, rfl, q⟩ := h
    refine ⟨_, pss_one (ps_ret (pe_or (pe_chain op_le_str op_le_str pe_str (pv 0) pe_str) (pe_or (pe_chain op_le_str op_le_str pe_str (pv 0) pe_str) (pe_or (pe_chain op_le_str op_le_str pe_str (pv 0) pe_str) (pe_one (pe_cmpR op_in_seq (pv 0) (pe_tup (pa_cons pe_str (pa_cons pe_str pa_nil))) rfl)))))), ?_⟩
    refine s_ret (v := .bl (isSign c)) ?_ q
    refine ev_orV (ev_chain ev_c (ev_var rfl) (rv_leS (a := 97) (by decide +kernel) rfl) fun _ => ⟨ev_c, rv_leS (b := 122) rfl (by decide +kernel)⟩) fun _ => ?_
    refine ev_orV (ev_chain ev_c (ev_var rfl) (rv_leS (a := 65) (by decide +kernel) rfl) fun _ => ⟨ev_c, rv_leS (b := 90) rfl (by decide +kernel)⟩) fun _ => ?_
    refine ev_orV (ev_chain ev_c (ev_var rfl) (rv_leS (a := 48) (by decide +kernel) rfl) fun _ => ⟨ev_c, rv_leS (b := 57) rfl (by decide +kernel)⟩) fun _ => ?_
    refine ev_is (ev_inU (ev_var rfl) (eu_tup (ea_cons ev_c (ea_cons ev_c ea_nil)) (by decide)) rfl rfl) ?_
    have e : [V.str (Str.ofString "_"), V.str (Str.ofString "$")] = [95, 36].map fun a => V.str (S [a]) := by decide +kernel
    rw [e, inV_sign]
    simp [List.any]
end
end N1

namespace N1
open PySem PySem.Spec PyProof.Rows L2 Evl
open SX (S)
section
variable {K : PySem.W.Frag} {σ : L2.St} {H H' : Hp} {ta tb tc te : TE} {t u : TT} {x y z v : V}
/-- a text, of which f tells b; or no text -/
def Told (K : PySem.W.Frag) (H : Hp) (x : V) (f : List Nat → Bool) (b : Bool) : Prop := (∃ l, x = .str (S l) ∧ l.length ≤ 20000 ∧ b = f l) ∨ (NoStr K H x ∧ b = false)
theorem Told.ex {f : List Nat → Bool} {b : Bool} (e : Ex H H') (h : Told K H x f b) : Told K H' x f b := by
  rcases h with h | ⟨h, e2⟩
  · exact .inl h
  · exact .inr ⟨NoStr.ex e h, e2⟩
theorem rv_le {i j : Int} : RV (rI0 fun i j => .bl (decide (i ≤ j))) (.int i) (.int j) H (.bl (decide (i ≤ j))) := rv_I0
theorem rv_is {r : R2} (h : RV r x y H z) (e : z = v) : RV r x y H v := e ▸ h
theorem bl_iff {p q : Prop} [Decidable p] [Decidable q] (h : p ↔ q) : V.bl (decide p) = V.bl (decide q) := congrArg V.bl (decide_eq_decide.mpr h)
theorem all_map {α : Type} (l : List α) (f : α → Bool) : (l.map f).all id = l.all f := by
  rw [List.all_map]; rfl
theorem map_bl {α : Type} (l : List α) (f : α → Bool) : l.map (fun c => V.bl (f c)) = (l.map f).map V.bl := by
  rw [List.map_map]; rfl
theorem getD_of {α : Type} {l : List α} {i : Nat} {c d : α} (h : l[i]? = some c) : l.getD i d = c := by
  rw [List.getD_eq_getElem?_getD, h]; rfl
end
section
variable {P : Program} {w : World} {K : PySem.W.Frag} {mg : Str → Option Value} {base : Heap}
def spName (K : PySem.W.Frag) (f : List Nat → Bool) : Sp := fun vs H Q _ => ∃ (x : V) (b : Bool), vs = [x] ∧ Told K H x f b ∧ RetV (.bl b) H Q
theorem ok_isName {f : Addr} {fd : FuncData} (F : FnP K "is_name" sIsName f fd) (B : Bt mg) (c1 : Cl P w K mg base L2.CX0 1 "_is_name_sign" ["sign"] spSign) (g30 : ∃ t, mg "LONGEST_NAME" = some (.int 30 t)) :
    FnOk P w K mg base L2.CX0 2 f fd ["thing"] (spName K isNameL) := by
  obtain ⟨t30, g30⟩ := g30
  refine F.ok scIsName (fun vs H Q E h => ?_) (fun cdv A outer s H vs Q E hr h => ?_)
  · obtain ⟨x, b, rfl, _⟩ := h
    rfl
  · obtain ⟨x, b, rfl, hx, q⟩ := h
    refine ⟨_, pss_cons (ps_if (PW.pt (pw_or (pt_not (pt_val (pe_callB call_isi (by rfl) B.isi (by decide +kernel) (pa_cons (pv 0) (pa_cons (pe_bltn (v := .ty "str") (by rfl) B.str (by decide +kernel) rfl) pa_nil)))))
        (pw_or1 (pt_not (pt_chain op_le op_le pe_int (pe_callB call_len_str (by rfl) B.len PySem.boot_len (pa_cons (pv 0) pa_nil)) (pe_glob (v := .int 30) (by rfl) g30 ⟨_, rfl⟩))))))
        (pss_one (ps_ret pe_bl)) pss_nil)
      (pss_one (ps_ret (pe_callB (cr_all rfl) (by rfl) B.all (by decide +kernel) (pa_cons (pe_lc (own := [("sign", 1)]) (g := gName 1) (tt := tYes) rfl scIsName.nd (pi_str (pv 0)) (blkOk_by (N := ["thing", "sign"]) (sc := L2.defScope sIsName) (by decide +kernel)) (fun _ _ _ _ _ => pg_name (i := 1) scIsName.nd rfl (Or.inl rfl)) (fun _ _ _ _ _ => pts_nil)
        (fun _ _ _ _ _ => pe_cl c1 hr (by decide) (by rfl) (pa_cons (pv 1) pa_nil))) pa_nil)))), ?_⟩
    rcases hx with ⟨l, rfl, hl, rfl⟩ | ⟨hn, rfl⟩
    · refine q_when (b := !(decide (1 ≤ l.length) && decide (l.length ≤ 30))) ?_ (fun e H1 x1 => ?_) (fun e H1 x1 => ?_)
      · refine et_is (et_or (et_not (et_B (ev_isStr (ev_var rfl)))) fun _ => et_not (et_test (ev_chain (a := decide (1 ≤ l.length)) (b := decide (l.length ≤ 30)) ev_c (ev_lenS (ev_var rfl) (by omega)) ?_ fun _ => ⟨ev_c, ?_⟩))) ?_
        · exact rv_is rv_le (bl_iff (by omega))
        · exact rv_is rv_le (bl_iff (by omega))
        · rfl
      · refine s_ret (v := .bl (isNameL l)) (ev_is ev_c ?_) (fun H2 x2 => q H2 (x1.trans x2))
        unfold isNameL
        rw [Bool.not_eq_true'] at e
        rw [e]; rfl
      · refine s_ret (v := .bl (isNameL l)) (ev_is (ev_all (bs := l.map isSign) ?_) ?_) (fun H2 x2 => q H2 (x1.trans x2))
        · rw [Bool.not_eq_false'] at e
          have el : l.length ≤ 30 := by
            have := (Bool.and_eq_true_iff.mp e).2
            exact of_decide_eq_true this
          rw [← map_bl, ← given_all l (fun c => V.bl (isSign c)) (fun i => .bl (isSign (l.getD i 0))) (fun i c h => by rw [getD_of h])]
          refine el_lcS (fun _ => true) _ (ev_var rfl) (by omega) (fun _ => rfl) (fun i c H2 _ hc => fun H3 e3 Q q => q H3 (Ex.refl H3)) (fun i c H2 _ hc _ => ?_)
          rw [getD_of hc]
          exact ev_call (ea_cons (ev_var rfl) ea_nil) (fun H3 e3 Q q E => ⟨c, rfl, q⟩)
        · rw [Bool.not_eq_false'] at e
          unfold isNameL
          rw [e, all_map]; rfl
    · refine q_when (b := true) ?_ (fun e H1 x1 => ?_) (fun e H1 x1 => by cases e)
      · exact et_is (et_or (b := false) (et_not (et_B (ev_noStr (ev_var rfl) hn))) fun e => by cases e) rfl
      · exact s_ret ev_c (fun H2 x2 => q H2 (x1.trans x2))
end
end N1

namespace N1
open PySem PySem.Spec PyProof.Rows L2 Evl
open SX (S)
theorem spl_len (c : Nat) : ∀ (l acc : List Nat) (p : List Nat), p ∈ TL.spl [c] 0 acc l → p.length ≤ acc.length + l.length
  | [], acc, p, h => by
    rw [TL.spl_nil] at h
    rw [List.mem_singleton.mp h]
    exact Nat.le_add_right _ _
  | d :: r, acc, p, h => by
    cases hp : TL.pre [c] (d :: r) with
    | true =>
      rw [TL.spl_hit hp] at h
      rcases List.mem_cons.mp h with rfl | h
      · exact Nat.le_add_right _ _
      · have := spl_len c r [] p h
        simp only [List.length_nil, List.length_cons] at this ⊢
        omega
    | false =>
      rw [TL.spl_miss hp] at h
      have := spl_len c r (acc ++ [d]) p h
      simp only [List.length_append, List.length_nil, List.length_cons] at this ⊢
      omega
theorem spl_num (c : Nat) : ∀ (l acc : List Nat), (TL.spl [c] 0 acc l).length ≤ 1 + l.length
  | [], acc => by
    rw [TL.spl_nil]
    exact Nat.le_refl _
  | d :: r, acc => by
    cases hp : TL.pre [c] (d :: r) with
    | true =>
      rw [TL.spl_hit hp, show TL.spl [c] ([c].length - 1) [] r = TL.spl [c] 0 [] r from rfl, List.length_cons, List.length_cons]
      have := spl_num c r []
      omega
    | false =>
      rw [TL.spl_miss hp]
      have := spl_num c r (acc ++ [d])
      simp only [List.length_cons] at this ⊢
      omega
section
variable {K : PySem.W.Frag} {σ : L2.St} {H H' : Hp} {ta tb tc te : TE} {t u : TT} {x y z v : V}
abbrev rSplit : V → List V → Hp → VK → Prop := fun x xs H Q => ∃ a b, x = .str a ∧ xs = [.str b] ∧ (b.length == 0) = false ∧ a.length + 2 ≤ sizeLine ∧ rNewStrs (Txt.split a b) H Q
theorem el_split {l : List Nat} {z : Str} {c : Nat} (ez : z = S [c]) (hc : c < 256) (h : Ev ta σ H (.str (S l))) (hl : l.length ≤ 40000) : EvL (tM1 rSplit ta (tC (.str z))) σ H ((TL.spl [c] 0 [] l).map fun p => .str (S p)) := fun H1 e Q q =>
  h H1 e _ fun H2 e2 => ⟨⟨_, rfl⟩, S l, z, rfl, rfl, by subst ez; rfl, by rw [SX.S_len]; exact sz_of (by omega), fun p hp => q p _ (fresh_back e2 hp) (e2.trans (Ex.new hp)) (by
    subst ez
    rw [SX.split_S (by simp) (by simp [hc]), List.map_map, upd_same]
    rfl)⟩
end
section
variable {P : Program} {w : World} {K : PySem.W.Frag} {mg : Str → Option Value} {base : Heap}
theorem ok_isClass {f : Addr} {fd : FuncData} (F : FnP K "is_class_name" sIsClassName f fd) (B : Bt mg) (c1 : Cl P w K mg base L2.CX0 2 "is_name" ["thing"] (spName K isNameL)) (g60 : ∃ t, mg "LONGEST_CLASS_NAME" = some (.int 60 t)) :
    FnOk P w K mg base L2.CX0 3 f fd ["thing"] (spName K isClassL) := by
  obtain ⟨t60, g60⟩ := g60
  refine F.ok scIsClassName (fun vs H Q E h => ?_) (fun cdv A outer s H vs Q E hr h => ?_)
  · obtain ⟨x, b, rfl, _⟩ := h
    rfl
  · obtain ⟨x, b, rfl, hx, q⟩ := h
    refine ⟨_, pss_cons (ps_if (PW.pt (pw_or (pt_not (pt_val (pe_callB call_isi (by rfl) B.isi (by decide +kernel) (pa_cons (pv 0) (pa_cons (pe_bltn (v := .ty "str") (by rfl) B.str (by decide +kernel) rfl) pa_nil)))))
        (pw_or1 (pt_cmpR op_gt (pe_callB call_len_str (by rfl) B.len PySem.boot_len (pa_cons (pv 0) pa_nil)) (pe_glob (v := .int 60) (by rfl) g60 ⟨_, rfl⟩) (nomark _)))))
        (pss_one (ps_ret pe_bl)) pss_nil)
      (pss_one (ps_ret (pe_callB (cr_all rfl) (by rfl) B.all (by decide +kernel) (pa_cons (pe_lc (own := [("part", 1)]) (g := gName 1) (tt := tYes) rfl scIsClassName.nd (pi_list (pe_split (pv 0) pe_str)) (blkOk_by (N := ["thing", "part"]) (sc := L2.defScope sIsClassName) (by decide +kernel)) (fun _ _ _ _ _ => pg_name (i := 1) scIsClassName.nd rfl (Or.inl rfl)) (fun _ _ _ _ _ => pts_nil)
        (fun _ _ _ _ _ => pe_cl c1 hr (by decide) (by rfl) (pa_cons (pv 1) pa_nil))) pa_nil)))), ?_⟩
    rcases hx with ⟨l, rfl, hl, rfl⟩ | ⟨hn, rfl⟩
    · refine q_when (b := !decide (l.length ≤ 60)) ?_ (fun e H1 x1 => ?_) (fun e H1 x1 => ?_)
      · refine et_is (et_or (et_not (et_B (ev_isStr (ev_var rfl)))) fun _ => et_test (b := !decide (l.length ≤ 60)) (ev_op (ev_lenS (ev_var rfl) (by omega)) ev_c (rv_is rv_I0 ?_))) ?_
        · refine congrArg V.bl ?_
          rw [← decide_not]
          exact decide_eq_decide.mpr (by omega)
        · rfl
      · refine s_ret (v := .bl (isClassL l)) (ev_is ev_c ?_) (fun H2 x2 => q H2 (x1.trans x2))
        unfold isClassL
        rw [Bool.not_eq_true'] at e
        rw [e]; rfl
      · rw [Bool.not_eq_false'] at e
        have el : l.length ≤ 60 := of_decide_eq_true e
        refine s_ret (v := .bl (isClassL l)) (ev_is (ev_all (bs := (TL.spl [47] 0 [] l).map isNameL) ?_) ?_) (fun H2 x2 => q H2 (x1.trans x2))
        · rw [← map_bl, ← given_all (TL.spl [47] 0 [] l) (fun p => V.bl (isNameL p)) (fun i => .bl (isNameL ((TL.spl [47] 0 [] l).getD i []))) (fun i c h => by rw [getD_of h])]
          have e2 := el_lcNL (K := K) (σ := start ["thing", "part"] [V.str (S l)]) (H := H1) (te := tCall (spName K isNameL) [] L2.E0 (tCons (tVar 1) tNil)) (t := tYes) (j := 1) (vs := [1]) (fun _ => true) (fun i => .bl (isNameL ((TL.spl [47] 0 [] l).getD i []))) (el_split (ta := tVar 0) (z := "/") (c := 47) (by decide +kernel) (by decide) (ev_var rfl) (by omega))
            (by rw [List.length_map]; have := spl_num 47 l []; omega) (fun _ => rfl) (fun i c H2 _ hc => fun H3 e3 Q q => q H3 (Ex.refl H3)) (fun i c H2 x2 hc _ => by
              rw [List.getElem?_map] at hc
              cases hp : (TL.spl [47] 0 [] l)[i]? with
              | none => rw [hp] at hc; cases hc
              | some p =>
                rw [hp] at hc
                cases hc
                rw [getD_of hp]
                exact ev_call (ea_cons (ev_var rfl) ea_nil) (fun H3 e3 Q q E => ⟨_, _, rfl, .inl ⟨p, rfl, by have := spl_len 47 l [] p (List.mem_of_getElem? hp); simp at this; omega, rfl⟩, q⟩))
          rw [List.length_map] at e2
          exact e2
        · unfold isClassL
          rw [e, all_map]; rfl
    · refine q_when (b := true) ?_ (fun e H1 x1 => ?_) (fun e H1 x1 => by cases e)
      · exact et_is (et_or (b := false) (et_not (et_B (ev_noStr (ev_var rfl) hn))) fun e => by cases e) rfl
      · exact s_ret ev_c (fun H2 x2 => q H2 (x1.trans x2))
end
end N1

namespace N1
open PySem PySem.Spec PyProof.Rows L2 Evl
open SX (S)
/-! ### parts of texts -/
def sub (l : List Nat) (i j : Nat) : List Nat := (l.drop i).take (j - i)
theorem cut_core (l : List Nat) (i j : Nat) : (l.drop (min i l.length)).take (min j l.length - min i l.length) = sub l i j := by
  unfold sub
  refine List.ext_getElem? fun k => ?_
  rw [List.getElem?_take, List.getElem?_take, List.getElem?_drop, List.getElem?_drop]
  by_cases hi : i ≤ l.length
  · rw [Nat.min_eq_left hi]
    by_cases hj : j ≤ l.length
    · rw [Nat.min_eq_left hj]
    · rw [Nat.min_eq_right (by omega)]
      by_cases hk : i + k < l.length
      · rw [if_pos (by omega), if_pos (by omega)]
      · rw [List.getElem?_eq_none (l := l) (i := i + k) (by omega)]
        simp
  · rw [show min i l.length = l.length by omega]
    rw [if_neg (by omega), List.getElem?_eq_none (l := l) (i := i + k) (by omega)]
    simp
theorem cut_nat (l : List Nat) (i j : Nat) : cutS (S l) (some (i : Int)) (some (j : Int)) = S (sub l i j) := by
  unfold cutS
  rw [SX.S_len, HT.sIx_nat, HT.sIx_nat]
  show (⟨((l.drop (min i l.length)).take (min j l.length - min i l.length)).toArray⟩ : Str) = _
  rw [cut_core]
theorem cut_to (l : List Nat) (j : Nat) : cutS (S l) none (some (j : Int)) = S (l.take j) := by
  unfold cutS
  rw [SX.S_len, HT.sIx_nat, HT.sIx_none]
  show (⟨((l.drop 0).take (min j l.length - 0)).toArray⟩ : Str) = _
  have e : (l.drop 0).take (min j l.length - 0) = l.take j := by
    rw [List.drop_zero, Nat.sub_zero]
    by_cases hj : j ≤ l.length
    · rw [Nat.min_eq_left hj]
    · rw [Nat.min_eq_right (by omega), List.take_length, List.take_of_length_le (by omega)]
  rw [e]
theorem cut_from (l : List Nat) (i : Nat) : cutS (S l) (some (i : Int)) none = S (l.drop i) := by
  unfold cutS
  rw [SX.S_len, HT.sIx_nat, HT.sIx_none]
  show (⟨((l.drop (min i l.length)).take (l.length - min i l.length)).toArray⟩ : Str) = _
  have e : (l.drop (min i l.length)).take (l.length - min i l.length) = l.drop i := by
    by_cases hi : i ≤ l.length
    · rw [Nat.min_eq_left hi, List.take_of_length_le (by rw [List.length_drop]; omega)]
    · rw [Nat.min_eq_right (by omega), Nat.sub_self, List.take_zero, List.drop_of_length_le (by omega)]
  rw [e]
/-! ### the next ';' -/
def fnd (l : List Nat) (a : Nat) : Option Nat := if Txt.find3 (S l) (S [59]) (a : Int) = -1 then none else some (Txt.find3 (S l) (S [59]) (a : Int)).toNat
def vI : Option Nat → Int
  | none => -1
  | some k => (k : Int)
theorem from_nat (n a : Nat) : PySem.fromIndex n (a : Int) = a := by
  unfold PySem.fromIndex
  rw [if_neg (by omega)]
  omega
theorem cps_getD (l : List Nat) (k : Nat) : (S l).cps.getD k 0 = l.getD k 0 := by
  simp [S]
theorem fnd_val (l : List Nat) (a : Nat) : Txt.find3 (S l) (S [59]) (a : Int) = vI (fnd l a) := by
  unfold fnd
  by_cases h : Txt.find3 (S l) (S [59]) (a : Int) = -1
  · rw [if_pos h, h]; rfl
  · rw [if_neg h]
    have : 0 ≤ Txt.find3 (S l) (S [59]) (a : Int) := find3_nonneg_of_ne (x := S l) (c := 59) h
    show _ = (((Txt.find3 (S l) (S [59]) (a : Int)).toNat : Nat) : Int)
    omega
theorem fnd_none {l : List Nat} {a : Nat} (h : fnd l a = none) : ∀ v, a ≤ v → v < l.length → l.getD v 0 ≠ 59 := by
  rcases StrLaws.find3_spec (S l) 59 (a : Int) with ⟨_, hn⟩ | ⟨k, hk, _⟩
  · intro v h1 h2
    have := hn v (by rw [from_nat]; exact h1) (by rw [SX.S_len]; exact h2)
    rwa [cps_getD] at this
  · have hk' : Txt.find3 (S l) (S [59]) (a : Int) = (k : Int) := hk
    unfold fnd at h
    rw [hk', if_neg (by omega)] at h
    cases h
theorem fnd_some {l : List Nat} {a k : Nat} (h : fnd l a = some k) : a ≤ k ∧ k < l.length ∧ l.getD k 0 = 59 ∧ ∀ v, a ≤ v → v < k → l.getD v 0 ≠ 59 := by
  rcases StrLaws.find3_spec (S l) 59 (a : Int) with ⟨hk, hn⟩ | ⟨j, hk, h1, h2, h3, h4⟩
  · have hk' : Txt.find3 (S l) (S [59]) (a : Int) = -1 := hk
    unfold fnd at h
    rw [hk', if_pos rfl] at h
    cases h
  · have hk' : Txt.find3 (S l) (S [59]) (a : Int) = (j : Int) := hk
    unfold fnd at h
    rw [hk', if_neg (by omega)] at h
    have e : j = k := by
      have := Option.some.inj h
      omega
    subst e
    rw [from_nat] at h1 h4
    rw [SX.S_len] at h2
    rw [cps_getD] at h3
    exact ⟨h1, h2, h3, fun v a b => by have := h4 v a b; rwa [cps_getD] at this⟩
theorem fnd_is {l : List Nat} {a k : Nat} (h1 : a ≤ k) (h2 : k < l.length) (h3 : l.getD k 0 = 59) (h4 : ∀ v, a ≤ v → v < k → l.getD v 0 ≠ 59) : fnd l a = some k := by
  cases e : fnd l a with
  | none => exact absurd h3 (fnd_none e k h1 h2)
  | some j =>
    obtain ⟨a1, a2, a3, a4⟩ := fnd_some e
    rcases Nat.lt_trichotomy j k with c | c | c
    · exact absurd a3 (h4 j a1 c)
    · rw [c]
    · exact absurd h3 (a4 k h1 c)
/-! ### where a field's descriptor ends -/
/-- how many "[" stand in front -/
def nb : List Nat → Nat
  | [] => 0
  | c :: r => if c = 91 then nb r + 1 else 0
theorem nb_le : ∀ l, nb l ≤ l.length
  | [] => Nat.le_refl _
  | c :: r => by
    show (if c = 91 then nb r + 1 else 0) ≤ r.length + 1
    have := nb_le r
    split <;> omega
theorem nb_at : ∀ (l : List Nat) (i : Nat), i < nb l → l[i]? = some 91
  | [], i, h => by cases h
  | c :: r, i, h => by
    have h' : i < (if c = 91 then nb r + 1 else 0) := h
    by_cases e : c = 91
    · rw [if_pos e] at h'
      cases i with
      | zero => rw [e]; rfl
      | succ i => exact nb_at r i (by omega)
    · rw [if_neg e] at h'
      cases h'
theorem nb_end : ∀ (l : List Nat), l[nb l]? ≠ some 91
  | [] => by simp [nb]
  | c :: r => by
    show (c :: r)[(if c = 91 then nb r + 1 else 0)]? ≠ some 91
    by_cases e : c = 91
    · rw [if_pos e]
      exact nb_end r
    · rw [if_neg e]
      intro h
      exact e (Option.some.inj h)
def letters : List Nat := [90, 66, 83, 67, 73, 74]
def fend (l : List Nat) (b : Nat) : Option Nat :=
  let a := b + nb (l.drop b)
  if a = l.length ∨ nb (l.drop b) > 5 then none
  else if letters.any (fun x => decide (l.getD a 0 = x)) = true then some (a + 1)
  else match fnd l a with
    | none => none
    | some k => if l.getD a 0 = 76 ∧ isClassL (sub l (a + 1) k) = true then some (k + 1) else none
def vOpt : Option Nat → V
  | none => .non
  | some k => .int (k : Int)
end N1

namespace N1
open PySem PySem.Spec PyProof.Rows L2 Evl
open SX (S)
section
variable {K : PySem.W.Frag} {σ : L2.St} {H H' : Hp} {ta tb tc te : TE} {tl th : TO} {t u : TT} {x y z v : V}
theorem ev_slS {l : List Nat} {lo hi : Option Int} {r : List Nat} (h : Ev te σ H (.str (S l))) (h1 : EvO tl σ H lo) (h2 : EvO th σ H hi) (hl : l.length ≤ 40000) (er : cutS (S l) lo hi = S r) : Ev (tSl rSlS te tl th) σ H (.str (S r)) := fun H1 e Q q =>
  h H1 e _ fun H2 e2 => h1 H2 (e.trans e2) _ fun H3 e3 => h2 H3 ((e.trans e2).trans e3) _ fun H4 e4 => ⟨S l, rfl, by rw [SX.S_len]; exact sz_of (by omega), by rw [er]; exact q H4 ((e2.trans e3).trans e4)⟩
abbrev rFind3 : V → List V → Hp → VK → Prop := fun x xs H Q => ∃ (a b : Str) (i : Int), x = .str a ∧ xs = [.str b, .int i] ∧ Q (.int (Txt.find3 a b i)) H
theorem ev_find {l : List Nat} {a : Nat} {z : Str} (ez : z = S [59]) (h : Ev ta σ H (.str (S l))) (hb : Ev tb σ H (.int (a : Int))) : Ev (tBM K "str" rFind3 ta (tCons (tC (.str z)) (tCons tb tNil))) σ H (.int (vI (fnd l a))) := fun H1 e Q q =>
  h H1 e _ fun H2 e2 => ⟨rfl, hb H2 (e.trans e2) _ fun H3 e3 => ⟨S l, z, (a : Int), rfl, rfl, by subst ez; rw [fnd_val]; exact q H3 (e2.trans e3)⟩⟩
theorem ev_at {l : List Nat} {a c : Nat} (h : Ev ta σ H (.str (S l))) (hb : Ev tb σ H (.int (a : Int))) (hl : l.length ≤ 40000) (hc : l[a]? = some c) : Ev (tOp rIxS ta tb) σ H (.str (S [c])) :=
  ev_op h hb (rv_ixS (by rw [SX.S_len]; omega) (atI_nat hc))
theorem rv_eqS {a b : List Nat} {z1 z2 : Str} (e1 : z1 = S a) (e2 : z2 = S b) : RV rEq (.str z1) (.str z2) H (.bl (decide (a = b))) := by
  subst e1 e2
  refine rv_is (rv_eq rfl) (bl_iff ⟨fun e => ?_, fun e => by rw [e]⟩)
  exact SX.S_inj (V.str.inj e)
theorem rv_neS {a b : List Nat} {z1 z2 : Str} (e1 : z1 = S a) (e2 : z2 = S b) : RV rNe (.str z1) (.str z2) H (.bl (!decide (a = b))) := by
  subst e1 e2
  refine rv_is (rv_ne rfl) (congrArg V.bl (congrArg not (decide_eq_decide.mpr ⟨fun e => ?_, fun e => by rw [e]⟩)))
  exact SX.S_inj (V.str.inj e)
theorem rv_eqI {a b : Int} : RV rEq (.int a) (.int b) H (.bl (decide (a = b))) := rv_is (rv_eq rfl) (bl_iff ⟨fun e => V.int.inj e, fun e => by rw [e]⟩)
theorem rv_neI {a b : Int} : RV rNe (.int a) (.int b) H (.bl (!decide (a = b))) := rv_is (rv_ne rfl) (congrArg V.bl (congrArg not (decide_eq_decide.mpr ⟨fun e => V.int.inj e, fun e => by rw [e]⟩)))
theorem or_iff {p q : Prop} [Decidable p] [Decidable q] {b : Bool} (h : b = true ↔ (p ∨ q)) : (decide p || decide q) = b := by
  by_cases hp : p
  · rw [decide_eq_true hp, Bool.true_or]
    exact (h.mpr (.inl hp)).symm
  · rw [decide_eq_false hp, Bool.false_or]
    by_cases hq : q
    · rw [decide_eq_true hq]
      exact (h.mpr (.inr hq)).symm
    · rw [decide_eq_false hq]
      cases hb : b with
      | false => rfl
      | true => rcases h.mp hb with c | c <;> contradiction
end
/-- the tuple LETTERS, at a -/
def Letters (K : PySem.W.Frag) (mg : Str → Option Value) : Prop := ∃ a, mg "LETTERS" = some (.ref a) ∧ ∀ H, SqT K H a (letters.map fun c => V.str (S [c]))
section
variable {P : Program} {w : World} {K : PySem.W.Frag} {mg : Str → Option Value} {base : Heap}
def spFieldEnd : Sp := fun vs H Q _ => ∃ (l : List Nat) (b : Nat), vs = [.str (S l), .int (b : Int)] ∧ l.length ≤ 20000 ∧ b ≤ l.length ∧ RetV (vOpt (fend l b)) H Q
theorem ok_fieldEnd {f : Addr} {fd : FuncData} (F : FnP K "_field_end" sFieldEnd f fd) (B : Bt mg) (c_is_class_name : Cl P w K mg base L2.CX0 3 "is_class_name" ["thing"] (spName K isClassL)) (g5 : ∃ t, mg "MOST_BRACKETS" = some (.int 5 t)) (gL : Letters K mg) :
    FnOk P w K mg base L2.CX0 4 f fd ["text", "begin"] spFieldEnd := by
  obtain ⟨t5, g_MOST_BRACKETS⟩ := g5
  obtain ⟨aL, g_LETTERS, hL⟩ := gL
  refine F.ok scFieldEnd (fun vs H Q E h => ?_) (fun cdv A outer s H vs Q E hr h => ?_)
  · obtain ⟨l, b, rfl, _⟩ := h
    rfl
  · obtain ⟨l, b, rfl, hl, hb, q⟩ := h
    refine ⟨_, PSs.nox (pss_cons (ps_set (i := 2) scFieldEnd.nd rfl (.inl rfl) (pv 1))
      (pss_cons (ps_while PassesOwn.never (PW.pt (pw_and (pt_cmpR op_lt (pv 2) (pe_callB call_len_str (by rfl) B.len PySem.boot_len (pa_cons (pv 0) pa_nil)) (nomark _)) (pw_and1 (pt_cmpR op_eq (pe_ix ix_str (pv 0) (pv 2) (fun _ _ => rfl)) pe_str (nomark _))))) (pss_one (ps_aug (i := 2) scFieldEnd.nd rfl (.inl rfl) pe_int ip_add)))
      (pss_cons (ps_if (PW.pt (pw_or (pt_cmpR op_eq (pv 2) (pe_callB call_len_str (by rfl) B.len PySem.boot_len (pa_cons (pv 0) pa_nil)) (nomark _)) (pw_or1 (pt_cmpR op_gt (pe_op op_sub (pv 2) (pv 1)) (pe_glob (v := .int 5) (by rfl) g_MOST_BRACKETS ⟨_, rfl⟩) (nomark _))))) (pss_one (ps_ret pe_non)) pss_nil)
      (pss_cons (ps_if (pt_cmpR op_in_seq (pe_ix ix_str (pv 0) (pv 2) (fun _ _ => rfl)) (pe_glob (v := .ref aL) (by rfl) g_LETTERS rfl) rfl) (pss_one (ps_ret (pe_op op_add (pv 2) pe_int))) pss_nil)
      (pss_cons (ps_set (i := 3) scFieldEnd.nd rfl (.inl rfl) (pe_bm PySem.F.plainAttrs_str PySem.F.slot_str_find PySem.F.type_str_find mt_find3 (pv 0) (pa_cons pe_str (pa_cons (pv 2) pa_nil))))
      (pss_cons (ps_if (PW.pt (pw_or (pt_cmpR op_ne (pe_ix ix_str (pv 0) (pv 2) (fun _ _ => rfl)) pe_str (nomark _)) (pw_or (pt_cmpR op_eq (pv 3) (pe_un un_neg pe_int) (nomark _)) (pw_or1 (pt_not (pt_val (pe_cl c_is_class_name hr (by decide) (by rfl) (pa_cons (pe_slice sl_str (pv 0) (po_some (pe_op op_add (pv 2) pe_int)) (po_some (pv 3))) pa_nil)))))))) (pss_one (ps_ret pe_non)) pss_nil)
      (pss_one (ps_ret (pe_op op_add (pv 3) pe_int))))))))), ?_⟩
    refine q_asg (ev_var rfl) fun H1 x1 => ?_
    have hnb := nb_le (l.drop b)
    rw [List.length_drop] at hnb
    refine q_while (fun m σ' H' => ∃ i : Nat, m + i = nb (l.drop b) ∧ Ex H H' ∧ σ' = [some (.str (S l)), some (.int (b : Int)), some (.int ((b + i : Nat) : Int)), none]) (nb (l.drop b)) ⟨0, by omega, x1, rfl⟩ (fun m σ' H' hW => ?_)
    obtain ⟨i, em, x2, rfl⟩ := hW
    refine ⟨decide (0 < m), ?_, fun em' H2 x3 => ?_, fun em' H2 x3 => ?_⟩
    · by_cases hlt : b + i < l.length
      · obtain ⟨c, hc⟩ : ∃ c, l[b + i]? = some c := ⟨_, List.getElem?_eq_getElem hlt⟩
        refine et_is (et_and (a := true) (b := decide ([c] = [91])) (et_test (ev_op (ev_var rfl) (ev_lenS (ev_var rfl) (by omega)) (rv_is rv_I0 ?_))) fun _ => et_test (ev_op (ev_at (ev_var rfl) (ev_var rfl) (by omega) hc) ev_c (rv_eqS rfl (by decide +kernel)))) ?_
        · exact congrArg V.bl (decide_eq_true (by omega))
        · rw [Bool.true_and]
          have hd : (l.drop b)[i]? = some c := by rw [List.getElem?_drop]; exact hc
          refine decide_eq_decide.mpr ⟨fun e => ?_, fun e => ?_⟩
          · have e2 : c = 91 := List.cons.inj e |>.1
            subst e2
            by_cases hi : i = nb (l.drop b)
            · exact absurd hd (by rw [hi]; exact nb_end _)
            · omega
          · have := nb_at (l.drop b) i (by omega)
            rw [hd] at this
            rw [Option.some.inj this]
      · refine et_is (et_and (a := false) (b := false) (et_test (ev_op (ev_var rfl) (ev_lenS (ev_var rfl) (by omega)) (rv_is rv_I0 ?_))) fun e => by cases e) ?_
        · exact congrArg V.bl (decide_eq_false (by omega))
        · rw [decide_eq_false (by omega)]; rfl
    · have hm := of_decide_eq_true em'
      refine ⟨fun σ2 H3 => ∃ i : Nat, (m - 1) + i = nb (l.drop b) ∧ Ex H H3 ∧ σ2 = [some (.str (S l)), some (.int (b : Int)), some (.int ((b + i : Nat) : Int)), none], fun σ2 H3 h => ⟨m - 1, by omega, h⟩, ?_⟩
      refine s_aug (f := fun i j => i + j) (a := ((b + i : Nat) : Int)) (b := 1) rfl ev_c fun H3 x4 => ⟨i + 1, by omega, (x2.trans x3).trans x4, ?_⟩
      show [some (V.str (S l)), some (.int (b : Int)), some (.int (((b + i : Nat) : Int) + 1)), none] = _
      rw [show ((b + i : Nat) : Int) + 1 = ((b + (i + 1) : Nat) : Int) by omega]
    · have hm := of_decide_eq_false em'
      have ei : i = nb (l.drop b) := by omega
      have q2 : RetV (vOpt (fend l b)) H2 Q := fun H3 e3 => q H3 ((x2.trans x3).trans e3)
      clear q
      unfold fend at q2
      rw [← ei] at q2
      refine q_when (b := decide (b + i = l.length) || decide (i > 5)) (et_or (et_test (ev_op (ev_var rfl) (ev_lenS (ev_var rfl) (by omega)) (rv_is rv_eqI ?_))) fun _ => et_test (ev_op (ev_op (ev_var rfl) (ev_var rfl) rv_I0) ev_c (rv_is rv_I0 ?_))) (fun e H3 x4 => ?_) (fun e H3 x4 => ?_)
      · exact bl_iff (by omega)
      · exact bl_iff (by omega)
      · rw [if_pos (by simpa using e)] at q2
        exact s_ret ev_c fun H4 x5 => q2 H4 (x4.trans x5)
      · have e2 : ¬ (b + i = l.length ∨ i > 5) := by simpa using e
        rw [if_neg e2] at q2
        obtain ⟨c, hc⟩ : ∃ c, l[b + i]? = some c := ⟨_, List.getElem?_eq_getElem (by omega)⟩
        rw [getD_of hc] at q2
        have hat : ∀ H5, Ev (tOp rIxS (tVar 0) (tVar 2)) [some (V.str (S l)), some (.int (b : Int)), some (.int ((b + i : Nat) : Int)), none] H5 (.str (S [c])) := fun H5 => ev_at (ev_var rfl) (ev_var rfl) (by omega) hc
        refine q_when (b := letters.any fun x => decide (c = x)) (et_test (ev_is (ev_op (hat H3) ev_c (rv_inT (hL _) rfl (by decide +kernel))) ?_)) (fun e H4 x5 => ?_) (fun e H4 x5 => ?_)
        · exact congrArg V.bl (inV_sign (zs := letters))
        · rw [if_pos e] at q2
          refine s_ret (ev_op (ev_var rfl) ev_c rv_I0) fun H5 x6 => ?_
          have := q2 H5 ((x4.trans x5).trans x6)
          exact this
        · rw [if_neg (by rw [e]; decide)] at q2
          refine q_asg (ev_find (by decide +kernel) (ev_var rfl) (ev_var rfl)) fun H5 x6 => ?_
          have hat2 : ∀ v H5, Ev (tOp rIxS (tVar 0) (tVar 2)) [some (V.str (S l)), some (.int (b : Int)), some (.int ((b + i : Nat) : Int)), v] H5 (.str (S [c])) := fun v H5 => ev_at (ev_var rfl) (ev_var rfl) (by omega) hc
          cases ek : fnd l (b + i) with
          | none =>
            rw [ek] at q2
            refine q_when (b := true) (et_is (et_or (a := !decide ([c] = [76])) (b := true) (et_test (ev_op (hat2 _ H5) ev_c (rv_neS rfl (by decide +kernel)))) fun _ => et_is (et_or (a := true) (b := false) (et_test (ev_op (ev_var rfl) (ev_un ev_c ru_neg) (rv_is rv_eqI ?_))) fun e => by cases e) rfl) (Bool.or_true _)) (fun e H6 x7 => ?_) (fun e => by cases e)
            · exact congrArg V.bl (decide_eq_true rfl)
            · exact s_ret ev_c fun H7 x8 => q2 H7 ((((x4.trans x5).trans x6).trans x7).trans x8)
          | some k =>
            obtain ⟨k1, k2, k3, k4⟩ := fnd_some ek
            rw [ek] at q2
            by_cases hc76 : c = 76
            · subst hc76
              refine q_when (b := !isClassL (sub l (b + i + 1) k)) (et_is (et_or (a := false) (b := !isClassL (sub l (b + i + 1) k)) (et_test (ev_op (hat2 _ H5) ev_c (rv_is (rv_neS (b := [76]) rfl (by decide +kernel)) ?_))) fun _ => et_is (et_or (a := false) (b := !isClassL (sub l (b + i + 1) k)) (et_test (ev_op (ev_var rfl) (ev_un ev_c ru_neg) (rv_is rv_eqI ?_))) fun _ => et_not (et_B (ev_call (ea_cons (ev_slS (ev_var rfl) (eo_some (ev_op (ev_var rfl) ev_c rv_I0)) (eo_some (ev_var rfl)) (by omega) (r := sub l (b + i + 1) k) ?_) ea_nil) ?_))) (Bool.false_or _)) (Bool.false_or _)) (fun e H6 x7 => ?_) (fun e H6 x7 => ?_)
              · rfl
              · exact congrArg V.bl (decide_eq_false (by show ¬ ((k : Int) = -1); omega))
              · exact cut_nat l (b + i + 1) k
              · intro H6 x7 Q' q' E'
                refine ⟨_, _, rfl, .inl ⟨_, rfl, ?_, rfl⟩, q'⟩
                unfold sub
                rw [List.length_take, List.length_drop]
                omega
              · have hcl : isClassL (sub l (b + i + 1) k) = false := by simpa using e
                have q3 := q2
                simp only [hcl] at q3
                refine s_ret ev_c fun H7 x8 => ?_
                have := q3 H7 ((((x4.trans x5).trans x6).trans x7).trans x8)
                simpa [vOpt] using this
              · have hcl : isClassL (sub l (b + i + 1) k) = true := by simpa using e
                have q3 := q2
                simp only [hcl] at q3
                refine s_ret (ev_op (ev_var rfl) ev_c rv_I0) fun H7 x8 => ?_
                have := q3 H7 ((((x4.trans x5).trans x6).trans x7).trans x8)
                simpa [vOpt, vI] using this
            · refine q_when (b := true) (et_is (et_or (a := true) (b := false) (et_test (ev_op (hat2 _ H5) ev_c (rv_is (rv_neS (b := [76]) rfl (by decide +kernel)) ?_))) fun e => by cases e) rfl) (fun e H6 x7 => ?_) (fun e => by cases e)
              · exact congrArg V.bl (congrArg not (decide_eq_false fun e => hc76 (List.cons.inj e).1))
              · refine s_ret ev_c fun H7 x8 => ?_
                have := q2 H7 ((((x4.trans x5).trans x6).trans x7).trans x8)
                simpa [vOpt, hc76] using this
end
end N1

namespace N1
open PySem PySem.Spec PyProof.Rows L2 Evl
open SX (S)
/-! ### the parts of a method's descriptor -/
theorem fend_lt {l : List Nat} {b e : Nat} (hb : b ≤ l.length) (h : fend l b = some e) : b < e ∧ e ≤ l.length := by
  have hn := nb_le (l.drop b)
  rw [List.length_drop] at hn
  unfold fend at h
  by_cases c1 : b + nb (l.drop b) = l.length ∨ nb (l.drop b) > 5
  · rw [if_pos c1] at h
    cases h
  · rw [if_neg c1] at h
    by_cases c2 : letters.any (fun x => decide (l.getD (b + nb (l.drop b)) 0 = x)) = true
    · rw [if_pos c2] at h
      have := Option.some.inj h
      omega
    · rw [if_neg c2] at h
      cases ek : fnd l (b + nb (l.drop b)) with
      | none =>
        rw [ek] at h
        cases h
      | some k =>
        rw [ek] at h
        obtain ⟨k1, k2, _, _⟩ := fnd_some ek
        have h' : (if l.getD (b + nb (l.drop b)) 0 = 76 ∧ isClassL (sub l (b + nb (l.drop b) + 1) k) = true then some (k + 1) else none) = some e := h
        split at h'
        · have := Option.some.inj h'
          omega
        · cases h'
def isFieldL (l : List Nat) : Bool := decide (fend l 0 = some l.length)
def placesL (ds : List (List Nat)) : Int := (ds.map fun d => if d = [74] then (2 : Int) else 1).sum
def loopP (l : List Nat) : Nat → Nat → List (List Nat) → Option (List (List Nat) × Nat)
  | 0, _, _ => none
  | n + 1, at_, acc => if at_ < l.length ∧ l.getD at_ 0 ≠ 41 then (match fend l at_ with
    | none => none
    | some e => loopP l n e (acc ++ [sub l at_ e])) else some (acc, at_)
def finL (l : List Nat) : Option (List (List Nat) × Nat) → Option (List (List Nat))
  | none => none
  | some (acc, at_) => if placesL acc > 254 ∨ (l.drop (at_ + 1) ≠ [86] ∧ isFieldL (l.drop (at_ + 1)) = false) then none else some (acc ++ [l.drop (at_ + 1)])
theorem finL_no {l : List Nat} {acc : List (List Nat)} {a : Nat} (h : placesL acc > 254 ∨ (l.drop (a + 1) ≠ [86] ∧ isFieldL (l.drop (a + 1)) = false)) : finL l (some (acc, a)) = none := if_pos h
theorem finL_ok {l : List Nat} {acc : List (List Nat)} {a : Nat} (h : ¬ (placesL acc > 254 ∨ (l.drop (a + 1) ≠ [86] ∧ isFieldL (l.drop (a + 1)) = false))) : finL l (some (acc, a)) = some (acc ++ [l.drop (a + 1)]) := if_neg h
def partsL (l : List Nat) : Option (List (List Nat)) := if l.head? = some 40 then finL l (loopP l (l.length + 1) 1 []) else none
abbrev vs (l : List Nat) : V := .str (S l)
section
variable {K : PySem.W.Frag} {σ : L2.St} {H H' : Hp} {ta tb tc te : TE} {tl th : TO} {t u : TT} {x y z v : V}
theorem rv_eqO {o : Option Nat} {n : Nat} : RV rEq (vOpt o) (.int (n : Int)) H (.bl (decide (o = some n))) := by
  cases o with
  | none => exact rv_is (rv_eq rfl) (congrArg V.bl (by rw [decide_eq_false (by intro e; cases e), decide_eq_false (by intro e; cases e)]))
  | some k => exact rv_is (rv_eq rfl) (bl_iff ⟨fun e => by have := V.int.inj e; congr 1; omega, fun e => by rw [Option.some.inj e]; rfl⟩)
abbrev rIsNon : R2 := fun x y H Q => y = .non ∧ Q (.bl (decide (x = .non))) H
theorem rv_isO {o : Option Nat} : RV rIsNon (vOpt o) .non H (.bl (decide (o = none))) := fun H1 _ Q q => ⟨rfl, by
  have e : decide (vOpt o = V.non) = decide (o = none) := by
    cases o with
    | none => rfl
    | some k => rw [decide_eq_false (by intro e; cases e), decide_eq_false (by intro e; cases e)]
  rw [e]
  exact q H1 (Ex.refl H1)⟩
abbrev rStarts : V → List V → Hp → VK → Prop := fun x xs H Q => ∃ a b, x = .str a ∧ xs = [.str b] ∧ Q (.bl (Txt.startswith a b)) H
theorem starts1 (l : List Nat) (c : Nat) : Txt.startswith (S l) (S [c]) = decide (l.head? = some c) := by
  unfold Txt.startswith Builtin.Str.subAt
  rw [SX.S_len, SX.S_len]
  cases l with
  | nil => simp
  | cons d r =>
    simp [S]
    by_cases e : d = c
    · subst e; simp
    · simp [e]
theorem ev_starts {l : List Nat} {c : Nat} {z : Str} (ez : z = S [c]) (h : Ev ta σ H (.str (S l))) : Ev (tM1 rStarts ta (tC (.str z))) σ H (.bl (decide (l.head? = some c))) := fun H1 e Q q =>
  h H1 e _ fun H2 e2 => ⟨⟨_, rfl⟩, S l, z, rfl, rfl, by subst ez; rw [starts1]; exact q H2 e2⟩
end
section
variable {P : Program} {w : World} {K : PySem.W.Frag} {mg : Str → Option Value} {base : Heap}
theorem ok_isField {f : Addr} {fd : FuncData} (F : FnP K "is_field_descriptor" sIsFieldDescriptor f fd) (B : Bt mg) (c_field_end : Cl P w K mg base L2.CX0 4 "_field_end" ["text", "begin"] spFieldEnd) :
    FnOk P w K mg base L2.CX0 5 f fd ["thing"] (spName K isFieldL) := by
  refine F.ok scIsFieldDescriptor (fun vs H Q E h => ?_) (fun cdv A outer s H vs Q E hr h => ?_)
  · obtain ⟨x, b, rfl, _⟩ := h
    rfl
  · obtain ⟨x, b, rfl, hx, q⟩ := h
    refine ⟨_, PSs.nox (pss_one (ps_ret (pe_and (pe_callB call_isi (by rfl) B.isi (by decide +kernel) (pa_cons (pv 0) (pa_cons (pe_bltn (v := .ty "str") (by rfl) B.str (by decide +kernel) rfl) pa_nil))) (pe_one (pe_cmpR op_eq (pe_cl c_field_end hr (by decide) (by rfl) (pa_cons (pv 0) (pa_cons pe_int pa_nil))) (pe_callB call_len_str (by rfl) B.len PySem.boot_len (pa_cons (pv 0) pa_nil)) (nomark _)))))), ?_⟩
    rcases hx with ⟨l, rfl, hl, rfl⟩ | ⟨hn, rfl⟩
    · refine s_ret (v := .bl (isFieldL l)) (ev_is (ev_andV (a := true) (b := isFieldL l) (ev_isStr (ev_var rfl)) fun _ => ev_op (ev_call (ea_cons (ev_var rfl) (ea_cons ev_c ea_nil)) (fun H1 x1 Q' q' E' => ⟨l, 0, rfl, hl, Nat.zero_le _, q'⟩)) (ev_lenS (ev_var rfl) (by omega)) rv_eqO) rfl) q
    · exact s_ret (ev_is (ev_andV (a := false) (b := false) (ev_noStr (ev_var rfl) hn) fun e => by cases e) rfl) q
def spPlaces (K : PySem.W.Frag) : Sp := fun vs H Q _ => ∃ (a : Addr) (ds : List (List Nat)), vs = [.ref a] ∧ SqL K H a (ds.map N1.vs) ∧ ds.length ≤ 20000 ∧ RetV (.int (placesL ds)) H Q
theorem ok_places {f : Addr} {fd : FuncData} (F : FnP K "places_of" sPlacesOf f fd) (B : Bt mg) : FnOk P w K mg base L2.CX0 1 f fd ["descriptors"] (spPlaces K) := by
  refine F.ok scPlacesOf (fun vs H Q E h => ?_) (fun cdv A outer s H vs Q E hr h => ?_)
  · obtain ⟨a, ds, rfl, _⟩ := h
    rfl
  · obtain ⟨a, ds, rfl, hS, hl, q⟩ := h
    refine ⟨_, PSs.nox (pss_one (ps_ret (pe_callB (cr_sum rfl) (by rfl) B.sum (by decide +kernel) (pa_cons (pe_lc (own := [("descriptor", 1)]) (g := gName 1) (tt := tYes) rfl scPlacesOf.nd (pi_list (pv 0)) (blkOk_by (N := ["descriptors", "descriptor"]) (sc := L2.defScope sPlacesOf) (by decide +kernel)) (fun _ _ _ _ _ => pg_name (i := 1) scPlacesOf.nd rfl (Or.inl rfl)) (fun _ _ _ _ _ => pts_nil) (fun _ _ _ _ _ => (pe_ifExp (pt_cmpR op_eq (pv 1) pe_str (nomark _)) pe_int pe_int))) pa_nil)))), ?_⟩
    refine s_ret (ev_sum (ns := ds.map fun d => if d = [74] then (2 : Int) else 1) ?_) q
    have e2 := el_lcL (K := K) (σ := start ["descriptors", "descriptor"] [V.ref a]) (H := H) (xs := ds.map N1.vs) (t := tYes) (te := tIf (tTest (tOp rEq (tVar 1) (tC (.str "J")))) (tC (.int 2)) (tC (.int 1))) (tl := tVar 0) (j := 1) (vs := [1]) (fun _ => true) (fun i => .int (if ds.getD i [] = [74] then (2 : Int) else 1)) (ev_var rfl) hS
      (by rw [List.length_map]; omega) (fun _ => rfl) (fun i c H2 _ hc => fun H3 e3 Q q => q H3 (Ex.refl H3)) (fun i c H2 x2 hc _ => by
        rw [List.getElem?_map] at hc
        cases hp : ds[i]? with
        | none => rw [hp] at hc; cases hc
        | some p =>
          rw [hp] at hc
          cases hc
          rw [getD_of hp]
          refine ev_if (b := decide (p = [74])) (et_test (ev_op (ev_var rfl) ev_c (rv_eqS rfl (by decide +kernel)))) (fun e => ev_is ev_c ?_) (fun e => ev_is ev_c ?_)
          · rw [if_pos (of_decide_eq_true e)]
          · rw [if_neg (of_decide_eq_false e)])
    rw [List.length_map, given_all ds (fun d => V.int (if d = [74] then (2 : Int) else 1)) _ (fun i c h => by rw [getD_of h])] at e2
    rw [List.map_map]
    exact e2
end
end N1

namespace N1
open PySem PySem.Spec PyProof.Rows L2 Evl
open SX (S)
def RetO (o : Option (List V)) (H : Hp) (Q : VK) : Prop := match o with
  | none => RetV .non H Q
  | some xs => RetL xs H Q
def PartsOf (K : PySem.W.Frag) (H : Hp) (x : V) (o : Option (List (List Nat))) : Prop := (∃ l, x = .str (S l) ∧ l.length ≤ 20000 ∧ o = partsL l) ∨ (NoStr K H x ∧ o = none)
def spParts (K : PySem.W.Frag) : Sp := fun vs H Q _ => ∃ (x : V) (o : Option (List (List Nat))), vs = [x] ∧ PartsOf K H x o ∧ RetO (o.map fun ps => ps.map N1.vs) H Q
section
variable {P : Program} {w : World} {K : PySem.W.Frag} {mg : Str → Option Value} {base : Heap}
theorem ok_parts {f : Addr} {fd : FuncData} (F : FnP K "_method_parts" sMethodParts f fd) (B : Bt mg) (c_field_end : Cl P w K mg base L2.CX0 4 "_field_end" ["text", "begin"] spFieldEnd)
    (c_is_field_descriptor : Cl P w K mg base L2.CX0 5 "is_field_descriptor" ["thing"] (spName K isFieldL)) (c_places_of : Cl P w K mg base L2.CX0 1 "places_of" ["descriptors"] (spPlaces K)) (g254 : ∃ t, mg "MOST_PARAMETER_PLACES" = some (.int 254 t)) :
    FnOk P w K mg base L2.CX0 6 f fd ["thing"] (spParts K) := by
  obtain ⟨t254, g_MOST_PARAMETER_PLACES⟩ := g254
  refine F.ok scMethodParts (fun vs H Q E h => ?_) (fun cdv A outer s H vs Q E hr h => ?_)
  · obtain ⟨x, b, rfl, _⟩ := h
    rfl
  · obtain ⟨x, o, rfl, hx, q⟩ := h
    refine ⟨_, PSs.nox (pss_cons (ps_if (PW.pt (pw_or (pt_not (pt_val (pe_callB call_isi (by rfl) B.isi (by decide +kernel) (pa_cons (pv 0) (pa_cons (pe_bltn (v := .ty "str") (by rfl) B.str (by decide +kernel) rfl) pa_nil))))) (pw_or1 (pt_not (pt_val (pe_m1 PySem.F.slot_str_startswith PySem.F.type_str_startswith mt_startswith (pv 0) pe_str)))))) (pss_one (ps_ret pe_non)) pss_nil)
      (pss_cons (ps_set (i := 1) scMethodParts.nd rfl (.inl rfl) (pe_lst pa_nil))
      (pss_cons (ps_set (i := 2) scMethodParts.nd rfl (.inl rfl) pe_int)
      (pss_cons (ps_while PassesOwn.never (PW.pt (pw_and (pt_cmpR op_lt (pv 2) (pe_callB call_len_str (by rfl) B.len PySem.boot_len (pa_cons (pv 0) pa_nil)) (nomark _)) (pw_and1 (pt_cmpR op_ne (pe_ix ix_str (pv 0) (pv 2) (fun _ _ => rfl)) pe_str (nomark _))))) (pss_cons (ps_set (i := 3) scMethodParts.nd rfl (.inl rfl) (pe_cl c_field_end hr (by decide) (by rfl) (pa_cons (pv 0) (pa_cons (pv 2) pa_nil))))
      (pss_cons (ps_if (pt_cmpR op_isN (pv 3) pe_non (nomark _)) (pss_one (ps_ret pe_non)) pss_nil)
      (pss_cons (ps_expr (pe_bm PySem.F.plainAttrs_list PySem.F.slot_list_append PySem.F.type_list_append mt_append (pv 1) (pa_cons (pe_slice sl_str (pv 0) (po_some (pv 2)) (po_some (pv 3))) pa_nil)))
      (pss_one (ps_set (i := 2) scMethodParts.nd rfl (.inl rfl) (pv 3)))))))
      (pss_cons (ps_set (i := 4) scMethodParts.nd rfl (.inl rfl) (pe_slice sl_str (pv 0) (po_some (pe_op op_add (pv 2) pe_int)) po_none))
      (pss_cons (ps_if (PW.pt (pw_or (pt_cmpR op_gt (pe_cl c_places_of hr (by decide) (by rfl) (pa_cons (pv 1) pa_nil)) (pe_glob (v := .int 254) (by rfl) g_MOST_PARAMETER_PLACES ⟨_, rfl⟩) (nomark _)) (pw_or1 (PW.pt (pw_and (pt_cmpR op_ne (pv 4) pe_str (nomark _)) (pw_and1 (pt_not (pt_val (pe_cl c_is_field_descriptor hr (by decide) (by rfl) (pa_cons (pv 4) pa_nil)))))))))) (pss_one (ps_ret pe_non)) pss_nil)
      (pss_cons (ps_expr (pe_bm PySem.F.plainAttrs_list PySem.F.slot_list_append PySem.F.type_list_append mt_append (pv 1) (pa_cons (pv 4) pa_nil)))
      (pss_one (ps_ret (pv 1)))))))))), ?_⟩
    rcases hx with ⟨l, rfl, hl, rfl⟩ | ⟨hn, rfl⟩
    · refine q_when (b := !decide (l.head? = some 40)) (et_is (et_or (a := false) (et_not (et_B (ev_isStr (ev_var rfl)))) fun _ => et_not (et_B (ev_starts (by decide +kernel) (ev_var rfl)))) (Bool.false_or _)) (fun e H1 x1 => ?_) (fun e H1 x1 => ?_)
      · have hh : ¬ l.head? = some 40 := by simpa using e
        have eo : partsL l = none := if_neg hh
        rw [eo] at q
        exact s_ret ev_c fun H2 x2 => q H2 (x1.trans x2)
      · have hh : l.head? = some 40 := by simpa using e
        have l1 : 1 ≤ l.length := by
          cases l with
          | nil => cases hh
          | cons c r => exact Nat.succ_le_succ (Nat.zero_le _)
        refine q_asgL (el_lst ea_nil (by decide)) fun p H2 hp1 x2 h2 => ?_
        have hp : H p = none := fresh_back x1 hp1
        refine q_asg ev_c fun H3 x3 => ?_
        obtain ⟨R, hR⟩ : ∃ R, loopP l (l.length + 1) 1 [] = R := ⟨_, rfl⟩
        have hparts : partsL l = finL l R := by
          unfold partsL
          rw [if_pos hh, hR]
        rw [hparts] at q
        clear hparts
        refine q_while (fun m σ' H' => ∃ (at_ : Nat) (acc : List (List Nat)) (ev : Option V), loopP l m at_ acc = R ∧ at_ ≤ l.length ∧ l.length < at_ + m ∧ Ex H H' ∧ H' p = some (.lst (acc.map N1.vs)) ∧ acc.length ≤ at_ ∧
            σ' = [some (.str (S l)), some (.ref p), some (.int (at_ : Int)), ev, none]) (l.length + 1) ⟨1, [], none, hR, l1, by omega, (x1.trans x2).trans x3, x3 _ _ h2, Nat.zero_le _, rfl⟩ (fun m σ' H' hW => ?_)
        obtain ⟨at_, acc, ev, eR, ha, hm, xE, hp', hacc, rfl⟩ := hW
        obtain ⟨m, rfl⟩ : ∃ m', m = m' + 1 := ⟨m - 1, by omega⟩
        refine ⟨decide (at_ < l.length ∧ l.getD at_ 0 ≠ 41), ?_, fun em' H4 x4 => ?_, fun em' H4 x4 => ?_⟩
        · by_cases hlt : at_ < l.length
          · obtain ⟨c, hc⟩ : ∃ c, l[at_]? = some c := ⟨_, List.getElem?_eq_getElem hlt⟩
            rw [getD_of hc]
            refine et_is (et_and (a := true) (b := !decide ([c] = [41])) (et_test (ev_op (ev_var rfl) (ev_lenS (ev_var rfl) (by omega)) (rv_is rv_I0 ?_))) fun _ => et_test (ev_op (ev_at (ev_var rfl) (ev_var rfl) (by omega) hc) ev_c (rv_neS rfl (by decide +kernel)))) ?_
            · exact congrArg V.bl (decide_eq_true (by omega))
            · rw [Bool.true_and, ← decide_not]
              exact decide_eq_decide.mpr ⟨fun e => ⟨hlt, fun e2 => e (by rw [e2])⟩, fun e e2 => e.2 (List.cons.inj e2).1⟩
          · refine et_is (et_and (a := false) (b := false) (et_test (ev_op (ev_var rfl) (ev_lenS (ev_var rfl) (by omega)) (rv_is rv_I0 ?_))) fun e => by cases e) ?_
            · exact congrArg V.bl (decide_eq_false (by omega))
            · rw [decide_eq_false (fun e => hlt e.1)]; rfl
        · have hc := of_decide_eq_true em'
          have e1 : loopP l (m + 1) at_ acc = (match fend l at_ with
            | none => none
            | some e => loopP l m e (acc ++ [sub l at_ e])) := if_pos hc
          rw [e1] at eR
          clear e1
          refine ⟨fun σ2 H5 => ∃ (at_ : Nat) (acc : List (List Nat)) (ev : Option V), loopP l m at_ acc = R ∧ at_ ≤ l.length ∧ l.length < at_ + m ∧ Ex H H5 ∧ H5 p = some (.lst (acc.map N1.vs)) ∧ acc.length ≤ at_ ∧
            σ2 = [some (.str (S l)), some (.ref p), some (.int (at_ : Int)), ev, none], fun σ2 H5 h => ⟨m, by omega, h⟩, ?_⟩
          refine q_asg (ev_call (z := vOpt (fend l at_)) (ea_cons (ev_var rfl) (ea_cons (ev_var rfl) ea_nil)) (fun H5 x5 Q' q' E' => ⟨l, at_, rfl, hl, ha, q'⟩)) fun H5 x5 => ?_
          refine q_when (b := decide (fend l at_ = none)) (et_test (ev_op (ev_var rfl) ev_c rv_isO)) (fun e H6 x6 => ?_) (fun e H6 x6 => ?_)
          · rw [of_decide_eq_true e] at eR
            rw [← eR] at q
            exact s_ret ev_c fun H7 x7 => q H7 ((((xE.trans x4).trans x5).trans x6).trans x7)
          · cases ek : fend l at_ with
            | none => exact absurd ek (of_decide_eq_false e)
            | some k =>
              rw [ek] at eR
              obtain ⟨k1, k2⟩ := fend_lt ha ek
              refine q_app (l := p) (xs := acc.map N1.vs) (x6 _ _ (x5 _ _ (x4 _ _ hp'))) (ev_var rfl) (ev_slS (lo := some (at_ : Int)) (hi := some (k : Int)) (ev_var rfl) (eo_some (ev_var rfl)) (eo_some (ev_var rfl)) (by omega) (cut_nat l at_ k)) (by rw [List.length_map]; omega) fun H7 x7 => ?_
              refine s_asg (ev_var rfl) fun H8 x8 => ?_
              refine ⟨k, acc ++ [sub l at_ k], some (vOpt (some k)), eR, k2, by omega, ?_, ?_, by rw [List.length_append]; simp; omega, rfl⟩
              · exact (Ex.mut ((((xE.trans x4).trans x5).trans x6).trans x7) hp).trans x8
              · rw [x8 _ _ upd_same, List.map_append]
                rfl
        · have hc := of_decide_eq_false em'
          have e1 : loopP l (m + 1) at_ acc = some (acc, at_) := if_neg hc
          rw [e1] at eR
          rw [← eR] at q
          refine q_asg (ev_slS (lo := some ((at_ + 1 : Nat) : Int)) (hi := none) (r := l.drop (at_ + 1)) (ev_var rfl) (eo_some (ev_op (ev_var rfl) ev_c rv_I0)) eo_none (by omega) (cut_from l (at_ + 1))) fun H5 x5 => ?_
          have hlast : (l.drop (at_ + 1)).length ≤ 20000 := by rw [List.length_drop]; omega
          refine q_when (b := decide (placesL acc > 254 ∨ (l.drop (at_ + 1) ≠ [86] ∧ isFieldL (l.drop (at_ + 1)) = false))) (et_is (et_or (et_test (ev_op (ev_call (z := .int (placesL acc)) (ea_cons (ev_var rfl) ea_nil) (fun H6 x6 Q' q' E' => ⟨p, acc, rfl, sq_of (x6 _ _ (x5 _ _ (x4 _ _ hp'))), by omega, q'⟩)) ev_c rv_I0)) fun _ => et_and (et_test (ev_op (ev_var rfl) ev_c (rv_neS (b := [86]) rfl (by decide +kernel)))) fun _ => et_not (et_B (ev_call (z := .bl (isFieldL (l.drop (at_ + 1)))) (ea_cons (ev_var rfl) ea_nil) (fun H6 x6 Q' q' E' => ⟨_, _, rfl, .inl ⟨_, rfl, hlast, rfl⟩, q'⟩)))) ?_) (fun e H6 x6 => ?_) (fun e H6 x6 => ?_)
          · cases isFieldL (l.drop (at_ + 1)) <;> simp
          · have q2 : RetV .non H Q := by
              have := q
              rw [finL_no (of_decide_eq_true e)] at this
              exact this
            exact s_ret ev_c fun H7 x7 => q2 H7 ((((xE.trans x4).trans x5).trans x6).trans x7)
          · have q2 : RetL ((acc ++ [l.drop (at_ + 1)]).map N1.vs) H Q := by
              have := q
              rw [finL_ok (of_decide_eq_false e)] at this
              exact this
            refine q_app (l := p) (xs := acc.map N1.vs) (x6 _ _ (x5 _ _ (x4 _ _ hp'))) (ev_var rfl) (ev_var rfl) (by rw [List.length_map]; omega) fun H7 x7 => ?_
            refine s_ret (ev_var rfl) fun H8 x8 => q2 p H8 hp ((Ex.mut ((((xE.trans x4).trans x5).trans x6).trans x7) hp).trans x8) ?_
            rw [x8 _ _ upd_same, List.map_append]
            rfl
    · refine q_when (b := true) (et_is (et_or (a := true) (b := false) (et_not (et_B (ev_noStr (ev_var rfl) hn))) fun e => by cases e) rfl) (fun e H1 x1 => ?_) (fun e H1 x1 => by cases e)
      exact s_ret ev_c fun H2 x2 => q H2 (x1.trans x2)
end
end N1

namespace N1
open PySem PySem.Spec PyProof.Rows L2 Evl
open SX (S)
section
variable {X : Cx} {C : Addr} {bmB : List Value} {B newId initId : String}
/-- X(), X an own exception class without own __init__ -/
theorem pmk_own0 {x : Str} {p pos : Pos} (F : ExcBaseFacts B newId initId bmB) (q : PySem.W.excIn X.K C bmB newId = true) (gC : X.mg x = some (.ref C)) (kC : PySem.W.keepIn X.K (.ref C) = true) (r : Raises X (.ref C)) (hg : Gl X x)
    (hdb : (x == ("__debug__" : Str)) = false := by decide) : PMk X (.Call (.Name x p) [] [] pos) (fun _ H Q => Q (.ref C) none H) := by
  intro pins s σ H Q I h
  refine wpAny_Call_Name_kw (ld_glob I hg gC ?_ hdb)
  refine PySem.W.callWith_K0 I.kIn kC ?_
  show wpAny _ _ (call (.ref C) []) _ _ _
  obtain ⟨bm, N, nm, qn, bs, hdct, sn, sub, ab, col, dd, k0, k1, k2, k3, k5, mN, hC, hN, hni, T⟩ := exc_obj I.kIn q
  refine wpAny_call_exc_subT F T hC hN hni (fun h' e hm => ?_) (Nat.zero_le _)
  exact mk_of I hm r h (I.hok.gone hm.new)
end
theorem q_asgAny {te : TE} {i : Nat} {tz : TS} {D : Ends} {σ : L2.St} {H : Hp} (h : te σ H fun v H1 => tz D (σ.set i (some v)) H1) : tSeq (tAsg te (gName i)) tz D σ H := h
/-- the error class NoDescriptor, at C -/
structure NoD (K : PySem.W.Frag) (mg : Str → Option Value) (C : Addr) : Prop where
  gC : mg "NoDescriptor" = some (.ref C)
  xP : PySem.W.excIn K C He.veBase "ValueError.__new__" = true
  kC : PySem.W.keepIn K (.ref C) = true
  bP : PySem.W.subIn K (.ref C) (.type "BaseException") = some true
  tP : PySem.W.typeIn K (.ref C) = some (.type "type")
  eP : PySem.W.exmOne K (.ref C) (.ref C) = some true
theorem cut_last (xs : List V) : cutV xs none (some (-1)) = xs.dropLast := by
  unfold cutV
  rw [HT.sIx_none, List.drop_zero, Nat.sub_zero]
  have e : HT.sIx xs.length xs.length (some (-1)) = xs.length - 1 := by
    show (if (-1 : Int) < 0 then ((-1 : Int) + (xs.length : Int)).toNat else min (-1 : Int).toNat xs.length) = _
    rw [if_pos (by decide)]
    omega
  rw [e, List.dropLast_eq_take]
theorem parts_ne {l : List Nat} {ps : List (List Nat)} (h : partsL l = some ps) : ∃ acc last, ps = acc ++ [last] := by
  unfold partsL at h
  split at h
  · cases hR : loopP l (l.length + 1) 1 [] with
    | none =>
      rw [hR] at h
      cases h
    | some r =>
      obtain ⟨acc, a⟩ := r
      rw [hR] at h
      by_cases c : placesL acc > 254 ∨ (l.drop (a + 1) ≠ [86] ∧ isFieldL (l.drop (a + 1)) = false)
      · rw [finL_no c] at h
        cases h
      · rw [finL_ok c] at h
        exact ⟨acc, _, (Option.some.inj h).symm⟩
  · cases h
section
variable {P : Program} {w : World} {K : PySem.W.Frag} {mg : Str → Option Value} {base : Heap} {C : Addr}
def spParams (K : PySem.W.Frag) (C : Addr) : Sp := fun vs H Q E => ∃ (x : V) (o : Option (List (List Nat))), vs = [x] ∧ PartsOf K H x o ∧ (o = none → ∀ H', Ex H H' → E (.ref C) none H') ∧ (∀ ps, o = some ps → RetL (ps.dropLast.map N1.vs) H Q)
def spResult (K : PySem.W.Frag) (C : Addr) : Sp := fun vs H Q E => ∃ (x : V) (o : Option (List (List Nat))), vs = [x] ∧ PartsOf K H x o ∧ (o = none → ∀ H', Ex H H' → E (.ref C) none H') ∧ (∀ acc last, o = some (acc ++ [last]) → RetV (N1.vs last) H Q)
theorem ok_params {f : Addr} {fd : FuncData} (F : FnP K "parameters" sParameters f fd) (B : Bt mg) (ND : NoD K mg C) (c_method_parts : Cl P w K mg base L2.CX0 6 "_method_parts" ["thing"] (spParts K)) :
    FnOk P w K mg base (L2.CX P w) 7 f fd ["descriptor"] (spParams K C) := by
  refine F.ok scParameters (fun vs H Q E h => ?_) (fun cdv A outer s H vs Q E hr h => ?_)
  · obtain ⟨x, o, rfl, _⟩ := h
    rfl
  · obtain ⟨x, o, rfl, hx, qE, q⟩ := h
    refine ⟨_, (pss_cons (ps_set (i := 1) scParameters.nd rfl (.inl rfl) (pe_cl c_method_parts hr (by decide) (by rfl) (pa_cons (pv 0) pa_nil)))
      (pss_cons (ps_if (pt_cmpR op_isN (pv 1) pe_non (nomark _)) (pss_one (ps_raise rfl (takes_of rfl rfl rfl rfl) (pmk_own0 PySem.F.excBase_ValueError ND.xP ND.gC ND.kC (raises_own ND.bP ND.tP) (by rfl)))) pss_nil)
      (pss_one (ps_ret (pe_slice sl_list (pv 1) po_none (po_some (pe_un un_neg pe_int))))))), ?_⟩
    refine q_asgAny ?_
    cases o with
    | none =>
      refine ⟨_, rfl, x, none, rfl, hx, fun H1 x1 => ?_⟩
      refine q_when (b := true) (et_test (ev_op (ev_var rfl) ev_c (rv_isO (o := none)))) (fun e H2 x2 => ?_) (fun e => by cases e)
      exact qE rfl H2 (x1.trans x2)
    | some ps =>
      refine ⟨_, rfl, x, some ps, rfl, hx, fun p H1 hp x1 h1 => ?_⟩
      refine q_when (b := false) (et_test (ev_op (ev_var rfl) ev_c (fun H2 _ Q q => ⟨rfl, q H2 (Ex.refl H2)⟩))) (fun e => by cases e) (fun e H2 x2 => ?_)
      refine s_retL (el_sl (lo := none) (hi := some (-1)) (ev_var rfl) eo_none (eo_some (ev_un ev_c ru_neg)) (sq_of (x2 _ _ h1))) fun p2 H3 hp2 x3 h3 => q ps rfl p2 H3 (fresh_back (x1.trans x2) hp2) ((x1.trans x2).trans x3) ?_
      rw [h3, cut_last, List.map_dropLast]
theorem ok_result {f : Addr} {fd : FuncData} (F : FnP K "result" sResult f fd) (B : Bt mg) (ND : NoD K mg C) (c_method_parts : Cl P w K mg base L2.CX0 6 "_method_parts" ["thing"] (spParts K)) :
    FnOk P w K mg base (L2.CX P w) 7 f fd ["descriptor"] (spResult K C) := by
  refine F.ok scResult (fun vs H Q E h => ?_) (fun cdv A outer s H vs Q E hr h => ?_)
  · obtain ⟨x, o, rfl, _⟩ := h
    rfl
  · obtain ⟨x, o, rfl, hx, qE, q⟩ := h
    refine ⟨_, (pss_cons (ps_set (i := 1) scResult.nd rfl (.inl rfl) (pe_cl c_method_parts hr (by decide) (by rfl) (pa_cons (pv 0) pa_nil)))
      (pss_cons (ps_if (pt_cmpR op_isN (pv 1) pe_non (nomark _)) (pss_one (ps_raise rfl (takes_of rfl rfl rfl rfl) (pmk_own0 PySem.F.excBase_ValueError ND.xP ND.gC ND.kC (raises_own ND.bP ND.tP) (by rfl)))) pss_nil)
      (pss_one (ps_ret (pe_ix ix_list (pv 1) (pe_un un_neg pe_int) (fun _ _ => rfl)))))), ?_⟩
    refine q_asgAny ?_
    cases o with
    | none =>
      refine ⟨_, rfl, x, none, rfl, hx, fun H1 x1 => ?_⟩
      refine q_when (b := true) (et_test (ev_op (ev_var rfl) ev_c (rv_isO (o := none)))) (fun e H2 x2 => ?_) (fun e => by cases e)
      exact qE rfl H2 (x1.trans x2)
    | some ps =>
      have hne : ∃ acc last, ps = acc ++ [last] := by
        rcases hx with ⟨l, _, _, e⟩ | ⟨_, e⟩
        · exact parts_ne e.symm
        · cases e
      obtain ⟨acc, last, rfl⟩ := hne
      refine ⟨_, rfl, x, some _, rfl, hx, fun p H1 hp x1 h1 => ?_⟩
      refine q_when (b := false) (et_test (ev_op (ev_var rfl) ev_c (fun H2 _ Q q => ⟨rfl, q H2 (Ex.refl H2)⟩))) (fun e => by cases e) (fun e H2 x2 => ?_)
      refine s_ret (v := N1.vs last) (ev_op (ev_var rfl) (ev_un ev_c ru_neg) (rv_ixL (sq_of (x2 _ _ h1)) ?_)) fun H3 x3 => q acc last rfl H3 ((x1.trans x2).trans x3)
      show atI ((acc ++ [last]).map N1.vs) (-1) = _
      rw [List.map_append]
      exact atI_last _ _
end
end N1

namespace N1
open PySem PySem.Spec PyProof.Rows L2 Evl
open SX (S)
/-! ### texts as data -/
def Asc (l : List Nat) : Prop := ∀ c ∈ l, c < 128
theorem Asc.ok {l : List Nat} (h : Asc l) : PyData.strOk (S l) = true := by
  show (S l).cps.all (· < 0x110000) = true
  rw [← Array.all_toList]
  refine List.all_eq_true.mpr fun c hc => decide_eq_true ?_
  have := h c hc
  omega
theorem Asc.app {a b : List Nat} (ha : Asc a) (hb : Asc b) : Asc (a ++ b) := fun c hc => by
  rcases List.mem_append.mp hc with h | h
  · exact ha c h
  · exact hb c h
theorem Asc.drop {a : List Nat} (ha : Asc a) (n : Nat) : Asc (a.drop n) := fun c hc => ha c (List.mem_of_mem_drop hc)
theorem Asc.take {a : List Nat} (ha : Asc a) (n : Nat) : Asc (a.take n) := fun c hc => ha c (List.mem_of_mem_take hc)
theorem Asc.sub {a : List Nat} (ha : Asc a) (i j : Nat) : Asc (sub a i j) := (ha.drop i).take _
def dS (l : List Nat) : PyData := .str (S l)
def dL (ls : List (List Nat)) : PyData := .list (ls.map dS)
theorem dS_eqv (a b : List Nat) : PyData.eqv (dS a) (dS b) = decide (a = b) := by
  have e : PyData.eqv (dS a) (dS b) = (S a == S b) := by simp only [dS, PyData.eqv]
  rw [e, SX.S_beq_eq]
theorem dSs_eqv : ∀ a b : List (List Nat), PyData.eqvAll (a.map dS) (b.map dS) = decide (a = b)
  | [], [] => rfl
  | [], _ :: _ => rfl
  | _ :: _, [] => rfl
  | x :: a, y :: b => by
    have e : PyData.eqvAll ((x :: a).map dS) ((y :: b).map dS) = (PyData.eqv (dS x) (dS y) && PyData.eqvAll (a.map dS) (b.map dS)) := by simp only [List.map_cons, PyData.eqvAll]
    rw [e, dS_eqv, dSs_eqv a b]
    by_cases h1 : x = y
    · by_cases h2 : a = b
      · rw [decide_eq_true h1, decide_eq_true h2, decide_eq_true (by rw [h1, h2])]; rfl
      · rw [decide_eq_true h1, decide_eq_false h2, decide_eq_false (fun e => h2 (List.cons.inj e).2)]; rfl
    · rw [decide_eq_false h1, decide_eq_false (fun e => h1 (List.cons.inj e).1)]; rfl
theorem dL_eqv (a b : List (List Nat)) : PyData.eqv (dL a) (dL b) = decide (a = b) := by
  have e : PyData.eqv (dL a) (dL b) = PyData.eqvAll (a.map dS) (b.map dS) := by simp only [dL, PyData.eqv]
  rw [e, dSs_eqv]
theorem dSs_lay : ∀ {a : List (List Nat)}, (∀ l ∈ a, Asc l) → PyData.canLayAll0 (a.map dS) = true
  | [], _ => rfl
  | x :: a, h => by
    have e : PyData.canLayAll0 ((x :: a).map dS) = (PyData.canLay0 (dS x) && PyData.canLayAll0 (a.map dS)) := by simp only [List.map_cons, PyData.canLayAll0]
    rw [e, dSs_lay (a := a) fun l hl => h l (List.mem_cons_of_mem _ hl)]
    have e2 : PyData.canLay0 (dS x) = PyData.strOk (S x) := by simp only [dS, PyData.canLay0]
    rw [e2, (h x (List.mem_cons_self ..)).ok]; rfl
theorem dSs_depth : ∀ a : List (List Nat), PyData.depthAll (a.map dS) ≤ 1
  | [] => by simp [PyData.depthAll]
  | x :: a => by
    have h1 := dSs_depth a
    have h2 : PyData.depth (dS x) ≤ 1 := by simp [dS, PyData.depth]
    simp only [List.map_cons, PyData.depthAll]
    omega
theorem dL_lay {a : List (List Nat)} (h : ∀ l ∈ a, Asc l) : PyData.canLay0 (dL a) = true := by
  simp only [dL, PyData.canLay0]
  exact dSs_lay h
theorem dL_depth (a : List (List Nat)) : PyData.depth (dL a) ≤ 2 := by
  have := dSs_depth a
  simp only [dL, PyData.depth]
  omega
theorem shaped_of {d : PyData} (h1 : d.canLay0 = true) (h2 : d.depth ≤ 64) : SeqAt.shaped d = true := by
  show (d.canLay0 && decide (d.depth ≤ 64)) = true
  rw [h1, decide_eq_true h2]; rfl
theorem dL_shaped {a : List (List Nat)} (h : ∀ l ∈ a, Asc l) : SeqAt.shaped (dL a) = true := shaped_of (dL_lay h) (by have := dL_depth a; omega)
section
variable {K : PySem.W.Frag} {σ : L2.St} {H H' : Hp} {ta tb tc te : TE} {tl th : TO} {t u : TT} {x y z v : V}
theorem dp_all : ∀ ls : List (List Nat), DpAll K H (ls.map N1.vs) (ls.map dS)
  | [] => .nil
  | l :: r => .cons (.str (S l)) (dp_all r)
theorem dp_strs {p : Addr} {ls : List (List Nat)} (h : SqL K H p (ls.map N1.vs)) : Dp K H (.ref p) (dL ls) := .lst h (dp_all ls)
theorem ev_eqNil {ls : List (List Nat)} (h : EvL te σ H (ls.map N1.vs)) (ha : ∀ l ∈ ls, Asc l) : Ev (tOp (rEqD K) te (tLst tNil)) σ H (.bl (decide (ls = []))) :=
  ev_opLL h (el_lst (vs := ([] : List (List Nat)).map N1.vs) ea_nil (by decide)) fun p q H1 hp hq _ => fun H2 e2 Q k => ⟨dL ls, dL [], dp_strs (sq_of (e2 _ _ hp)), dp_strs (sq_of (e2 _ _ hq)), dL_shaped ha, by decide +kernel, by rw [dL_eqv]; exact k H2 (Ex.refl H2)⟩
/-- a comprehension's list as a filter -/
theorem given_filter : ∀ (l : List (List Nat)) (f : List Nat → Bool), given l.length (fun i => f (l.getD i [])) (fun i => N1.vs (l.getD i [])) = (l.filter f).map N1.vs := by
  intro l f
  have key : ∀ n, n ≤ l.length → given n (fun i => f (l.getD i [])) (fun i => N1.vs (l.getD i [])) = ((l.take n).filter f).map N1.vs := by
    intro n
    induction n with
    | zero => intro _; simp [given]
    | succ n ih =>
      intro hn
      have hx : l[n]? = some l[n] := List.getElem?_eq_getElem (by omega)
      have et : l.take (n + 1) = l.take n ++ [l[n]] := by rw [List.take_add_one, hx]; rfl
      have eg : l.getD n [] = l[n] := getD_of hx
      cases hf : f (l[n]) with
      | true =>
        rw [given_yes (by rw [eg]; exact hf), ih (by omega), et, List.filter_append, List.map_append, eg, List.filter_cons, if_pos hf]; rfl
      | false =>
        rw [given_no (by rw [eg]; exact hf), ih (by omega), et, List.filter_append, List.map_append, List.filter_cons, if_neg (by rw [hf]; decide)]
        simp
  have := key l.length (Nat.le_refl _)
  rwa [List.take_length] at this
theorem given_filterS (l : List Nat) (f : Nat → Bool) : given l.length (fun i => f (l.getD i 0)) (fun i => N1.vs [l.getD i 0]) = ((l.filter f).map fun c => [c]).map N1.vs := by
  have key : ∀ n, n ≤ l.length → given n (fun i => f (l.getD i 0)) (fun i => N1.vs [l.getD i 0]) = (((l.take n).filter f).map fun c => [c]).map N1.vs := by
    intro n
    induction n with
    | zero => intro _; simp [given]
    | succ n ih =>
      intro hn
      have hx : l[n]? = some l[n] := List.getElem?_eq_getElem (by omega)
      have et : l.take (n + 1) = l.take n ++ [l[n]] := by rw [List.take_add_one, hx]; rfl
      have eg : l.getD n 0 = l[n] := getD_of hx
      cases hf : f (l[n]) with
      | true =>
        rw [given_yes (by rw [eg]; exact hf), ih (by omega), et, List.filter_append, List.map_append, List.map_append, eg, List.filter_cons, if_pos hf]; rfl
      | false =>
        rw [given_no (by rw [eg]; exact hf), ih (by omega), et, List.filter_append, List.map_append, List.filter_cons, if_neg (by rw [hf]; decide)]
        simp
  have := key l.length (Nat.le_refl _)
  rwa [List.take_length] at this
abbrev rNotIn : R2 := fun x y H Q => ∃ (c : Nat) (z : Str), x = .str ⟨#[c]⟩ ∧ y = .str z ∧ Q (.bl (!decide (c ∈ z.cps.toList))) H
abbrev rInSgn : R2 := fun x y H Q => ∃ (c : Nat) (z : Str), x = .str ⟨#[c]⟩ ∧ y = .str z ∧ Q (.bl (decide (c ∈ z.cps.toList))) H
theorem rv_notIn {c : Nat} {l : List Nat} {z1 : Str} (e : z1 = S l) : RV rNotIn (.str (S [c])) (.str z1) H (.bl (!decide (c ∈ l))) := fun H1 _ Q q => ⟨c, z1, rfl, rfl, by subst e; exact q H1 (Ex.refl H1)⟩
theorem rv_inSgn {c : Nat} {l : List Nat} {z1 : Str} (e : z1 = S l) : RV rInSgn (.str (S [c])) (.str z1) H (.bl (decide (c ∈ l))) := fun H1 _ Q q => ⟨c, z1, rfl, rfl, by subst e; exact q H1 (Ex.refl H1)⟩
abbrev rAddStr : R2 := fun x y H Q => ∃ i j, x = .str i ∧ y = .str j ∧ i.length + j.length ≤ sizeLine ∧ Q (.str (i ++ j)) H
theorem rv_addS {a b : List Nat} {z1 z2 : Str} (e1 : z1 = S a) (e2 : z2 = S b) (h : a.length + b.length ≤ 100000) : RV rAddStr (.str z1) (.str z2) H (.str (S (a ++ b))) := fun H1 _ Q q => by
  subst e1 e2
  refine ⟨_, _, rfl, rfl, ?_, ?_⟩
  · rw [SX.S_len, SX.S_len]
    exact sz_of h
  · rw [SX.S_cat]
    exact q H1 (Ex.refl H1)
abbrev rUp : V → List V → Hp → VK → Prop := fun x xs H Q => ∃ a, x = .str a ∧ xs = [] ∧ a.length ≤ 5592405 ∧ Q (.str (Txt.upper a)) H
theorem ev_upper {l : List Nat} {z1 : Str} (e1 : z1 = S l) (h : Ev ta σ H (.str z1)) (hl : l.length ≤ 20000) (ha : l.all (· < 128) = true) : Ev (tM0 rUp ta) σ H (.str (S (l.map PyProof.Rows.up1))) := fun H1 e Q q =>
  h H1 e _ fun H2 e2 => ⟨⟨_, rfl⟩, z1, rfl, rfl, by subst e1; rw [SX.S_len]; omega, by subst e1; rw [SX.upper_S ha]; exact q H2 e2⟩
/-- a text of small signs, of which f tells b; or no text -/
def TellA (K : PySem.W.Frag) (H : Hp) (x : V) (f : List Nat → Bool) (b : Bool) : Prop := (∃ l, x = .str (S l) ∧ l.length ≤ 20000 ∧ Asc l ∧ b = f l) ∨ (NoStr K H x ∧ b = false)
end
def low26 : List Nat := [97, 98, 99, 100, 101, 102, 103, 104, 105, 106, 107, 108, 109, 110, 111, 112, 113, 114, 115, 116, 117, 118, 119, 120, 121, 122]
def allSigns : List Nat := (low26 ++ low26.map PyProof.Rows.up1) ++ [48, 49, 50, 51, 52, 53, 54, 55, 56, 57, 95, 36]
theorem allSigns_is (c : Nat) : decide (c ∈ allSigns) = isSign c := by
  by_cases h : c < 128
  · have key : ∀ c, c < 128 → decide (c ∈ allSigns) = isSign c := by decide +kernel
    exact key c h
  · have hm : ∀ x ∈ allSigns, x < 128 := by decide +kernel
    have h1 : ¬ c ∈ allSigns := fun hc => h (hm c hc)
    rw [decide_eq_false h1]
    unfold isSign
    rw [decide_eq_false (p := c ≤ 122) (by omega), decide_eq_false (p := c ≤ 90) (by omega), decide_eq_false (p := c ≤ 57) (by omega), decide_eq_false (p := c = 95) (by omega), decide_eq_false (p := c = 36) (by omega)]
    simp
section
variable {P : Program} {w : World} {K : PySem.W.Frag} {mg : Str → Option Value} {base : Heap}
def spNameA (K : PySem.W.Frag) (f : List Nat → Bool) : Sp := fun vs H Q _ => ∃ (x : V) (b : Bool), vs = [x] ∧ TellA K H x f b ∧ RetV (.bl b) H Q
theorem filter_nil {α : Type} {l : List α} {f : α → Bool} : decide ((l.filter fun x => !f x) = []) = l.all f := by
  cases h : l.all f with
  | true =>
    refine decide_eq_true (List.filter_eq_nil_iff.mpr fun x hx => ?_)
    rw [List.all_eq_true.mp h x hx]
    decide
  | false =>
    refine decide_eq_false fun e => ?_
    have h2 : l.all f = true := List.all_eq_true.mpr fun x hx => by
      have := List.filter_eq_nil_iff.mp e x hx
      cases hf : f x with
      | true => rfl
      | false => rw [hf] at this; exact absurd rfl this
    rw [h] at h2
    cases h2
theorem ok_lawIsName {f : Addr} {fd : FuncData} (F : FnP K "_law_is_name" sLawIsName f fd) (B : Bt mg) : FnOk P w K mg base L2.CX0 1 f fd ["thing"] (spNameA K isNameL) := by
  refine F.ok scLawIsName (fun vs H Q E h => ?_) (fun cdv A outer s H vs Q E hr h => ?_)
  · obtain ⟨x, b, rfl, _⟩ := h
    rfl
  · obtain ⟨x, b, rfl, hx, q⟩ := h
    refine ⟨_, PSs.nox (pss_cons (ps_if (PW.pt (pw_or (pt_not (pt_val (pe_callB call_isi (by rfl) B.isi (by decide +kernel) (pa_cons (pv 0) (pa_cons (pe_bltn (v := .ty "str") (by rfl) B.str (by decide +kernel) rfl) pa_nil))))) (pw_or1 (pt_not (pt_chain op_le op_le pe_int (pe_callB call_len_str (by rfl) B.len PySem.boot_len (pa_cons (pv 0) pa_nil)) pe_int))))) (pss_one (ps_ret pe_bl)) pss_nil)
      (pss_cons (ps_set (i := 1) scLawIsName.nd rfl (.inr rfl) pe_str)
      (pss_one (ps_ret (pe_cmpR (op_eqD hr.units) (pe_lc (own := [("sign", 2)]) (g := gName 2) rfl scLawIsName.nd (pi_str (pv 0)) (blkOk_by (N := ["thing", "letters", "sign"]) (sc := L2.defScope sLawIsName) (by decide +kernel)) (fun _ _ _ _ _ => pg_name (i := 2) scLawIsName.nd rfl (Or.inl rfl)) (fun _ _ _ _ _ => (pts_one (pt_cmpR op_notIn_sign (pv 2) (pe_op op_add_str (pe_op op_add_str (pv 1) (pe_upper (pv 1))) pe_str) rfl))) (fun _ _ _ _ _ => (pv 2))) (pe_lst pa_nil) (nomark _)))))), ?_⟩
    rcases hx with ⟨l, rfl, hl, hA, rfl⟩ | ⟨hn, rfl⟩
    · refine q_when (b := !(decide (1 ≤ l.length) && decide (l.length ≤ 30))) ?_ (fun e H1 x1 => ?_) (fun e H1 x1 => ?_)
      · refine et_is (et_or (et_not (et_B (ev_isStr (ev_var rfl)))) fun _ => et_not (et_test (ev_chain (a := decide (1 ≤ l.length)) (b := decide (l.length ≤ 30)) ev_c (ev_lenS (ev_var rfl) (by omega)) ?_ fun _ => ⟨ev_c, ?_⟩))) ?_
        · exact rv_is rv_le (bl_iff (by omega))
        · exact rv_is rv_le (bl_iff (by omega))
        · rfl
      · refine s_ret (v := .bl (isNameL l)) (ev_is ev_c ?_) (fun H2 x2 => q H2 (x1.trans x2))
        unfold isNameL
        rw [Bool.not_eq_true'] at e
        rw [e]; rfl
      · rw [Bool.not_eq_false'] at e
        refine q_asg ev_c fun H2 x2 => ?_
        refine s_ret (v := .bl (isNameL l)) (ev_is (ev_eqNil (ls := (l.filter fun c => !isSign c).map fun c => [c]) ?_ ?_) ?_) fun H3 x3 => q H3 ((x1.trans x2).trans x3)
        · rw [← given_filterS l (fun c => !isSign c)]
          refine el_lcS (fun i => !isSign (l.getD i 0)) (fun i => N1.vs [l.getD i 0]) (ev_var rfl) (by omega) (fun _ => rfl) (fun i c H3 _ hc => ?_) (fun i c H3 _ hc _ => ?_)
          · rw [getD_of hc, ← allSigns_is]
            exact et_test (ev_op (ev_var rfl) (ev_op (ev_op (ev_var rfl) (ev_upper (l := low26) (by decide +kernel) (ev_var rfl) (by decide) (by decide +kernel)) (rv_addS (a := low26) (by decide +kernel) rfl (by decide))) ev_c (rv_addS (b := [48, 49, 50, 51, 52, 53, 54, 55, 56, 57, 95, 36]) rfl (by decide +kernel) (by decide))) (rv_notIn rfl))
          · rw [getD_of hc]
            exact ev_var rfl
        · intro x hx
          obtain ⟨c, hc, rfl⟩ := List.mem_map.mp hx
          intro d hd
          rw [List.mem_singleton.mp hd]
          exact hA c (List.mem_filter.mp hc).1
        · unfold isNameL
          rw [e, Bool.true_and, ← filter_nil (f := isSign)]
          exact congrArg V.bl (decide_eq_decide.mpr List.map_eq_nil_iff)
    · refine q_when (b := true) ?_ (fun e H1 x1 => ?_) (fun e H1 x1 => by cases e)
      · exact et_is (et_or (b := false) (et_not (et_B (ev_noStr (ev_var rfl) hn))) fun e => by cases e) rfl
      · exact s_ret ev_c (fun H2 x2 => q H2 (x1.trans x2))
end
end N1

namespace N1
open PySem PySem.Spec PyProof.Rows L2 Evl
open SX (S)
theorem spl_asc (c : Nat) : ∀ (l acc : List Nat) (p : List Nat), Asc l → Asc acc → p ∈ TL.spl [c] 0 acc l → Asc p
  | [], acc, p, _, ha, h => by
    rw [TL.spl_nil] at h
    rw [List.mem_singleton.mp h]
    exact ha
  | d :: r, acc, p, hl, ha, h => by
    have hr : Asc r := fun x hx => hl x (List.mem_cons_of_mem _ hx)
    cases hp : TL.pre [c] (d :: r) with
    | true =>
      rw [TL.spl_hit hp, show TL.spl [c] ([c].length - 1) [] r = TL.spl [c] 0 [] r from rfl] at h
      rcases List.mem_cons.mp h with rfl | h
      · exact ha
      · exact spl_asc c r [] p hr (fun x hx => by cases hx) h
    | false =>
      rw [TL.spl_miss hp] at h
      exact spl_asc c r (acc ++ [d]) p hr (ha.app fun x hx => by rw [List.mem_singleton.mp hx]; exact hl d (List.mem_cons_self ..)) h
theorem sub1 (l : List Nat) (a : Nat) : sub l a (a + 1) = (match l[a]? with
    | some c => [c]
    | none => []) := by
  unfold sub
  rw [show a + 1 - a = 1 by omega]
  by_cases h : a < l.length
  · rw [List.getElem?_eq_getElem h, List.drop_eq_getElem_cons h]; rfl
  · rw [List.getElem?_eq_none (by omega), List.drop_of_length_le (by omega)]; rfl
theorem sub1_is (l : List Nat) (a c : Nat) : decide (sub l a (a + 1) = [c]) = decide (l[a]? = some c) := by
  rw [sub1]
  cases l[a]? with
  | none => rfl
  | some d =>
    refine decide_eq_decide.mpr ⟨fun e => ?_, fun e => ?_⟩
    · rw [(List.cons.inj e).1]
    · rw [Option.some.inj e]
section
variable {P : Program} {w : World} {K : PySem.W.Frag} {mg : Str → Option Value} {base : Heap}
theorem ok_lawIsClass {f : Addr} {fd : FuncData} (F : FnP K "_law_is_class_name" sLawIsClassName f fd) (B : Bt mg) (c_law_is_name : Cl P w K mg base L2.CX0 1 "_law_is_name" ["thing"] (spNameA K isNameL)) :
    FnOk P w K mg base L2.CX0 2 f fd ["thing"] (spNameA K isClassL) := by
  refine F.ok scLawIsClassName (fun vs H Q E h => ?_) (fun cdv A outer s H vs Q E hr h => ?_)
  · obtain ⟨x, b, rfl, _⟩ := h
    rfl
  · obtain ⟨x, b, rfl, hx, q⟩ := h
    refine ⟨_, PSs.nox (pss_cons (ps_if (PW.pt (pw_or (pt_not (pt_val (pe_callB call_isi (by rfl) B.isi (by decide +kernel) (pa_cons (pv 0) (pa_cons (pe_bltn (v := .ty "str") (by rfl) B.str (by decide +kernel) rfl) pa_nil))))) (pw_or1 (pt_cmpR op_gt (pe_callB call_len_str (by rfl) B.len PySem.boot_len (pa_cons (pv 0) pa_nil)) pe_int (nomark _))))) (pss_one (ps_ret pe_bl)) pss_nil)
      (pss_one (ps_ret (pe_cmpR (op_eqD hr.units) (pe_lc (own := [("part", 1)]) (g := gName 1) rfl scLawIsClassName.nd (pi_list (pe_split (pv 0) pe_str)) (blkOk_by (N := ["thing", "part"]) (sc := L2.defScope sLawIsClassName) (by decide +kernel)) (fun _ _ _ _ _ => pg_name (i := 1) scLawIsClassName.nd rfl (Or.inl rfl)) (fun _ _ _ _ _ => (pts_one (pt_not (pt_val (pe_cl c_law_is_name hr (by decide) (by rfl) (pa_cons (pv 1) pa_nil)))))) (fun _ _ _ _ _ => (pv 1))) (pe_lst pa_nil) (nomark _))))), ?_⟩
    rcases hx with ⟨l, rfl, hl, hA, rfl⟩ | ⟨hn, rfl⟩
    · refine q_when (b := !decide (l.length ≤ 60)) ?_ (fun e H1 x1 => ?_) (fun e H1 x1 => ?_)
      · refine et_is (et_or (et_not (et_B (ev_isStr (ev_var rfl)))) fun _ => et_test (b := !decide (l.length ≤ 60)) (ev_op (ev_lenS (ev_var rfl) (by omega)) ev_c (rv_is rv_I0 ?_))) ?_
        · refine congrArg V.bl ?_
          rw [← decide_not]
          exact decide_eq_decide.mpr (by omega)
        · rfl
      · refine s_ret (v := .bl (isClassL l)) (ev_is ev_c ?_) (fun H2 x2 => q H2 (x1.trans x2))
        unfold isClassL
        rw [Bool.not_eq_true'] at e
        rw [e]; rfl
      · rw [Bool.not_eq_false'] at e
        have el : l.length ≤ 60 := of_decide_eq_true e
        refine s_ret (v := .bl (isClassL l)) (ev_is (ev_eqNil (ls := (TL.spl [47] 0 [] l).filter fun p => !isNameL p) ?_ ?_) ?_) fun H3 x3 => q H3 (x1.trans x3)
        · rw [← given_filter (TL.spl [47] 0 [] l) (fun p => !isNameL p)]
          have e2 := el_lcNL (K := K) (σ := start ["thing", "part"] [V.str (S l)]) (H := H1) (te := tVar 1) (t := tNot (tB (tCall (spNameA K isNameL) [] L2.E0 (tCons (tVar 1) tNil)))) (j := 1) (vs := [1]) (fun i => !isNameL ((TL.spl [47] 0 [] l).getD i [])) (fun i => N1.vs ((TL.spl [47] 0 [] l).getD i [])) (el_split (ta := tVar 0) (z := "/") (c := 47) (by decide +kernel) (by decide) (ev_var rfl) (by omega))
            (by rw [List.length_map]; have := spl_num 47 l []; omega) (fun _ => rfl) (fun i c H2 x2 hc => by
              rw [List.getElem?_map] at hc
              cases hp : (TL.spl [47] 0 [] l)[i]? with
              | none => rw [hp] at hc; cases hc
              | some p =>
                rw [hp] at hc
                cases hc
                rw [getD_of hp]
                have hm := List.mem_of_getElem? hp
                exact et_not (et_B (ev_call (ea_cons (ev_var rfl) ea_nil) (fun H3 e3 Q q E => ⟨_, _, rfl, .inl ⟨p, rfl, by have := spl_len 47 l [] p hm; simp at this; omega, spl_asc 47 l [] p hA (fun x hx => by cases hx) hm, rfl⟩, q⟩)))) (fun i c H2 x2 hc _ => by
              rw [List.getElem?_map] at hc
              cases hp : (TL.spl [47] 0 [] l)[i]? with
              | none => rw [hp] at hc; cases hc
              | some p =>
                rw [hp] at hc
                cases hc
                rw [getD_of hp]
                exact ev_var rfl)
          rw [List.length_map] at e2
          exact e2
        · intro p hp
          exact spl_asc 47 l [] p hA (fun x hx => by cases hx) (List.mem_filter.mp hp).1
        · unfold isClassL
          rw [e, Bool.true_and, ← filter_nil (f := isNameL)]
    · refine q_when (b := true) ?_ (fun e H1 x1 => ?_) (fun e H1 x1 => by cases e)
      · exact et_is (et_or (b := false) (et_not (et_B (ev_noStr (ev_var rfl) hn))) fun e => by cases e) rfl
      · exact s_ret ev_c (fun H2 x2 => q H2 (x1.trans x2))
def spLawFieldEnd : Sp := fun vs H Q _ => ∃ (l : List Nat) (b : Nat), vs = [.str (S l), .int (b : Int)] ∧ l.length ≤ 20000 ∧ Asc l ∧ b ≤ l.length ∧ RetV (.int (vI (fend l b))) H Q
theorem ok_lawFieldEnd {f : Addr} {fd : FuncData} (F : FnP K "_law_field_end" sLawFieldEnd f fd) (B : Bt mg) (c_law_is_class_name : Cl P w K mg base L2.CX0 2 "_law_is_class_name" ["thing"] (spNameA K isClassL)) :
    FnOk P w K mg base L2.CX0 3 f fd ["text", "at"] spLawFieldEnd := by
  refine F.ok scLawFieldEnd (fun vs H Q E h => ?_) (fun cdv A outer s H vs Q E hr h => ?_)
  · obtain ⟨l, b, rfl, _⟩ := h
    rfl
  · obtain ⟨l, b, rfl, hl, hA, hb, q⟩ := h
    refine ⟨_, PSs.nox (pss_cons (ps_set (i := 2) scLawFieldEnd.nd rfl (.inl rfl) pe_int)
      (pss_cons (ps_while PassesOwn.never (pt_cmpR op_eq (pe_slice sl_str (pv 0) (po_some (pv 1)) (po_some (pe_op op_add (pv 1) pe_int))) pe_str (nomark _)) (pss_cons (ps_set (i := 2) scLawFieldEnd.nd rfl (.inl rfl) (pe_op op_add (pv 2) pe_int))
      (pss_one (ps_set (i := 1) scLawFieldEnd.nd rfl (.inl rfl) (pe_op op_add (pv 1) pe_int)))))
      (pss_cons (ps_if (PW.pt (pw_or (pt_cmpR op_gt (pv 2) pe_int (nomark _)) (pw_or1 (pt_cmpR op_ge (pv 1) (pe_callB call_len_str (by rfl) B.len PySem.boot_len (pa_cons (pv 0) pa_nil)) (nomark _))))) (pss_one (ps_ret (pe_un un_neg pe_int))) pss_nil)
      (pss_cons (ps_if (pt_cmpR op_in_sign (pe_ix ix_str (pv 0) (pv 1) (fun _ _ => rfl)) pe_str rfl) (pss_one (ps_ret (pe_op op_add (pv 1) pe_int))) pss_nil)
      (pss_cons (ps_set (i := 3) scLawFieldEnd.nd rfl (.inl rfl) (pe_bm PySem.F.plainAttrs_str PySem.F.slot_str_find PySem.F.type_str_find mt_find3 (pv 0) (pa_cons pe_str (pa_cons (pv 1) pa_nil))))
      (pss_one (ps_ret (pe_ifExp (PW.pt (pw_and (pt_cmpR op_eq (pe_ix ix_str (pv 0) (pv 1) (fun _ _ => rfl)) pe_str (nomark _)) (pw_and (pt_cmpR op_gt (pv 3) pe_int (nomark _)) (pw_and1 (pt_val (pe_cl c_law_is_class_name hr (by decide) (by rfl) (pa_cons (pe_slice sl_str (pv 0) (po_some (pe_op op_add (pv 1) pe_int)) (po_some (pv 3))) pa_nil))))))) (pe_op op_add (pv 3) pe_int) (pe_un un_neg pe_int))))))))), ?_⟩
    refine q_asg ev_c fun H1 x1 => ?_
    have hnb := nb_le (l.drop b)
    rw [List.length_drop] at hnb
    have hslc : ∀ (a : Nat) (σ' : L2.St) (H5 : Hp), σ'[0]? = some (some (.str (S l))) → σ'[1]? = some (some (.int (a : Int))) → Ev (tSl rSlS (tVar 0) (tPart (tVar 1)) (tPart (tOp (rI0 fun i j => V.int (i + j)) (tVar 1) (tC (.int 1))))) σ' H5 (.str (S (sub l a (a + 1)))) :=
      fun a σ' H5 h0 h1 => ev_slS (lo := some (a : Int)) (hi := some ((a + 1 : Nat) : Int)) (ev_var h0) (eo_some (ev_var h1)) (eo_some (ev_op (ev_var h1) ev_c rv_I0)) (by omega) (cut_nat l a (a + 1))
    refine q_while (fun m σ' H' => ∃ i : Nat, m + i = nb (l.drop b) ∧ Ex H H' ∧ σ' = [some (.str (S l)), some (.int ((b + i : Nat) : Int)), some (.int (i : Int)), none]) (nb (l.drop b)) ⟨0, by omega, x1, rfl⟩ (fun m σ' H' hW => ?_)
    obtain ⟨i, em, x2, rfl⟩ := hW
    refine ⟨decide (0 < m), ?_, fun em' H2 x3 => ?_, fun em' H2 x3 => ?_⟩
    · refine et_is (et_test (ev_op (hslc (b + i) _ _ rfl rfl) ev_c (rv_eqS (b := [91]) rfl (by decide +kernel)))) ?_
      rw [sub1_is]
      have hd : (l.drop b)[i]? = l[b + i]? := by rw [List.getElem?_drop]
      rw [← hd]
      refine decide_eq_decide.mpr ⟨fun e => ?_, fun e => nb_at (l.drop b) i (by omega)⟩
      by_cases hi : i = nb (l.drop b)
      · exact absurd e (by rw [hi]; exact nb_end _)
      · omega
    · have hm := of_decide_eq_true em'
      refine ⟨fun σ2 H3 => ∃ i : Nat, (m - 1) + i = nb (l.drop b) ∧ Ex H H3 ∧ σ2 = [some (.str (S l)), some (.int ((b + i : Nat) : Int)), some (.int (i : Int)), none], fun σ2 H3 h => ⟨m - 1, by omega, h⟩, ?_⟩
      refine q_asg (ev_op (ev_var rfl) ev_c rv_I0) fun H3 x4 => s_asg (ev_op (ev_var rfl) ev_c rv_I0) fun H4 x5 => ⟨i + 1, by omega, ((x2.trans x3).trans x4).trans x5, ?_⟩
      show [some (V.str (S l)), some (.int (((b + i : Nat) : Int) + 1)), some (.int ((i : Int) + 1)), none] = _
      rw [show ((b + i : Nat) : Int) + 1 = ((b + (i + 1) : Nat) : Int) by omega, show (i : Int) + 1 = ((i + 1 : Nat) : Int) by omega]
    · have hm := of_decide_eq_false em'
      have ei : i = nb (l.drop b) := by omega
      have q2 : RetV (.int (vI (fend l b))) H2 Q := fun H3 e3 => q H3 ((x2.trans x3).trans e3)
      clear q
      unfold fend at q2
      rw [← ei] at q2
      refine q_when (b := decide (i > 5) || decide (b + i = l.length)) (et_or (et_test (ev_op (ev_var rfl) ev_c (rv_is rv_I0 (bl_iff (by omega))))) fun _ => et_test (ev_op (ev_var rfl) (ev_lenS (ev_var rfl) (by omega)) (rv_is rv_I0 (bl_iff (by omega))))) (fun e H3 x4 => ?_) (fun e H3 x4 => ?_)
      · have e' : b + i = l.length ∨ i > 5 := by
          rcases Bool.or_eq_true_iff.mp e with h | h
          · exact .inr (of_decide_eq_true h)
          · exact .inl (of_decide_eq_true h)
        rw [if_pos e'] at q2
        exact s_ret (ev_un ev_c ru_neg) fun H4 x5 => q2 H4 (x4.trans x5)
      · have e2 : ¬ (b + i = l.length ∨ i > 5) := by
          intro h
          have : (decide (i > 5) || decide (b + i = l.length)) = true := by
            rcases h with h | h
            · rw [decide_eq_true h, Bool.or_true]
            · rw [decide_eq_true h, Bool.true_or]
          rw [this] at e
          cases e
        rw [if_neg e2] at q2
        obtain ⟨c, hc⟩ : ∃ c, l[b + i]? = some c := ⟨_, List.getElem?_eq_getElem (by omega)⟩
        rw [getD_of hc] at q2
        have hat : ∀ v H5, Ev (tOp rIxS (tVar 0) (tVar 1)) [some (V.str (S l)), some (.int ((b + i : Nat) : Int)), some (.int (i : Int)), v] H5 (.str (S [c])) := fun v H5 => ev_at (ev_var rfl) (ev_var rfl) (by omega) hc
        refine q_when (b := letters.any fun x => decide (c = x)) (et_test (ev_is (ev_op (hat _ H3) ev_c (rv_inSgn (l := letters) (by decide +kernel))) ?_)) (fun e H4 x5 => ?_) (fun e H4 x5 => ?_)
        · refine congrArg V.bl ?_
          rw [Bool.eq_iff_iff]
          simp
        · rw [if_pos e] at q2
          refine s_ret (ev_op (ev_var rfl) ev_c rv_I0) fun H5 x6 => ?_
          have := q2 H5 ((x4.trans x5).trans x6)
          exact this
        · rw [if_neg (by rw [e]; decide)] at q2
          refine q_asg (ev_find (by decide +kernel) (ev_var rfl) (ev_var rfl)) fun H5 x6 => ?_
          cases ek : fnd l (b + i) with
          | none =>
            rw [ek] at q2
            refine s_ret (v := .int (-1)) (ev_if (b := false) (et_is (et_and (a := decide ([c] = [76])) (b := false) (et_test (ev_op (hat _ H5) ev_c (rv_eqS rfl (by decide +kernel)))) fun _ => et_is (et_and (a := false) (b := false) (et_test (ev_op (ev_var rfl) ev_c (rv_is rv_I0 ?_))) fun e => by cases e) rfl) (Bool.and_false _)) (fun e => by cases e) (fun _ => ev_un ev_c ru_neg)) fun H7 x8 => q2 H7 (((x4.trans x5).trans x6).trans x8)
            exact congrArg V.bl (decide_eq_false (by show ¬ ((0 : Int) < -1); omega))
          | some k =>
            obtain ⟨k1, k2, k3, k4⟩ := fnd_some ek
            rw [ek] at q2
            by_cases hc76 : c = 76
            · subst hc76
              have k0 : 0 < k := by
                rcases Nat.lt_or_ge (b + i) k with h | h
                · omega
                · have : k = b + i := by omega
                  subst this
                  rw [getD_of hc] at k3
                  cases k3
              refine s_ret (v := .int (vI (if isClassL (sub l (b + i + 1) k) = true then some (k + 1) else none))) (ev_if (b := isClassL (sub l (b + i + 1) k)) (et_is (et_and (a := true) (b := isClassL (sub l (b + i + 1) k)) (et_test (ev_op (hat _ H5) ev_c (rv_is (rv_eqS (b := [76]) rfl (by decide +kernel)) rfl))) fun _ => et_is (et_and (a := true) (b := isClassL (sub l (b + i + 1) k)) (et_test (ev_op (ev_var rfl) ev_c (rv_is rv_I0 ?_))) fun _ => et_B (ev_call (ea_cons (ev_slS (ev_var rfl) (eo_some (ev_op (ev_var rfl) ev_c rv_I0)) (eo_some (ev_var rfl)) (by omega) (r := sub l (b + i + 1) k) ?_) ea_nil) ?_)) (Bool.true_and _)) (Bool.true_and _)) (fun e => ?_) (fun e => ?_)) fun H7 x8 => ?_
              · exact congrArg V.bl (decide_eq_true (by show (0 : Int) < (k : Int); omega))
              · exact cut_nat l (b + i + 1) k
              · intro H6 x7 Q' q' E'
                refine ⟨_, _, rfl, .inl ⟨_, rfl, ?_, hA.sub _ _, rfl⟩, q'⟩
                unfold sub
                rw [List.length_take, List.length_drop]
                omega
              · rw [if_pos e]
                exact ev_op (ev_var rfl) ev_c rv_I0
              · rw [if_neg (by rw [e]; decide)]
                exact ev_un ev_c ru_neg
              · have := q2 H7 (((x4.trans x5).trans x6).trans x8)
                simpa using this
            · refine s_ret (v := .int (-1)) (ev_if (b := false) (et_is (et_and (a := false) (b := false) (et_test (ev_op (hat _ H5) ev_c (rv_is (rv_eqS (b := [76]) rfl (by decide +kernel)) ?_))) fun e => by cases e) rfl) (fun e => by cases e) (fun _ => ev_un ev_c ru_neg)) fun H7 x8 => ?_
              · exact congrArg V.bl (decide_eq_false fun e => hc76 (List.cons.inj e).1)
              · have := q2 H7 (((x4.trans x5).trans x6).trans x8)
                simpa [vI, hc76] using this
end
end N1

namespace N1
open PySem PySem.Spec PyProof.Rows L2 Evl
open SX (S)
def dataO : Option (List (List Nat) × List Nat) → PyData
  | none => .none
  | some (ps, last) => .tuple [dL ps, dS last]
def pairOf (o : Option (List (List Nat))) : Option (List (List Nat) × List Nat) := o.map fun ps => (ps.dropLast, ps.getLastD [])
theorem pair_snoc (acc : List (List Nat)) (last : List Nat) : pairOf (some (acc ++ [last])) = some (acc, last) := by
  show some ((acc ++ [last]).dropLast, (acc ++ [last]).getLastD []) = _
  rw [List.dropLast_concat]
  congr 2
  simp [List.getLastD_eq_getLast?]
theorem dataO_eqv (a b : Option (List (List Nat) × List Nat)) : PyData.eqv (dataO a) (dataO b) = decide (a = b) := by
  cases a with
  | none => cases b with
    | none => rfl
    | some b => obtain ⟨q, m⟩ := b; rfl
  | some a =>
    obtain ⟨p, l⟩ := a
    cases b with
    | none => rfl
    | some b =>
      obtain ⟨q, m⟩ := b
      have e : PyData.eqv (dataO (some (p, l))) (dataO (some (q, m))) = (PyData.eqv (dL p) (dL q) && (PyData.eqv (dS l) (dS m) && true)) := by simp only [dataO, PyData.eqv, PyData.eqvAll]
      rw [e, dL_eqv, dS_eqv]
      by_cases h1 : p = q
      · by_cases h2 : l = m
        · rw [decide_eq_true h1, decide_eq_true h2, decide_eq_true (by rw [h1, h2])]; rfl
        · rw [decide_eq_true h1, decide_eq_false h2, decide_eq_false (fun e => h2 (Prod.mk.inj (Option.some.inj e)).2)]; rfl
      · rw [decide_eq_false h1, Bool.false_and, decide_eq_false (fun e => h1 (Prod.mk.inj (Option.some.inj e)).1)]
def AscO (o : Option (List (List Nat) × List Nat)) : Prop := ∀ ps last, o = some (ps, last) → (∀ l ∈ ps, Asc l) ∧ Asc last
theorem dataO_shaped {o : Option (List (List Nat) × List Nat)} (h : AscO o) : SeqAt.shaped (dataO o) = true := by
  cases o with
  | none => decide +kernel
  | some a =>
    obtain ⟨p, l⟩ := a
    obtain ⟨h1, h2⟩ := h p l rfl
    refine shaped_of ?_ ?_
    · have e : PyData.canLay0 (dataO (some (p, l))) = (PyData.canLay0 (dL p) && (PyData.canLay0 (dS l) && true)) := by simp only [dataO, PyData.canLay0, PyData.canLayAll0]
      have e2 : PyData.canLay0 (dS l) = PyData.strOk (S l) := by simp only [dS, PyData.canLay0]
      rw [e, dL_lay h1, e2, h2.ok]; rfl
    · have := dL_depth p
      have e2 : PyData.depth (dS l) ≤ 1 := by simp [dS, PyData.depth]
      simp only [dataO, PyData.depth, PyData.depthAll]
      omega
def PartsA (K : PySem.W.Frag) (H : Hp) (x : V) (o : Option (List (List Nat))) : Prop := (∃ l, x = .str (S l) ∧ l.length ≤ 20000 ∧ Asc l ∧ o = partsL l) ∨ (NoStr K H x ∧ o = none)
theorem PartsA.ex {K : PySem.W.Frag} {H H' : Hp} {x : V} {o : Option (List (List Nat))} (e : Ex H H') (h : PartsA K H x o) : PartsA K H' x o := by
  rcases h with h | ⟨h, e2⟩
  · exact .inl h
  · exact .inr ⟨NoStr.ex e h, e2⟩
theorem PartsA.of {K : PySem.W.Frag} {H : Hp} {x : V} {o : Option (List (List Nat))} (h : PartsA K H x o) : PartsOf K H x o := by
  rcases h with ⟨l, a, b, _, c⟩ | h
  · exact .inl ⟨l, a, b, c⟩
  · exact .inr h
def spPair (K : PySem.W.Frag) : Sp := fun vs H Q _ => ∃ (x : V) (o : Option (List (List Nat))), vs = [x] ∧ PartsA K H x o ∧ ∀ v H', Ex H H' → Dp K H' v (dataO (pairOf o)) → Q v H'
section
variable {K : PySem.W.Frag} {σ : L2.St} {H H' : Hp} {ta tb tc te : TE} {tl th : TO} {t u : TT} {x y z v : V} {D : Ends}
theorem s_retIf {b : Bool} (h : EvT t σ H b) (h1 : b = true → ∀ H1, Ex H H1 → ta σ H1 D.rt) (h2 : b = false → ∀ H1, Ex H H1 → tb σ H1 D.rt) : tRet (tIf t ta tb) D σ H := h H (Ex.refl H) _ fun H1 e => by
  cases b with
  | true => exact h1 rfl H1 e
  | false => exact h2 rfl H1 e
abbrev rInt1 : List V → Hp → VK → Prop := fun xs H Q => (∃ i, xs = [.int i] ∧ Q (.int i) H) ∨ ∃ k, xs = [.bl k] ∧ Q (.int (if k then 1 else 0)) H
theorem ev_intB {k : Bool} (h : Ev te σ H (.bl k)) : Ev (tCB rInt1 (tCons te tNil)) σ H (.int (if k then 1 else 0)) := fun H1 e Q q => h H1 e _ fun H2 e2 => .inr ⟨k, rfl, q H2 e2⟩
theorem ev_intI {i : Int} (h : Ev te σ H (.int i)) : Ev (tCB rInt1 (tCons te tNil)) σ H (.int i) := fun H1 e Q q => h H1 e _ fun H2 e2 => .inl ⟨i, rfl, q H2 e2⟩
theorem isField_nil : isFieldL [] = false := rfl
theorem dp_pair {p q : Addr} {acc : List (List Nat)} {last : List Nat} (h1 : H p = some (.tup [.ref q, N1.vs last])) (h2 : H q = some (.lst (acc.map N1.vs))) : Dp K H (.ref p) (dataO (some (acc, last))) :=
  .tup (st_of h1) (.cons (dp_strs (sq_of h2)) (.cons (.str (S last)) .nil))
end
section
variable {P : Program} {w : World} {K : PySem.W.Frag} {mg : Str → Option Value} {base : Heap} {C : Addr}
theorem ok_lawParts {f : Addr} {fd : FuncData} (F : FnP K "_law_parts" sLawParts f fd) (B : Bt mg) (c_law_field_end : Cl P w K mg base L2.CX0 3 "_law_field_end" ["text", "at"] spLawFieldEnd) :
    FnOk P w K mg base L2.CX0 4 f fd ["text"] (spPair K) := by
  refine F.ok scLawParts (fun vs H Q E h => ?_) (fun cdv A outer s H vs Q E hr h => ?_)
  · obtain ⟨x, b, rfl, _⟩ := h
    rfl
  · obtain ⟨x, o, rfl, hx, q⟩ := h
    refine ⟨_, PSs.nox (pss_cons (ps_if (PW.pt (pw_or (pt_not (pt_val (pe_callB call_isi (by rfl) B.isi (by decide +kernel) (pa_cons (pv 0) (pa_cons (pe_bltn (v := .ty "str") (by rfl) B.str (by decide +kernel) rfl) pa_nil))))) (pw_or1 (pt_cmpR op_ne (pe_slice sl_str (pv 0) po_none (po_some pe_int)) pe_str (nomark _))))) (pss_one (ps_ret pe_non)) pss_nil)
      (pss_cons (ps_set (i := 1) scLawParts.nd rfl (.inl rfl) (pe_lst pa_nil))
      (pss_cons (ps_set (i := 2) scLawParts.nd rfl (.inl rfl) pe_int)
      (pss_cons (ps_while PassesOwn.never (pt_cmpR op_ne (pe_slice sl_str (pv 0) (po_some (pv 2)) (po_some (pe_op op_add (pv 2) pe_int))) pe_str (nomark _)) (pss_cons (ps_set (i := 3) scLawParts.nd rfl (.inl rfl) (pe_cl c_law_field_end hr (by decide) (by rfl) (pa_cons (pv 0) (pa_cons (pv 2) pa_nil))))
      (pss_cons (ps_if (pt_cmpR op_lt (pv 3) pe_int (nomark _)) (pss_one (ps_ret pe_non)) pss_nil)
      (pss_cons (ps_expr (pe_bm PySem.F.plainAttrs_list PySem.F.slot_list_append PySem.F.type_list_append mt_append (pv 1) (pa_cons (pe_slice sl_str (pv 0) (po_some (pv 2)) (po_some (pv 3))) pa_nil)))
      (pss_one (ps_set (i := 2) scLawParts.nd rfl (.inl rfl) (pv 3)))))))
      (pss_cons (ps_set (i := 4) scLawParts.nd rfl (.inl rfl) (pe_slice sl_str (pv 0) (po_some (pe_op op_add (pv 2) pe_int)) po_none))
      (pss_cons (ps_if (pt_cmpR op_gt (pe_callB (cr_sum rfl) (by rfl) B.sum (by decide +kernel) (pa_cons (pe_lc (own := [("part", 5)]) (g := gName 5) (tt := tYes) rfl scLawParts.nd (pi_list (pv 1)) (blkOk_by (N := ["text", "found", "at", "end", "last", "part"]) (sc := L2.defScope sLawParts) (by decide +kernel)) (fun _ _ _ _ _ => pg_name (i := 5) scLawParts.nd rfl (Or.inl rfl)) (fun _ _ _ _ _ => pts_nil) (fun _ _ _ _ _ => (pe_op op_add pe_int (pe_callTy call_int1 (by rfl) B.int (by decide +kernel) (pa_cons (pe_cmpR op_eq (pv 5) pe_str (nomark _)) pa_nil))))) pa_nil)) pe_int (nomark _)) (pss_one (ps_ret pe_non)) pss_nil)
      (pss_one (ps_ret (pe_ifExp (PW.pt (pw_or (pt_cmpR op_eq (pv 4) pe_str (nomark _)) (pw_or1 (pt_chain op_eq op_gt (pe_cl c_law_field_end hr (by decide) (by rfl) (pa_cons (pv 4) (pa_cons pe_int pa_nil))) (pe_callB call_len_str (by rfl) B.len PySem.boot_len (pa_cons (pv 4) pa_nil)) pe_int)))) (pe_tup (pa_cons (pv 1) (pa_cons (pv 4) pa_nil))) pe_non))))))))), ?_⟩
    rcases hx with ⟨l, rfl, hl, hA, rfl⟩ | ⟨hn, rfl⟩
    · refine q_when (b := !decide (l.head? = some 40)) (et_is (et_or (a := false) (et_not (et_B (ev_isStr (ev_var rfl)))) fun _ => et_test (ev_op (ev_slS (lo := none) (hi := some (1 : Int)) (ev_var rfl) eo_none (eo_some ev_c) (by omega) (cut_to l 1)) ev_c (rv_neS (b := [40]) rfl (by decide +kernel)))) ?_) (fun e H1 x1 => ?_) (fun e H1 x1 => ?_)
      · rw [Bool.false_or]
        cases l with
        | nil => rfl
        | cons c r =>
          refine congrArg not (decide_eq_decide.mpr ⟨fun e => ?_, fun e => ?_⟩)
          · have : [c] = [40] := e
            rw [(List.cons.inj this).1]; rfl
          · rw [Option.some.inj e]; rfl
      · have hh : ¬ l.head? = some 40 := by simpa using e
        have eo : partsL l = none := if_neg hh
        rw [eo] at q
        exact s_ret ev_c fun H2 x2 => q _ H2 (x1.trans x2) .non
      · have hh : l.head? = some 40 := by simpa using e
        have l1 : 1 ≤ l.length := by
          cases l with
          | nil => cases hh
          | cons c r => exact Nat.succ_le_succ (Nat.zero_le _)
        refine q_asgL (el_lst ea_nil (by decide)) fun p H2 hp1 x2 h2 => ?_
        have hp : H p = none := fresh_back x1 hp1
        refine q_asg ev_c fun H3 x3 => ?_
        have hparts : partsL l = finL l (loopP l (l.length + 1) 1 []) := by
          unfold partsL
          rw [if_pos hh]
        have hslc : ∀ (a : Nat) (σ' : L2.St) (H5 : Hp), σ'[0]? = some (some (.str (S l))) → σ'[2]? = some (some (.int (a : Int))) → Ev (tSl rSlS (tVar 0) (tPart (tVar 2)) (tPart (tOp (rI0 fun i j => V.int (i + j)) (tVar 2) (tC (.int 1))))) σ' H5 (.str (S (sub l a (a + 1)))) :=
          fun a σ' H5 h0 h1 => ev_slS (lo := some (a : Int)) (hi := some ((a + 1 : Nat) : Int)) (ev_var h0) (eo_some (ev_var h1)) (eo_some (ev_op (ev_var h1) ev_c rv_I0)) (by omega) (cut_nat l a (a + 1))
        refine q_while (fun m σ' H' => ∃ (at_ : Nat) (acc : List (List Nat)) (ev : Option V), finL l (loopP l m at_ acc) = partsL l ∧ at_ ≤ l.length ∧ l.length < at_ + m ∧ Ex H H' ∧ H' p = some (.lst (acc.map N1.vs)) ∧ acc.length ≤ at_ ∧
            σ' = [some (.str (S l)), some (.ref p), some (.int (at_ : Int)), ev, none, none]) (l.length + 1) ⟨1, [], none, hparts.symm, l1, by omega, (x1.trans x2).trans x3, x3 _ _ h2, Nat.zero_le _, rfl⟩ (fun m σ' H' hW => ?_)
        obtain ⟨at_, acc, ev, eR, ha, hm, xE, hp', hacc, rfl⟩ := hW
        obtain ⟨m, rfl⟩ : ∃ m', m = m' + 1 := ⟨m - 1, by omega⟩
        refine ⟨!decide (l[at_]? = some 41), ?_, fun em' H4 x4 => ?_, fun em' H4 x4 => ?_⟩
        · refine et_is (et_test (ev_op (hslc at_ _ _ rfl rfl) ev_c (rv_neS (b := [41]) rfl (by decide +kernel)))) ?_
          rw [sub1_is]
        · have hc41 : ¬ l[at_]? = some 41 := by simpa using em'
          -- what the loop of the program says here
          have hstep : finL l (match fend l at_ with
              | none => none
              | some e => loopP l m e (acc ++ [sub l at_ e])) = partsL l := by
            by_cases hlt : at_ < l.length
            · have hg : l.getD at_ 0 ≠ 41 := fun e => hc41 (by
                rw [List.getElem?_eq_getElem hlt]
                rw [getD_of (List.getElem?_eq_getElem hlt)] at e
                rw [e])
              have e1 : loopP l (m + 1) at_ acc = (match fend l at_ with
                | none => none
                | some e => loopP l m e (acc ++ [sub l at_ e])) := if_pos ⟨hlt, hg⟩
              rw [e1] at eR
              exact eR
            · have e1 : loopP l (m + 1) at_ acc = some (acc, at_) := if_neg (fun h => hlt h.1)
              have eat : at_ = l.length := by omega
              have ef : fend l at_ = none := by
                unfold fend
                refine if_pos (.inl ?_)
                rw [eat, List.drop_length]; rfl
              rw [ef]
              rw [e1, finL_no (.inr ⟨by rw [List.drop_of_length_le (by omega)]; decide, by rw [List.drop_of_length_le (by omega)]; exact isField_nil⟩)] at eR
              exact eR
          refine ⟨fun σ2 H5 => ∃ (at_ : Nat) (acc : List (List Nat)) (ev : Option V), finL l (loopP l m at_ acc) = partsL l ∧ at_ ≤ l.length ∧ l.length < at_ + m ∧ Ex H H5 ∧ H5 p = some (.lst (acc.map N1.vs)) ∧ acc.length ≤ at_ ∧
            σ2 = [some (.str (S l)), some (.ref p), some (.int (at_ : Int)), ev, none, none], fun σ2 H5 h => ⟨m, by omega, h⟩, ?_⟩
          refine q_asg (ev_call (z := .int (vI (fend l at_))) (ea_cons (ev_var rfl) (ea_cons (ev_var rfl) ea_nil)) (fun H5 x5 Q' q' E' => ⟨l, at_, rfl, hl, hA, ha, q'⟩)) fun H5 x5 => ?_
          cases ek : fend l at_ with
          | none =>
            rw [ek] at hstep
            refine q_when (b := true) (et_test (ev_op (ev_var rfl) ev_c (rv_is rv_I0 ?_))) (fun e H6 x6 => ?_) (fun e => by cases e)
            · exact congrArg V.bl (decide_eq_true (by show (-1 : Int) < 0; omega))
            · have eo : partsL l = none := hstep.symm
              rw [eo] at q
              exact s_ret ev_c fun H7 x7 => q _ H7 ((((xE.trans x4).trans x5).trans x6).trans x7) .non
          | some k =>
            rw [ek] at hstep
            obtain ⟨k1, k2⟩ := fend_lt ha ek
            refine q_when (b := false) (et_test (ev_op (ev_var rfl) ev_c (rv_is rv_I0 ?_))) (fun e => by cases e) (fun e H6 x6 => ?_)
            · exact congrArg V.bl (decide_eq_false (by show ¬ (k : Int) < 0; omega))
            refine q_app (l := p) (xs := acc.map N1.vs) (x6 _ _ (x5 _ _ (x4 _ _ hp'))) (ev_var rfl) (ev_slS (lo := some (at_ : Int)) (hi := some (k : Int)) (ev_var rfl) (eo_some (ev_var rfl)) (eo_some (ev_var rfl)) (by omega) (cut_nat l at_ k)) (by rw [List.length_map]; omega) fun H7 x7 => ?_
            refine s_asg (ev_var rfl) fun H8 x8 => ?_
            refine ⟨k, acc ++ [sub l at_ k], some (.int (vI (some k))), hstep, k2, by omega, ?_, ?_, by rw [List.length_append]; simp; omega, rfl⟩
            · exact (Ex.mut ((((xE.trans x4).trans x5).trans x6).trans x7) hp).trans x8
            · rw [x8 _ _ upd_same, List.map_append]
              rfl
        · have hc41 : l[at_]? = some 41 := by simpa using em'
          have hlt : at_ < l.length := (List.getElem?_eq_some_iff.mp hc41).1
          have e1 : loopP l (m + 1) at_ acc = some (acc, at_) := if_neg (fun h => h.2 (getD_of hc41))
          rw [e1] at eR
          rw [← eR] at q
          refine q_asg (ev_slS (lo := some ((at_ + 1 : Nat) : Int)) (hi := none) (r := l.drop (at_ + 1)) (ev_var rfl) (eo_some (ev_op (ev_var rfl) ev_c rv_I0)) eo_none (by omega) (cut_from l (at_ + 1))) fun H5 x5 => ?_
          have hlast : (l.drop (at_ + 1)).length ≤ 20000 := by rw [List.length_drop]; omega
          have h5 : H5 p = some (.lst (acc.map N1.vs)) := x5 _ _ (x4 _ _ hp')
          have hsum := el_lcL (K := K) (σ := [some (V.str (S l)), some (.ref p), some (.int (at_ : Int)), ev, some (N1.vs (l.drop (at_ + 1))), none]) (H := H5) (xs := acc.map N1.vs) (t := tYes) (te := tOp (rI0 fun i j => V.int (i + j)) (tC (.int 1)) (tCB rInt1 (tCons (tOp rEq (tVar 5) (tC (.str "J"))) tNil))) (tl := tVar 1) (j := 5) (vs := [5]) (fun _ => true) (fun i => .int (if acc.getD i [] = [74] then (2 : Int) else 1)) (ev_var rfl) (sq_of h5)
            (by rw [List.length_map]; omega) (fun _ => rfl) (fun i c H2 _ hc => fun H3 e3 Q q => q H3 (Ex.refl H3)) (fun i c H2 x2 hc _ => by
              rw [List.getElem?_map] at hc
              cases hp : acc[i]? with
              | none => rw [hp] at hc; cases hc
              | some d =>
                rw [hp] at hc
                cases hc
                rw [getD_of hp]
                refine ev_is (ev_op ev_c (ev_intB (ev_op (ev_var rfl) ev_c (rv_eqS (b := [74]) rfl (by decide +kernel)))) rv_I0) ?_
                by_cases hd : d = [74]
                · rw [decide_eq_true hd, if_pos hd]; rfl
                · rw [decide_eq_false hd, if_neg hd]; rfl)
          rw [List.length_map, given_all acc (fun d => V.int (if d = [74] then (2 : Int) else 1)) _ (fun i c h => by rw [getD_of h])] at hsum
          have hsum2 : Ev (tCB (rSum K) (tCons _ tNil)) _ H5 (.int (placesL acc)) := ev_sum (ns := acc.map fun d => if d = [74] then (2 : Int) else 1) (by rw [List.map_map]; exact hsum)
          refine q_when (b := decide (placesL acc > 254)) (et_test (ev_op hsum2 ev_c rv_I0)) (fun e H6 x6 => ?_) (fun e H6 x6 => ?_)
          · rw [finL_no (.inl (of_decide_eq_true e))] at q
            exact s_ret ev_c fun H7 x7 => q _ H7 ((((xE.trans x4).trans x5).trans x6).trans x7) .non
          · have hpl := of_decide_eq_false e
            refine s_retIf (b := decide (l.drop (at_ + 1) = [86]) || isFieldL (l.drop (at_ + 1))) (et_or (et_test (ev_op (ev_var rfl) ev_c (rv_eqS rfl (by decide +kernel)))) fun _ => et_is (et_test (ev_chain (a := decide (vI (fend (l.drop (at_ + 1)) 0) = ((l.drop (at_ + 1)).length : Int))) (b := decide (0 < (l.drop (at_ + 1)).length)) (ev_call (z := .int (vI (fend (l.drop (at_ + 1)) 0))) (ea_cons (ev_var rfl) (ea_cons ev_c ea_nil)) (fun H7 x7 Q' q' E' => ⟨_, 0, rfl, hlast, hA.drop _, Nat.zero_le _, q'⟩)) (ev_lenS (ev_var rfl) (by omega)) rv_eqI fun _ => ⟨ev_c, rv_is rv_I0 (bl_iff (by omega))⟩)) ?_) (fun e H7 x7 => ?_) (fun e H7 x7 => ?_)
            · unfold isFieldL
              cases ef : fend (l.drop (at_ + 1)) 0 with
              | none =>
                rw [show decide (vI none = ((l.drop (at_ + 1)).length : Int)) = false from decide_eq_false (by show ¬ (-1 : Int) = _; omega), show decide ((none : Option Nat) = some (l.drop (at_ + 1)).length) = false from decide_eq_false (by intro h; cases h)]; rfl
              | some n =>
                have := (fend_lt (Nat.zero_le _) ef).1
                by_cases en : n = (l.drop (at_ + 1)).length
                · rw [show decide (vI (some n) = ((l.drop (at_ + 1)).length : Int)) = true from decide_eq_true (by show (n : Int) = _; omega), show decide (0 < (l.drop (at_ + 1)).length) = true from decide_eq_true (by omega), decide_eq_true (by rw [en])]; rfl
                · rw [show decide (vI (some n) = ((l.drop (at_ + 1)).length : Int)) = false from decide_eq_false (by show ¬ (n : Int) = _; omega), decide_eq_false (fun h => en (Option.some.inj h))]; rfl
            · have hok : ¬ (placesL acc > 254 ∨ (l.drop (at_ + 1) ≠ [86] ∧ isFieldL (l.drop (at_ + 1)) = false)) := by
                intro h
                rcases h with h | ⟨h1, h2⟩
                · exact hpl h
                · rw [decide_eq_false h1, h2] at e
                  cases e
              rw [finL_ok hok, pair_snoc] at q
              refine eu_tup (σ := [some (V.str (S l)), some (.ref p), some (.int (at_ : Int)), ev, some (N1.vs (l.drop (at_ + 1))), none]) (ea_cons (ev_var rfl) (ea_cons (ev_var rfl) ea_nil)) (by show 2 ≤ 100000; decide) H7 (Ex.refl H7) _ fun p2 H8 hp2 x8 h8 => ?_
              exact q _ H8 ((((xE.trans x4).trans x5).trans x6).trans (x7.trans x8)) (dp_pair h8 (x8 _ _ (x7 _ _ (x6 _ _ h5))))
            · have hno : placesL acc > 254 ∨ (l.drop (at_ + 1) ≠ [86] ∧ isFieldL (l.drop (at_ + 1)) = false) := by
                refine .inr ?_
                rcases Bool.or_eq_false_iff.mp e with ⟨h1, h2⟩
                exact ⟨of_decide_eq_false h1, h2⟩
              rw [finL_no hno] at q
              exact q _ H7 ((((xE.trans x4).trans x5).trans x6).trans x7) .non
    · refine q_when (b := true) (et_is (et_or (a := true) (b := false) (et_not (et_B (ev_noStr (ev_var rfl) hn))) fun e => by cases e) rfl) (fun e H1 x1 => ?_) (fun e H1 x1 => by cases e)
      exact s_ret ev_c fun H2 x2 => q _ H2 (x1.trans x2) .non
end
end N1

namespace N1
open PySem PySem.Spec PyProof.Rows L2 Evl
open SX (S)
theorem loop_len {l : List Nat} : ∀ (n a : Nat) (acc acc' : List (List Nat)) (a' : Nat), loopP l n a acc = some (acc', a') → a ≤ l.length → acc.length ≤ a → acc'.length ≤ a' ∧ a' ≤ l.length
  | 0, a, acc, acc', a', h, _, _ => by cases h
  | n + 1, a, acc, acc', a', h, ha, hl => by
    by_cases c : a < l.length ∧ l.getD a 0 ≠ 41
    · have e1 : loopP l (n + 1) a acc = (match fend l a with
        | none => none
        | some e => loopP l n e (acc ++ [sub l a e])) := if_pos c
      rw [e1] at h
      cases ek : fend l a with
      | none => rw [ek] at h; cases h
      | some k =>
        rw [ek] at h
        obtain ⟨k1, k2⟩ := fend_lt ha ek
        exact loop_len n k _ acc' a' h k2 (by rw [List.length_append]; simp; omega)
    · have e1 : loopP l (n + 1) a acc = some (acc, a) := if_neg c
      rw [e1] at h
      cases h
      exact ⟨hl, ha⟩
theorem parts_len {l : List Nat} {ps : List (List Nat)} (h : partsL l = some ps) : ps.length ≤ l.length + 1 := by
  unfold partsL at h
  split at h
  · rename_i hh
    have l1 : 1 ≤ l.length := by
      cases l with
      | nil => cases hh
      | cons c r => exact Nat.succ_le_succ (Nat.zero_le _)
    cases hR : loopP l (l.length + 1) 1 [] with
    | none =>
      rw [hR] at h
      cases h
    | some r =>
      obtain ⟨acc, a⟩ := r
      rw [hR] at h
      obtain ⟨h1, h2⟩ := loop_len _ _ _ _ _ hR l1 (Nat.zero_le _)
      by_cases c : placesL acc > 254 ∨ (l.drop (a + 1) ≠ [86] ∧ isFieldL (l.drop (a + 1)) = false)
      · rw [finL_no c] at h
        cases h
      · rw [finL_ok c] at h
        rw [← Option.some.inj h, List.length_append]
        simp
        omega
  · cases h
section
variable {P : Program} {w : World} {K : PySem.W.Frag} {mg : Str → Option Value} {base : Heap} {C : Addr}
abbrev tP (K : PySem.W.Frag) (C : Addr) (W : WX) : TE := tCallS (spParams K C) (WE W) (tCons (tVar 0) tNil)
abbrev tR (K : PySem.W.Frag) (C : Addr) (W : WX) : TE := tCallS (spResult K C) (WE W) (tCons (tVar 0) tNil)
theorem ok_lawTold {f : Addr} {fd : FuncData} (F : FnP K "_law_told" sLawTold f fd) (B : Bt mg) (ND : NoD K mg C) (c_parameters : Cl P w K mg base (L2.CX P w) 7 "parameters" ["descriptor"] (spParams K C)) (c_result : Cl P w K mg base (L2.CX P w) 7 "result" ["descriptor"] (spResult K C)) :
    FnOk P w K mg base L2.CX0 8 f fd ["text"] (spPair K) := by
  obtain ⟨f1, fd1, G1, m1, k1, b1⟩ := c_parameters.ex
  obtain ⟨f2, fd2, G2, m2, k2, b2⟩ := c_result.ex
  refine F.ok scLawTold (fun vs H Q E h => ?_) (fun cdv A outer s H vs Q E hr h => ?_)
  · obtain ⟨x, b, rfl, _⟩ := h
    rfl
  · obtain ⟨x, o, rfl, hx, q⟩ := h
    refine ⟨_, PSs.nox (pss_one (ps_try_only (tb := fun W => tSeq (tAsg (tP K C W) (gName 1)) (tSeq (tDrop (tBM K "list" rAppend (tVar 1) (tCons (tC (.str "zz")) tNil))) (tRet (tTup (tCons (tP K C W) (tCons (tR K C W) tNil)))))) (ts := fun _ _ _ => tRet (tC .non)) (Wout := fun _ _ _ _ => False) rfl rfl ⟨rfl, by decide, Or.inl ND.gC⟩ takes0
      (fun W pn xe tk _ => pss_cons (ps_set (i := 1) scLawTold.nd rfl (.inl rfl) (by exact (pe_callS G1 hr (by rfl) m1 k1 b1 (fun σ => passAt tk σ) (by exact (pa_cons (pv 0) pa_nil)))))
        (pss_cons (ps_expr (by exact (pe_bm PySem.F.plainAttrs_list PySem.F.slot_list_append PySem.F.type_list_append mt_append (pv 1) (pa_cons pe_str pa_nil))))
        (pss_one (ps_ret (by exact (pe_tup (pa_cons (pe_callS G1 hr (by rfl) m1 k1 b1 (fun σ => passAt tk σ) (by exact (pa_cons (pv 0) pa_nil))) (pa_cons (pe_callS G2 hr (by rfl) m2 k2 b2 (fun σ => passAt tk σ) (by exact (pa_cons (pv 0) pa_nil))) pa_nil))))))))
      (fun a oe cls d pn hz hf => pss_one (ps_ret (by exact pe_non))))), ?_⟩
    refine q_asgAny ?_
    refine ⟨x, rfl, x, o, rfl, hx.of, fun e H1 x1 => ?_, fun ps e p H1 hp x1 h1 => ?_⟩
    · subst e
      refine ⟨true, ND.eP, fun _ a ha => ?_, fun h => by cases h⟩
      exact q _ H1 x1 .non
    · subst e
      have hne : ∃ acc last, ps = acc ++ [last] := by
        rcases hx with ⟨l, _, _, _, e⟩ | ⟨_, e⟩
        · exact parts_ne e.symm
        · cases e
      obtain ⟨acc, last, rfl⟩ := hne
      rw [pair_snoc] at q
      have hz : ((acc ++ [last]).dropLast.map N1.vs).length < 100000 := by
        rw [List.dropLast_concat, List.length_map]
        rcases hx with ⟨l, _, hl, _, e⟩ | ⟨_, e⟩
        · have := parts_len e.symm
          rw [List.length_append] at this
          simp at this
          omega
        · cases e
      refine q_app (l := p) h1 (ev_var rfl) ev_c hz fun H2 x2 => ?_
      have xE : Ex H (upd H2 p (.lst ((acc ++ [last]).dropLast.map N1.vs ++ [.str "zz"]))) := Ex.mut (x1.trans x2) hp
      refine ⟨x, rfl, x, _, rfl, (hx.ex xE).of, (fun e => by cases e), fun ps' e' p2 H3 hp2 x3 h3 => ?_⟩
      cases e'
      refine ⟨x, rfl, x, _, rfl, (hx.ex (xE.trans x3)).of, (fun e => by cases e), fun acc' last' e' H4 x4 => ?_⟩
      have e2 : last' = last := by
        have := (List.append_inj' (Option.some.inj e') rfl).2
        exact (List.cons.inj this).1.symm
      subst e2
      refine ⟨by show 2 ≤ sizeLine; decide, fun t ht => ?_⟩
      refine q _ _ (((xE.trans x3).trans x4).trans (Ex.new ht)) (dp_pair (q := p2) upd_same ?_)
      rw [upd_ne (ne_of_none (x4 _ _ h3) ht), x4 _ _ h3, List.dropLast_concat]
end
end N1

namespace N1
open PySem PySem.Spec PyProof.Rows L2 Evl
open SX (S)
/-! ### the well -/
/-- all but what stands at a is as it was -/
def Exa (a : Addr) (H H' : Hp) : Prop := ∀ b o, b ≠ a → H b = some o → H' b = some o
theorem Exa.refl (a : Addr) (H : Hp) : Exa a H H := fun _ _ _ h => h
theorem Exa.of {a : Addr} {H H' : Hp} (e : Ex H H') : Exa a H H' := fun b o _ h => e b o h
theorem Exa.trans {a : Addr} {H H1 H2 : Hp} (x : Exa a H H1) (y : Exa a H1 H2) : Exa a H H2 := fun b o n h => y b o n (x b o n h)
theorem Exa.upd {a : Addr} {H : Hp} {o : HO} : Exa a H (upd H a o) := fun b o n h => by rw [upd_ne n]; exact h
/-- a was new: then all is as it was -/
theorem Exa.ex {a : Addr} {H H1 H2 : Hp} (h : H a = none) (e : Ex H H1) (x : Exa a H1 H2) : Ex H H2 := fun b o hb => x b o (fun q => by rw [q, h] at hb; cases hb) (e b o hb)
/-- the well at a, with at most n draws counted -/
def WellAt (H : Hp) (a : Addr) (n : Nat) : Prop := ∃ x c : Int, H a = some (.lst [.int x, .int c]) ∧ 0 ≤ c ∧ c ≤ n
theorem WellAt.ex {H H' : Hp} {a : Addr} {n : Nat} (e : Ex H H') (h : WellAt H a n) : WellAt H' a n := by
  obtain ⟨x, c, h1, h2⟩ := h
  exact ⟨x, c, e _ _ h1, h2⟩
theorem WellAt.le {H : Hp} {a : Addr} {n m : Nat} (h : WellAt H a n) (e : n ≤ m) : WellAt H a m := by
  obtain ⟨x, c, h1, h2, h3⟩ := h
  exact ⟨x, c, h1, h2, by omega⟩
def spWell : Sp := fun vs H Q _ => ∃ i : Int, vs = [.int i] ∧ ∀ a H', H a = none → Ex H H' → WellAt H' a 0 → Q (.ref a) H'
def spDraw : Sp := fun vs H Q _ => ∃ (a : Addr) (m : Int) (n : Nat), vs = [.ref a, .int m] ∧ 0 < m ∧ m < 1000000 ∧ WellAt H a n ∧ n ≤ 1000000 ∧ ∀ d H', 0 ≤ d → d < m → Exa a H H' → WellAt H' a (n + 1) → Q (.int d) H'
section
variable {K : PySem.W.Frag} {σ : L2.St} {H H' : Hp} {ta tb tc te : TE} {tl th : TO} {t u : TT} {x y z v : V} {D : Ends}
theorem rv_mod {i j : Int} (h : 0 < j) : RV (rI (fun _ j => 0 < j) fun i j => .int (i % j)) (.int i) (.int j) H (.int (i % j)) := rv_I h
theorem rv_mulS {i j : Int} (h1 : i.natAbs < 2 ^ 64) (h2 : j.natAbs < 2 ^ 64) : RV (rI CMulW fun i j => .int (i * j)) (.int i) (.int j) H (.int (i * j)) := rv_I (wide_mul h1 h2 (by decide) (by decide) (by decide))
theorem rv_fdivS {i j : Int} (h0 : 0 < j) (h2 : j.natAbs < 2 ^ 64) : RV (rI CDivW fun i j => .int (i / j)) (.int i) (.int j) H (.int (i / j)) := rv_I (wide_div h0 h2 (by decide) (by decide))
theorem dr_draw {a : Addr} {m : Int} {n : Nat} {Q : VK} (ha : Ev ta σ H (.ref a)) (hm : Ev tb σ H (.int m)) (h0 : 0 < m) (h1 : m < 1000000) (hw : WellAt H a n) (hn : n ≤ 1000000)
    (k : ∀ d H', 0 ≤ d → d < m → Exa a H H' → WellAt H' a (n + 1) → Q (.int d) H') : tCall spDraw [] L2.E0 (tCons ta (tCons tb tNil)) σ H Q :=
  ea_cons ha (ea_cons hm ea_nil) H (Ex.refl H) _ fun H1 x1 => ⟨a, m, n, rfl, h0, h1, hw.ex x1, hn, fun d H' a1 a2 a3 a4 => k d H' a1 a2 ((Exa.of x1).trans a3) a4⟩
end
section
variable {P : Program} {w : World} {K : PySem.W.Frag} {mg : Str → Option Value} {base : Heap} {C : Addr}
theorem ok_lawWell {f : Addr} {fd : FuncData} (F : FnP K "_law_well" sLawWell f fd) (B : Bt mg) : FnOk P w K mg base L2.CX0 1 f fd ["cell"] spWell := by
  refine F.ok scLawWell (fun vs H Q E h => ?_) (fun cdv A outer s H vs Q E hr h => ?_)
  · obtain ⟨x, rfl, _⟩ := h
    rfl
  · obtain ⟨i, rfl, q⟩ := h
    refine ⟨_, PSs.nox (pss_one (ps_ret (pe_lst (pa_cons (pe_callTy call_int1 (by rfl) B.int (by decide +kernel) (pa_cons (pv 0) pa_nil)) (pa_cons pe_int pa_nil))))), ?_⟩
    exact s_retL (el_lst (ea_cons (ev_intI (ev_var rfl)) (ea_cons ev_c ea_nil)) (by show 2 ≤ 100000; decide)) fun p H1 hp x1 h1 => q p H1 hp x1 ⟨i, 0, h1, by omega, by omega⟩
theorem ok_lawDraw {f : Addr} {fd : FuncData} (F : FnP K "_law_draw" sLawDraw f fd) (B : Bt mg) : FnOk P w K mg base L2.CX0 1 f fd ["well", "many"] spDraw := by
  refine F.ok scLawDraw (fun vs H Q E h => ?_) (fun cdv A outer s H vs Q E hr h => ?_)
  · obtain ⟨a, m, n, rfl, _⟩ := h
    rfl
  · obtain ⟨a, m, n, rfl, m0, m1, ⟨x, c, hx, c0, c1⟩, hn, q⟩ := h
    refine ⟨_, PSs.nox (pss_cons (ps_if (pt_cmpR op_ge (pe_ix ix_list (pv 0) pe_int (fun _ _ => rfl)) (pe_op op_pow pe_int pe_int) (nomark _)) (pss_cons (ps_set (i := 2) scLawDraw.nd rfl (.inl rfl) (pe_op op_mod (pe_callTy call_int1 (by rfl) B.int (by decide +kernel) (pa_cons (pe_ix ix_list (pv 0) pe_int (fun _ _ => rfl)) pa_nil)) (pv 1)))
      (pss_cons (ps_asg (pe_op op_fdivW (pe_ix ix_list (pv 0) pe_int (fun _ _ => rfl)) (pv 1)) (pg_sub (pv 0) pe_int set_list))
      (pss_one (ps_ret (pv 2))))) pss_nil)
      (pss_cons (ps_asg (pe_op op_add (pe_ix ix_list (pv 0) pe_int (fun _ _ => rfl)) pe_int) (pg_sub (pv 0) pe_int set_list))
      (pss_cons (ps_set (i := 3) scLawDraw.nd rfl (.inl rfl) (pe_op op_mod (pe_callTy call_int1 (by rfl) B.int (by decide +kernel) (pa_cons (pe_op op_mulW (pe_callTy call_int1 (by rfl) B.int (by decide +kernel) (pa_cons (pe_op op_add (pe_op op_add (pe_op op_mod (pe_callTy call_int1 (by rfl) B.int (by decide +kernel) (pa_cons (pe_ix ix_list (pv 0) pe_int (fun _ _ => rfl)) pa_nil)) pe_int) (pe_op op_mulW pe_int (pe_ix ix_list (pv 0) pe_int (fun _ _ => rfl)))) pe_int) pa_nil)) pe_int) pa_nil)) pe_int))
      (pss_cons (ps_set (i := 4) scLawDraw.nd rfl (.inl rfl) (pe_op op_mod (pe_callTy call_int1 (by rfl) B.int (by decide +kernel) (pa_cons (pe_op op_fdivW (pe_ix ix_list (pv 0) pe_int (fun _ _ => rfl)) pe_int) pa_nil)) pe_int))
      (pss_cons (ps_set (i := 3) scLawDraw.nd rfl (.inl rfl) (pe_op op_mod (pe_callTy call_int1 (by rfl) B.int (by decide +kernel) (pa_cons (pe_op op_mulW (pv 3) (pe_op op_add (pe_op op_add (pe_op op_fdivW (pv 3) pe_int) pe_int) (pv 4))) pa_nil)) pe_int))
      (pss_one (ps_ret (pe_op op_mod (pe_callTy call_int1 (by rfl) B.int (by decide +kernel) (pa_cons (pe_op op_fdivW (pe_op op_mod (pe_callTy call_int1 (by rfl) B.int (by decide +kernel) (pa_cons (pe_op op_mulW (pv 3) (pe_op op_add (pe_op op_fdivW (pv 3) pe_int) pe_int)) pa_nil)) pe_int) pe_int) pa_nil)) (pv 1))))))))), ?_⟩
    have hix : ∀ (i : Int) (v : V) (σ' : L2.St) (H5 : Hp) (xs : List V), σ'[0]? = some (some (.ref a)) → H5 a = some (.lst xs) → atI xs i = some v → Ev (tOp (rIxL K) (tVar 0) (tC (.int i))) σ' H5 v :=
      fun i v σ' H5 xs h0 h1 h2 => ev_op (ev_var h0) ev_c (rv_ixL (sq_of h1) h2)
    refine q_when (b := decide ((10 : Int) ^ 18 ≤ x)) (et_test (ev_op (hix 0 (.int x) _ _ _ rfl hx rfl) (ev_op ev_c ev_c (rv_I ⟨by decide, by decide, by decide⟩)) (rv_is rv_I0 ?_))) (fun e H1 x1 => ?_) (fun e H1 x1 => ?_)
    · rfl
    · refine q_asg (ev_op (ev_intI (hix 0 (.int x) _ _ _ rfl (x1 _ _ hx) rfl)) (ev_var rfl) (rv_mod m0)) fun H2 x2 => ?_
      refine q_setL (l := a) (xs := [.int x, .int c]) (j := 0) (x2 _ _ (x1 _ _ hx)) (ev_op (hix 0 (.int x) _ _ _ rfl (x2 _ _ (x1 _ _ hx)) rfl) (ev_var rfl) (rv_fdivS m0 (by omega))) (ev_var rfl) ev_c (by show 0 < 2; decide) fun H3 x3 => ?_
      refine s_ret (ev_var rfl) fun H4 x4 => q _ H4 (Int.emod_nonneg _ (by omega)) (Int.emod_lt_of_pos _ m0) ?_ ⟨x / m, c, x4 _ _ upd_same, c0, by omega⟩
      exact (Exa.of ((x1.trans x2).trans x3)).trans (Exa.upd.trans (Exa.of x4))
    · refine q_setL (l := a) (xs := [.int x, .int c]) (j := 1) (x1 _ _ hx) (ev_op (hix 1 (.int c) _ _ _ rfl (x1 _ _ hx) rfl) ev_c rv_I0) (ev_var rfl) ev_c (by show 1 < 2; decide) fun H2 x2 => ?_
      have h2 : (upd H2 a (.lst ([V.int x, V.int c].set 1 (V.int (c + 1))))) a = some (.lst [.int x, .int (c + 1)]) := upd_same
      generalize hH : upd H2 a (.lst ([V.int x, V.int c].set 1 (V.int (c + 1)))) = H3 at h2
      have xa : Exa a H H3 := by
        rw [← hH]
        exact (Exa.of (x1.trans x2)).trans Exa.upd
      clear hH
      have e1 := Int.emod_nonneg x (show (2147483629 : Int) ≠ 0 by decide)
      have e2 := Int.emod_lt_of_pos x (show (0 : Int) < 2147483629 by decide)
      refine q_asg (v := .int (((x % 2147483629 + 60013 * (c + 1) + 11) * 48271) % 2147483647)) (ev_op (ev_intI (ev_op (ev_intI (ev_op (ev_op (ev_op (ev_intI (hix 0 (.int x) _ _ _ rfl h2 rfl)) ev_c (rv_mod (by decide))) (ev_op ev_c (hix 1 (.int (c + 1)) _ _ _ rfl h2 rfl) (rv_mulS (by decide) (by omega))) rv_I0) ev_c rv_I0)) ev_c (rv_mulS (by omega) (by decide)))) ev_c (rv_mod (by decide))) fun H4 x4 => ?_
      have e3 := Int.emod_nonneg ((x % 2147483629 + 60013 * (c + 1) + 11) * 48271) (show (2147483647 : Int) ≠ 0 by decide)
      have e4 := Int.emod_lt_of_pos ((x % 2147483629 + 60013 * (c + 1) + 11) * 48271) (show (0 : Int) < 2147483647 by decide)
      generalize ((x % 2147483629 + 60013 * (c + 1) + 11) * 48271) % 2147483647 = nr at e3 e4 ⊢
      refine q_asg (v := .int ((x / 2147483629) % 9973)) (ev_op (ev_intI (ev_op (hix 0 (.int x) _ _ _ rfl (x4 _ _ h2) rfl) ev_c (rv_fdivS (by decide) (by decide)))) ev_c (rv_mod (by decide))) fun H5 x5 => ?_
      have e5 := Int.emod_nonneg (x / 2147483629) (show (9973 : Int) ≠ 0 by decide)
      have e6 := Int.emod_lt_of_pos (x / 2147483629) (show (0 : Int) < 9973 by decide)
      generalize (x / 2147483629) % 9973 = mo at e5 e6 ⊢
      refine q_asg (v := .int ((nr * (nr / 1013 + 40692 + mo)) % 2147483587)) (ev_op (ev_intI (ev_op (ev_var rfl) (ev_op (ev_op (ev_op (ev_var rfl) ev_c (rv_fdivS (by decide) (by decide))) ev_c rv_I0) (ev_var rfl) rv_I0) (rv_mulS (by omega) (by omega)))) ev_c (rv_mod (by decide))) fun H6 x6 => ?_
      have e7 := Int.emod_nonneg (nr * (nr / 1013 + 40692 + mo)) (show (2147483587 : Int) ≠ 0 by decide)
      have e8 := Int.emod_lt_of_pos (nr * (nr / 1013 + 40692 + mo)) (show (0 : Int) < 2147483587 by decide)
      generalize (nr * (nr / 1013 + 40692 + mo)) % 2147483587 = n2 at e7 e8 ⊢
      refine s_ret (v := .int (((n2 * (n2 / 2003 + 69621)) % 2147483563 / 5) % m)) (ev_op (ev_intI (ev_op (ev_op (ev_intI (ev_op (ev_var rfl) (ev_op (ev_op (ev_var rfl) ev_c (rv_fdivS (by decide) (by decide))) ev_c rv_I0) (rv_mulS (by omega) (by omega)))) ev_c (rv_mod (by decide))) ev_c (rv_fdivS (by decide) (by decide)))) (ev_var rfl) (rv_mod m0)) fun H7 x7 => ?_
      exact q _ H7 (Int.emod_nonneg _ (by omega)) (Int.emod_lt_of_pos _ m0) (xa.trans (Exa.of (((x4.trans x5).trans x6).trans x7))) ⟨x, c + 1, x7 _ _ (x6 _ _ (x5 _ _ (x4 _ _ h2))), by omega, by omega⟩
end
end N1

namespace N1
open PySem PySem.Spec PyProof.Rows L2 Evl
open SX (S)
/-! ### a text, so many times -/
theorem fold_arr : ∀ (l : List (Array Nat)) (acc : Array Nat), (l.foldl (· ++ ·) acc).toList = acc.toList ++ (l.map (·.toList)).flatten
  | [], acc => by simp
  | a :: r, acc => by
    rw [List.foldl_cons, fold_arr r (acc ++ a)]
    simp
theorem mul_S (l : List Nat) (k : Nat) : Txt.mul (S l) (k : Int) = S (List.replicate k l).flatten := by
  unfold Txt.mul
  by_cases h1 : (k : Int) < 1
  · rw [if_pos h1]
    have : k = 0 := by omega
    subst this
    rfl
  · rw [if_neg h1]
    by_cases h2 : ((k : Int) == 1 || (S l).length == 0) = true
    · rw [if_pos h2]
      rcases Bool.or_eq_true_iff.mp h2 with h | h
      · have : k = 1 := by have := eq_of_beq h; omega
        subst this
        simp [S]
      · have : l = [] := by
          have := eq_of_beq h
          rw [SX.S_len] at this
          exact List.eq_nil_of_length_eq_zero this
        subst this
        have e : (List.replicate k ([] : List Nat)).flatten = [] := by simp
        rw [e]
    · rw [if_neg h2]
      have e : ((List.replicate (k : Int).toNat (S l).cps).foldl (· ++ ·) (#[] : Array Nat)) = ((List.replicate k l).flatten).toArray := by
        refine Array.toList_inj.mp ?_
        rw [fold_arr]
        simp [S]
      rw [e]
abbrev rRepS : R2 := fun x y H Q => ∃ (l : List Nat) (k : Nat), x = .str (S l) ∧ y = .int (k : Int) ∧ k ≤ 1000 ∧ l.length ≤ 100 ∧ Q (.str (S (List.replicate k l).flatten)) H
theorem op_repS {X : Cx} : OpR X (binaryOp .Mult) rRepS := by
  intro pins s σ H x y v u Q I rx ry h
  obtain ⟨l, k, rfl, rfl, hk, hl, q⟩ := h
  obtain ⟨t, rfl⟩ := rx
  obtain ⟨t2, rfl⟩ := ry
  have hm : l.length * k ≤ 100 * 1000 := Nat.mul_le_mul hl hk
  refine SB.mul (x := S l) (n := (k : Int)) ⟨?_, ?_, ?_⟩ fun t' tk => ?_
  · rw [decide_eq_false (by omega), decide_eq_false (by omega)]; rfl
  · intro h1 _ h3
    rw [SX.S_len] at h3
    have hk0 : (0 : Int) < (k : Int) := by omega
    have : (100 : Int) ≤ (2 ^ 63 - 1) / (k : Int) := Int.le_ediv_of_mul_le hk0 (by omega)
    omega
  · intro _ _
    rw [SX.S_len, Int.toNat_natCast]
    have hz : l.length * k ≤ sizeLine := sz_of (by omega)
    exact decide_eq_false (by omega)
  · rw [mul_S]
    exact ⟨.str _, H, I.tok _, ⟨_, rfl⟩, q⟩
/-! ### drawn names -/
theorem joinL_nil : ∀ ys : List (List Nat), TL.joinL [] ys = ys.flatten
  | [] => rfl
  | [p] => by simp [TL.joinL]
  | p :: q :: r => by
    show p ++ ([] ++ TL.joinL [] (q :: r)) = _
    rw [joinL_nil (q :: r)]
    simp
theorem flat1 : ∀ l : List Nat, (l.map fun c => [c]).flatten = l
  | [] => rfl
  | c :: r => by
    show [c] ++ (r.map fun c => [c]).flatten = _
    rw [flat1 r]; rfl
def Signs (l : List Nat) : Prop := ∀ c ∈ l, isSign c = true
theorem sign_lt {c : Nat} (h : isSign c = true) : c < 128 ∧ c ≠ 59 ∧ c ≠ 47 := by
  by_cases h1 : c < 128
  · refine ⟨h1, fun e => ?_, fun e => ?_⟩ <;> (subst e; exact absurd h (by decide))
  · exact absurd h (by
      unfold isSign
      rw [decide_eq_false (p := c ≤ 122) (by omega), decide_eq_false (p := c ≤ 90) (by omega), decide_eq_false (p := c ≤ 57) (by omega), decide_eq_false (p := c = 95) (by omega), decide_eq_false (p := c = 36) (by omega)]
      simp)
theorem Signs.asc {l : List Nat} (h : Signs l) : Asc l := fun c hc => (sign_lt (h c hc)).1
/-- a drawn class name: parts, each a name -/
def ClsName (l : List Nat) : Prop := ∃ ps : List (List Nat), ps ≠ [] ∧ (∀ p ∈ ps, Signs p ∧ 1 ≤ p.length ∧ p.length ≤ 6) ∧ ps.length ≤ 3 ∧ l = TL.joinL [47] ps
theorem join_mem {c : Nat} : ∀ {ps : List (List Nat)}, c ∈ TL.joinL [47] ps → c = 47 ∨ ∃ p ∈ ps, c ∈ p
  | [], h => by cases h
  | [p], h => .inr ⟨p, List.mem_singleton.mpr rfl, h⟩
  | p :: q :: r, h => by
    rcases List.mem_append.mp (show c ∈ p ++ ([47] ++ TL.joinL [47] (q :: r)) from h) with h | h
    · exact .inr ⟨p, List.mem_cons_self .., h⟩
    · rcases List.mem_append.mp h with h | h
      · exact .inl (List.mem_singleton.mp h)
      · rcases join_mem h with h | ⟨p', a, b⟩
        · exact .inl h
        · exact .inr ⟨p', List.mem_cons_of_mem _ a, b⟩
theorem join_len : ∀ {ps : List (List Nat)}, (∀ p ∈ ps, p.length ≤ 6) → (TL.joinL [47] ps).length ≤ 7 * ps.length
  | [], _ => Nat.zero_le _
  | [p], h => by
    have := h p (List.mem_singleton.mpr rfl)
    show p.length ≤ 7
    omega
  | p :: q :: r, h => by
    have h1 := h p (List.mem_cons_self ..)
    have h2 := join_len (ps := q :: r) fun x hx => h x (List.mem_cons_of_mem _ hx)
    show (p ++ ([47] ++ TL.joinL [47] (q :: r))).length ≤ 7 * (r.length + 1 + 1)
    rw [List.length_append, List.length_append]
    simp only [List.length_cons, List.length_nil] at h2 ⊢
    omega
theorem ClsName.facts {l : List Nat} (h : ClsName l) : isClassL l = true ∧ 59 ∉ l ∧ Asc l ∧ l.length ≤ 21 := by
  obtain ⟨ps, hne, hp, h3, rfl⟩ := h
  have hl : (TL.joinL [47] ps).length ≤ 7 * ps.length := join_len fun p h => (hp p h).2.2
  refine ⟨?_, fun hm => ?_, fun c hc => ?_, by omega⟩
  · unfold isClassL
    have e : TL.spl [47] 0 [] (TL.joinL [47] ps) = ps := TL.spl_join hne fun p hp' hm => (sign_lt ((hp p hp').1 47 hm)).2.2 rfl
    rw [e, decide_eq_true (by omega), Bool.true_and]
    refine List.all_eq_true.mpr fun p hp' => ?_
    obtain ⟨a, b, c⟩ := hp p hp'
    unfold isNameL
    rw [decide_eq_true b, decide_eq_true (by omega)]
    exact List.all_eq_true.mpr a
  · rcases join_mem hm with h | ⟨p, a, b⟩
    · cases h
    · exact (sign_lt ((hp p a).1 59 b)).2.1 rfl
  · rcases join_mem hc with h | ⟨p, a, b⟩
    · rw [h]; decide
    · exact (sign_lt ((hp p a).1 c b)).1
def spOne : Sp := fun vs H Q _ => ∃ (a p : Addr) (xs : List V) (n : Nat), vs = [.ref a, .ref p] ∧ H p = some (.lst xs) ∧ p ≠ a ∧ xs ≠ [] ∧ xs.length ≤ 1000 ∧ WellAt H a n ∧ n ≤ 1000000 ∧ ∀ v H', v ∈ xs → Exa a H H' → WellAt H' a (n + 1) → Q v H'
def spLName : Sp := fun vs H Q _ => ∃ (a : Addr) (m n : Nat), vs = [.ref a, .int (m : Int)] ∧ 1 ≤ m ∧ m ≤ 100 ∧ WellAt H a n ∧ n ≤ 100000 ∧ ∀ l H', Signs l → 1 ≤ l.length → l.length ≤ m → Exa a H H' → WellAt H' a (n + 101) → Q (.str (S l)) H'
def spLCls : Sp := fun vs H Q _ => ∃ (a : Addr) (n : Nat), vs = [.ref a] ∧ WellAt H a n ∧ n ≤ 99000 ∧ ∀ l H', ClsName l → Exa a H H' → WellAt H' a (n + 310) → Q (.str (S l)) H'
def signs13 : List Nat := [97, 98, 122, 65, 66, 90, 48, 49, 57, 95, 36, 76, 118]
theorem atI_some {α : Type} {xs : List α} {d : Int} (h0 : 0 ≤ d) (h1 : d < xs.length) : ∃ v, atI xs d = some v ∧ v ∈ xs := by
  have hi : d.toNat < xs.length := by omega
  refine ⟨xs[d.toNat], ?_, List.getElem_mem _⟩
  have := atI_nat (List.getElem?_eq_getElem hi)
  rwa [show ((d.toNat : Nat) : Int) = d by omega] at this
section
variable {P : Program} {w : World} {K : PySem.W.Frag} {mg : Str → Option Value} {base : Heap} {C : Addr}
theorem ok_lawOne {f : Addr} {fd : FuncData} (F : FnP K "_law_one" sLawOne f fd) (B : Bt mg) (c_law_draw : Cl P w K mg base L2.CX0 1 "_law_draw" ["well", "many"] spDraw) : FnOk P w K mg base L2.CX0 2 f fd ["well", "some"] spOne := by
  refine F.ok scLawOne (fun vs H Q E h => ?_) (fun cdv A outer s H vs Q E hr h => ?_)
  · obtain ⟨a, p, xs, n, rfl, _⟩ := h
    rfl
  · obtain ⟨a, p, xs, n, rfl, hp, hpa, hne, hx, hw, hn, q⟩ := h
    refine ⟨_, PSs.nox (pss_one (ps_ret (pe_ix ix_list (pv 1) (pe_cl c_law_draw hr (by decide) (by rfl) (pa_cons (pv 0) (pa_cons (pe_callB call_len_seq (by rfl) B.len PySem.boot_len (pa_cons (pv 1) pa_nil)) pa_nil))) (fun _ _ => rfl)))), ?_⟩
    refine ⟨_, rfl, ?_⟩
    refine dr_draw (a := a) (m := (xs.length : Int)) (n := n) (ev_var rfl) (ev_len (ev_var rfl) (sq_of hp)) ?_ (by omega) hw hn fun d H' h0 h1 hxa hw' => ?_
    · cases xs with
      | nil => exact absurd rfl hne
      | cons x r => simp only [List.length_cons]; omega
    · obtain ⟨v, hv, hm⟩ := atI_some h0 h1
      exact ⟨p, xs, d, v, rfl, rfl, sq_of (hxa _ _ hpa hp), hv, q v H' hm hxa hw'⟩
end
end N1

namespace N1
open PySem PySem.Spec PyProof.Rows L2 Evl
open SX (S)
theorem flat_len : ∀ {ls : List (List Nat)}, (∀ l ∈ ls, l.length = 1) → ls.flatten.length = ls.length
  | [], _ => rfl
  | l :: r, h => by
    have h1 := h l (List.mem_cons_self ..)
    have h2 := flat_len (ls := r) fun x hx => h x (List.mem_cons_of_mem _ hx)
    rw [List.flatten_cons, List.length_append, List.length_cons]
    omega
theorem Exa.back {a D : Addr} {n : Nat} {H H1 : Hp} (x : Exa a H H1) (hw : WellAt H1 a n) (h : H1 D = none) : H D = none := by
  obtain ⟨y, c, h1, _⟩ := hw
  cases e : H D with
  | none => rfl
  | some o =>
    by_cases q : D = a
    · rw [q, h1] at h
      cases h
    · rw [x D o q e] at h
      cases h
section
variable {K : PySem.W.Frag} {σ : L2.St} {H H' : Hp} {ta : TA} {te : TE} {Q : VK}
theorem lc_drawn {a : Addr} {n k j : Nat} {vs : List Nat} (PN : Nat → Prop) (Pe : List Nat → Prop)
    (hta : ∀ R : List V → Hp → Prop, (∀ (N : Nat) H1, PN N → WellAt H1 a n → Exa a H H1 → R [.int (N : Int)] H1) → ta σ H R) (hPN : ∀ N, PN N → N ≤ 1000)
    (hw : ∀ x, wipe ((wipe σ vs).set j (some x)) vs = wipe σ vs)
    (he : ∀ (N i : Nat) H2, PN N → i < N → WellAt H2 a (n + i * k) → ∀ Q : VK, (∀ l H', Pe l → Exa a H2 H' → WellAt H' a (n + (i + 1) * k) → Q (.str (S l)) H') → te ((wipe σ vs).set j (some (.int ((0 : Int) + (i : Int))))) H2 Q)
    (hd : ∀ (D : Addr) (N : Nat) (ls : List (List Nat)) H', H D = none → PN N → ls.length = N → (∀ l ∈ ls, Pe l) → Exa a H H' → WellAt H' a (n + N * k) → H' D = some (.lst (ls.map N1.vs)) → Q (.ref D) H') :
    tLc (iRng1 ta) (gName j) tYes te vs σ H Q := by
  refine hta _ fun N H1 hN hw1 x1 => ⟨(N : Int), rfl, by omega, by have := hPN N hN; omega, fun D hD => ?_⟩
  have hDa : D ≠ a := fun e => by
    obtain ⟨y, c, h1, _⟩ := hw1
    rw [e, h1] at hD
    cases hD
  refine lc_range (lo := 0) (n := (N : Int).toNat) (fun i H2 => ∃ ls : List (List Nat), ls.length = i ∧ (∀ l ∈ ls, Pe l) ∧ Exa a H1 H2 ∧ WellAt H2 a (n + i * k) ∧ H2 D = some (.lst (ls.map N1.vs))) ⟨[], rfl, (fun l hl => by cases hl), Exa.of (Ex.new hD), ?_, upd_same⟩ (fun i H2 hi hP => ?_) fun H2 hP => ?_
  · have e : n + 0 * k = n := by omega
    rw [e]
    exact hw1.ex (Ex.new hD)
  · rw [Int.toNat_natCast] at hi
    obtain ⟨ls, h1, h2, h3, h4, h5⟩ := hP
    refine ⟨hw _, ?_⟩
    show te _ H2 _
    refine he N i H2 hN hi h4 _ fun l H3 hl x3 hw3 => ⟨ls.map N1.vs, x3 D _ hDa h5, ?_, ls ++ [l], ?_, ?_, ?_, ?_, ?_⟩
    · rw [List.length_map]
      have := hPN N hN
      exact sz_lt (by omega)
    · rw [List.length_append, h1]; rfl
    · intro x hx
      rcases List.mem_append.mp hx with h | h
      · exact h2 x h
      · rw [List.mem_singleton.mp h]
        exact hl
    · intro b o hb hbo
      have hbD : b ≠ D := fun e => by rw [e, hD] at hbo; cases hbo
      rw [upd_ne hbD]
      exact x3 b o hb (h3 b o hb hbo)
    · obtain ⟨y, c, w1, w2⟩ := hw3
      exact ⟨y, c, by rw [upd_ne hDa.symm]; exact w1, w2⟩
    · rw [upd_same, List.map_append]; rfl
  · rw [Int.toNat_natCast] at hP
    obtain ⟨ls, h1, h2, h3, h4, h5⟩ := hP
    exact hd D N ls H2 (x1.back hw1 hD) hN h1 h2 (x1.trans h3) h4 h5
abbrev rJoin (K : PySem.W.Frag) : V → List V → Hp → VK → Prop := fun x xs H Q => ∃ a p, ∃ ys : List Str, x = .str a ∧ xs = [.ref p] ∧ (SqL K H p (ys.map V.str) ∨ SqT K H p (ys.map V.str)) ∧ (ys.map (·.length)).sum + ys.length * a.length ≤ 16777216 ∧ Q (.str (Txt.join a ys)) H
theorem sum_le {ls : List (List Nat)} {b : Nat} (h : ∀ l ∈ ls, l.length ≤ b) : (ls.map (·.length)).sum ≤ ls.length * b := by
  induction ls with
  | nil => exact Nat.zero_le _
  | cons l r ih =>
    have h1 := h l (List.mem_cons_self ..)
    have h2 := ih fun x hx => h x (List.mem_cons_of_mem _ hx)
    rw [List.map_cons, List.sum_cons, List.length_cons, Nat.succ_mul]
    omega
theorem dr_join {z : Str} {sep : List Nat} {p : Addr} {ls : List (List Nat)} (ez : z = S sep) (hs : sep.length ≤ 10) (hp : H p = some (.lst (ls.map N1.vs))) (hl : ls.length ≤ 1000) (hb : ∀ l ∈ ls, l.length ≤ 1000) (q : Q (.str (S (TL.joinL sep ls))) H) : rJoin K (.str z) [.ref p] H Q := by
  refine ⟨z, p, ls.map S, rfl, rfl, .inl ?_, ?_, ?_⟩
  · rw [List.map_map]
    exact sq_of hp
  · subst ez
    rw [SX.lens, List.length_map, SX.S_len]
    have h1 := sum_le hb
    have h2 : ls.length * 1000 ≤ 1000 * 1000 := Nat.mul_le_mul hl (Nat.le_refl _)
    have h3 : ls.length * sep.length ≤ 1000 * 10 := Nat.mul_le_mul hl hs
    omega
  · subst ez
    rw [SX.join_S]
    exact q
end
section
variable {P : Program} {w : World} {K : PySem.W.Frag} {mg : Str → Option Value} {base : Heap} {C : Addr}
theorem ok_lawName {f : Addr} {fd : FuncData} (F : FnP K "_law_name" sLawName f fd) (B : Bt mg) (c_law_draw : Cl P w K mg base L2.CX0 1 "_law_draw" ["well", "many"] spDraw) : FnOk P w K mg base L2.CX0 2 f fd ["well", "many"] spLName := by
  refine F.ok scLawName (fun vs H Q E h => ?_) (fun cdv A outer s H vs Q E hr h => ?_)
  · obtain ⟨a, m, n, rfl, _⟩ := h
    rfl
  · obtain ⟨a, m, n, rfl, m1, m2, hw, hn, q⟩ := h
    refine ⟨_, PSs.nox (pss_cons (ps_set (i := 2) scLawName.nd rfl (.inr rfl) pe_str)
      (pss_one (ps_ret (pe_join pe_str (pe_lc (own := [("k", 3)]) (g := gName 3) (tt := tYes) rfl scLawName.nd (pi_range1 (by rfl) B.range (pa_cons (pe_op op_add pe_int (pe_cl c_law_draw hr (by decide) (by rfl) (pa_cons (pv 0) (pa_cons (pv 1) pa_nil)))) pa_nil)) (blkOk_by (N := ["well", "many", "signs", "k"]) (sc := L2.defScope sLawName) (by decide +kernel)) (fun _ _ _ _ _ => pg_name (i := 3) scLawName.nd rfl (Or.inl rfl)) (fun _ _ _ _ _ => pts_nil) (fun _ _ _ _ _ => (pe_ix ix_str (pv 2) (pe_cl c_law_draw hr (by decide) (by rfl) (pa_cons (pv 0) (pa_cons (pe_callB call_len_str (by rfl) B.len PySem.boot_len (pa_cons (pv 2) pa_nil)) pa_nil))) (fun _ _ => rfl)))))))), ?_⟩
    refine q_asg ev_c fun H1 x1 => ?_
    refine ⟨⟨_, rfl⟩, ?_⟩
    refine lc_drawn (a := a) (n := n + 1) (k := 1) (j := 3) (fun N => 1 ≤ N ∧ N ≤ m) (fun l => ∃ c, l = [c] ∧ isSign c = true) (fun R hR => ?_) (fun N h => by omega) (fun _ => rfl) (fun N i H2 hN hi hw2 Q' hQ' => ?_) (fun D N ls H2 hD hN hls hPe x2 hw2 h2 => ?_)
    · refine dr_draw (a := a) (m := (m : Int)) (n := n) (ev_var rfl) (ev_var rfl) (by omega) (by omega) (hw.ex x1) (by omega) fun d H2 d0 d1 x2 hw2 => ⟨1, d, rfl, rfl, ?_⟩
      have e : (1 : Int) + d = ((d.toNat + 1 : Nat) : Int) := by omega
      show R [.int (1 + d)] H2
      rw [e]
      exact hR _ H2 (by omega) hw2 x2
    · refine ⟨_, rfl, ?_⟩
      have e13 : (Str.ofString "abzABZ019_$Lv") = S signs13 := by decide +kernel
      refine dr_draw (a := a) (m := 13) (n := n + 1 + i * 1) (ev_var rfl) (ev_is (ev_lenS (l := signs13) (ev_is (ev_var rfl) (congrArg V.str e13)) (by decide)) rfl) (by decide) (by decide) hw2 (by omega) fun d H3 d0 d1 x3 hw3 => ?_
      obtain ⟨c, hc, hm⟩ := atI_some (xs := signs13) d0 d1
      refine ⟨_, d, c, rfl, rfl, ?_, ?_, ?_⟩
      · decide +kernel
      · rw [e13]
        exact hc
      · refine hQ' [c] H3 ⟨c, rfl, ?_⟩ x3 (hw3.le (by omega))
        have key : ∀ x ∈ signs13, isSign x = true := by decide +kernel
        exact key c hm
    · refine dr_join (sep := []) (by decide +kernel) (by decide) h2 (by omega) (fun l hl => ?_) ?_
      · obtain ⟨c, rfl, _⟩ := hPe l hl
        show 1 ≤ 1000
        decide
      · rw [joinL_nil]
        refine q ls.flatten H2 (fun c hc => ?_) ?_ ?_ ((Exa.of x1).trans x2) (hw2.le (by omega))
        · obtain ⟨l, hl, hcl⟩ := List.mem_flatten.mp hc
          obtain ⟨d, rfl, hd⟩ := hPe l hl
          rw [List.mem_singleton.mp hcl]
          exact hd
        all_goals
          have e : ls.flatten.length = ls.length := flat_len fun l hl => by
            obtain ⟨d, rfl, _⟩ := hPe l hl
            rfl
          omega
theorem ok_lawClassName {f : Addr} {fd : FuncData} (F : FnP K "_law_class_name" sLawClassName f fd) (B : Bt mg) (c_law_draw : Cl P w K mg base L2.CX0 1 "_law_draw" ["well", "many"] spDraw) (c_law_name : Cl P w K mg base L2.CX0 2 "_law_name" ["well", "many"] spLName) :
    FnOk P w K mg base L2.CX0 3 f fd ["well"] spLCls := by
  refine F.ok scLawClassName (fun vs H Q E h => ?_) (fun cdv A outer s H vs Q E hr h => ?_)
  · obtain ⟨a, n, rfl, _⟩ := h
    rfl
  · obtain ⟨a, n, rfl, hw, hn, q⟩ := h
    refine ⟨_, PSs.nox (pss_one (ps_ret (pe_join pe_str (pe_lc (own := [("k", 1)]) (g := gName 1) (tt := tYes) rfl scLawClassName.nd (pi_range1 (by rfl) B.range (pa_cons (pe_op op_add pe_int (pe_cl c_law_draw hr (by decide) (by rfl) (pa_cons (pv 0) (pa_cons pe_int pa_nil)))) pa_nil)) (blkOk_by (N := ["well", "k"]) (sc := L2.defScope sLawClassName) (by decide +kernel)) (fun _ _ _ _ _ => pg_name (i := 1) scLawClassName.nd rfl (Or.inl rfl)) (fun _ _ _ _ _ => pts_nil) (fun _ _ _ _ _ => (pe_cl c_law_name hr (by decide) (by rfl) (pa_cons (pv 0) (pa_cons pe_int pa_nil)))))))), ?_⟩
    refine ⟨⟨_, rfl⟩, ?_⟩
    refine lc_drawn (a := a) (n := n + 1) (k := 101) (j := 1) (fun N => 1 ≤ N ∧ N ≤ 3) (fun l => Signs l ∧ 1 ≤ l.length ∧ l.length ≤ 6) (fun R hR => ?_) (fun N h => by omega) (fun _ => rfl) (fun N i H2 hN hi hw2 Q' hQ' => ?_) (fun D N ls H2 hD hN hls hPe x2 hw2 h2 => ?_)
    · refine dr_draw (a := a) (m := 3) (n := n) (ev_var rfl) ev_c (by decide) (by decide) hw (by omega) fun d H2 d0 d1 x2 hw2 => ⟨1, d, rfl, rfl, ?_⟩
      have e : (1 : Int) + d = ((d.toNat + 1 : Nat) : Int) := by omega
      show R [.int (1 + d)] H2
      rw [e]
      exact hR _ H2 (by omega) hw2 x2
    · refine ea_cons (vs := [.int 6]) (ev_var rfl) (ea_cons ev_c ea_nil) H2 (Ex.refl H2) _ fun H3 x3 => ⟨a, 6, n + 1 + i * 101, rfl, by decide, by decide, hw2.ex x3, by omega, fun l H4 a1 a2 a3 x4 hw4 => hQ' l H4 ⟨a1, a2, a3⟩ ((Exa.of x3).trans x4) (hw4.le (by omega))⟩
    · refine dr_join (sep := [47]) (by decide +kernel) (by decide) h2 (by omega) (fun l hl => by have := (hPe l hl).2.2; omega) ?_
      refine q _ H2 ⟨ls, ?_, hPe, by omega, rfl⟩ x2 (hw2.le (by omega))
      intro e
      subst e
      simp only [List.length_nil] at hls
      omega
end
end N1

namespace N1
open PySem PySem.Spec PyProof.Rows L2 Evl
open SX (S)
section
variable {K : PySem.W.Frag} {σ : L2.St} {H H' : Hp} {ta tb tc te : TE} {t : TA} {r : R2} {v : V} {D : Ends} {Q : VK}
theorem rd_ret (h : te σ H D.rt) : tRet te D σ H := h
theorem rd_op (h : ta σ H fun x H1 => tb σ H1 fun y H2 => r x y H2 Q) : tOp r ta tb σ H Q := h
theorem rd_c (h : Q v H) : tC v σ H Q := h
theorem rd_lst (h : t σ H fun xs H1 => xs.length ≤ sizeLine ∧ ∀ p, H1 p = none → Q (.ref p) (upd H1 p (.lst xs))) : tLst t σ H Q := h
theorem rd_cons {QL : List V → Hp → Prop} (h : te σ H fun x H1 => t σ H1 fun xs H2 => QL (x :: xs) H2) : tCons te t σ H QL := h
theorem rd_ev (h : Ev te σ H v) (k : ∀ H1, Ex H H1 → Q v H1) : te σ H Q := h H (Ex.refl H) Q k
theorem rd_call {sp : Sp} (h : t σ H fun vs H1 => sp (vs ++ []) H1 Q L2.E0) : tCall sp [] L2.E0 t σ H Q := h
end
/-- a drawn field's descriptor -/
def GoodB (b : List Nat) : Prop := (∃ c, c ∈ letters ∧ b = [c]) ∨ ∃ nm, ClsName nm ∧ b = 76 :: (nm ++ [59])
def GoodD (l : List Nat) : Prop := ∃ d b, d ≤ 5 ∧ GoodB b ∧ l = List.replicate d 91 ++ b
def spDesc : Sp := fun vs H Q _ => ∃ (a : Addr) (n : Nat), vs = [.ref a] ∧ WellAt H a n ∧ n ≤ 90000 ∧ ∀ l H', GoodD l → Exa a H H' → WellAt H' a (n + 400) → Q (.str (S l)) H'
def spChanged : Sp := fun vs H Q _ => ∃ (a : Addr) (l : List Nat) (n : Nat), vs = [.ref a, .str (S l)] ∧ Asc l ∧ l.length ≤ 5000 ∧ WellAt H a n ∧ n ≤ 900000 ∧ ∀ r H', Asc r → r.length ≤ l.length + 1 → Exa a H H' → WellAt H' a (n + 3) → Q (.str (S r)) H'
theorem letter_lt : ∀ c ∈ letters, c < 128 ∧ c ≠ 91 ∧ c ≠ 41 ∧ c ≠ 59 ∧ c ≠ 76 := by decide +kernel
theorem GoodB.asc {b : List Nat} (h : GoodB b) : Asc b ∧ b.length ≤ 23 ∧ b ≠ [] := by
  rcases h with ⟨c, hc, rfl⟩ | ⟨nm, hn, rfl⟩
  · exact ⟨fun x hx => by rw [List.mem_singleton.mp hx]; exact (letter_lt c hc).1, by show 1 ≤ 23; decide, by simp⟩
  · obtain ⟨_, _, h3, h4⟩ := hn.facts
    refine ⟨fun x hx => ?_, by simp; omega, by simp⟩
    rcases List.mem_cons.mp hx with h | h
    · rw [h]; decide
    · rcases List.mem_append.mp h with h | h
      · exact h3 x h
      · rw [List.mem_singleton.mp h]; decide
theorem GoodD.asc {l : List Nat} (h : GoodD l) : Asc l ∧ l.length ≤ 28 ∧ l ≠ [] := by
  obtain ⟨d, b, hd, hb, rfl⟩ := h
  obtain ⟨h1, h2, h3⟩ := hb.asc
  refine ⟨fun x hx => ?_, by rw [List.length_append, List.length_replicate]; omega, by simp [h3]⟩
  rcases List.mem_append.mp hx with h | h
  · rw [(List.mem_replicate.mp h).2]; decide
  · exact h1 x h
section
variable {P : Program} {w : World} {K : PySem.W.Frag} {mg : Str → Option Value} {base : Heap} {C : Addr}
theorem ok_lawDescriptor {f : Addr} {fd : FuncData} (F : FnP K "_law_descriptor" sLawDescriptor f fd) (B : Bt mg) (c_law_draw : Cl P w K mg base L2.CX0 1 "_law_draw" ["well", "many"] spDraw) (c_law_one : Cl P w K mg base L2.CX0 2 "_law_one" ["well", "some"] spOne)
    (c_law_class_name : Cl P w K mg base L2.CX0 3 "_law_class_name" ["well"] spLCls) : FnOk P w K mg base L2.CX0 4 f fd ["well"] spDesc := by
  refine F.ok scLawDescriptor (fun vs H Q E h => ?_) (fun cdv A outer s H vs Q E hr h => ?_)
  · obtain ⟨a, n, rfl, _⟩ := h
    rfl
  · obtain ⟨a, n, rfl, hw, hn, q⟩ := h
    refine ⟨_, PSs.nox (pss_cons (ps_set (i := 1) scLawDescriptor.nd rfl (.inl rfl) (pe_cl c_law_draw hr (by decide) (by rfl) (pa_cons (pv 0) (pa_cons pe_int pa_nil))))
      (pss_cons (ps_if (pt_cmpR op_lt (pv 1) pe_int (nomark _)) (pss_one (ps_ret (pe_ix ix_list (pe_lst (pa_cons pe_str (pa_cons pe_str (pa_cons (pe_ix ix_str pe_str (pe_cl c_law_draw hr (by decide) (by rfl) (pa_cons (pv 0) (pa_cons pe_int pa_nil))) (fun _ _ => rfl)) pa_nil)))) (pv 1) (fun _ _ => rfl)))) pss_nil)
      (pss_cons (ps_set (i := 2) scLawDescriptor.nd rfl (.inl rfl) (pe_cl c_law_one hr (by decide) (by rfl) (pa_cons (pv 0) (pa_cons (pe_lst (pa_cons pe_str (pa_cons pe_str (pa_cons pe_str (pa_cons (pe_op op_add_str (pe_op op_add_str pe_str (pe_cl c_law_class_name hr (by decide) (by rfl) (pa_cons (pv 0) pa_nil))) pe_str) pa_nil))))) pa_nil))))
      (pss_one (ps_ret (pe_op op_add_str (pe_op op_repS pe_str (pe_op op_mulW (pe_cl c_law_draw hr (by decide) (by rfl) (pa_cons (pv 0) (pa_cons pe_int pa_nil))) (pe_callTy call_int1 (by rfl) B.int (by decide +kernel) (pa_cons (pe_cmpR op_gt (pv 1) pe_int (nomark _)) pa_nil)))) (pv 2))))))), ?_⟩
    refine q_asgAny (dr_draw (a := a) (m := 6) (n := n) (ev_var rfl) ev_c (by decide) (by decide) hw (by omega) fun way H1 w0 w1 xa1 hw1 => ?_)
    refine q_when (b := decide (way < 3)) (et_test (ev_op (ev_var rfl) ev_c rv_I0)) (fun e H2 x2 => ?_) (fun e H2 x2 => ?_)
    · have hlt := of_decide_eq_true e
      refine rd_ret (rd_op (rd_lst (rd_cons (rd_c (rd_cons (rd_c (rd_cons (rd_op (rd_c ?_)))))))))
      have e4 : (Str.ofString "ZBSC") = S [90, 66, 83, 67] := by decide +kernel
      refine dr_draw (a := a) (m := 4) (n := n + 1) (ev_var rfl) ev_c (by decide) (by decide) (hw1.ex x2) (by omega) fun d H3 d0 d1 xa3 hw3 => ?_
      obtain ⟨c, hc, hm⟩ := atI_some (xs := [90, 66, 83, 67]) d0 d1
      refine ⟨_, d, c, rfl, rfl, by decide +kernel, by rw [e4]; exact hc, ?_⟩
      refine ⟨by show 3 ≤ sizeLine; decide, fun p hp => ⟨_, rfl, ?_⟩⟩
      obtain ⟨v, hv, hvm⟩ := atI_some (xs := [V.str "I", V.str "J", V.str (S [c])]) w0 (by show way < ((3 : Nat) : Int); omega)
      refine ⟨p, _, way, v, rfl, rfl, sq_of upd_same, hv, ?_⟩
      have hq : ∀ b, b ∈ letters → Q (.str (S [b])) (upd H3 p (.lst [V.str "I", V.str "J", V.str (S [c])])) := fun b hb => q [b] _ ⟨0, [b], by decide, .inl ⟨b, hb, rfl⟩, rfl⟩ ((xa1.trans (Exa.of x2)).trans (xa3.trans (Exa.of (Ex.new hp)))) ((hw3.ex (Ex.new hp)).le (by omega))
      have e73 : (Str.ofString "I") = S [73] := by decide +kernel
      have e74 : (Str.ofString "J") = S [74] := by decide +kernel
      rcases List.mem_cons.mp hvm with h | h
      · rw [h]
        have := hq 73 (by decide)
        rw [← e73] at this
        exact this
      · rcases List.mem_cons.mp h with h | h
        · rw [h]
          have := hq 74 (by decide)
          rw [← e74] at this
          exact this
        · rw [List.mem_singleton.mp h]
          refine hq c ?_
          have key : ∀ x ∈ [90, 66, 83, 67], x ∈ letters := by decide
          exact key c hm
    · refine q_asgAny (rd_call (rd_cons (rd_ev (ev_var rfl) fun H3 x3 => rd_cons (rd_lst (rd_cons (rd_c (rd_cons (rd_c (rd_cons (rd_c (rd_cons (rd_op (rd_op (rd_c (rd_call (rd_cons (rd_ev (ev_var rfl) fun H4 x4 => ?_)))))))))))))))))
      have x24 := (x2.trans x3).trans x4
      refine ⟨a, n + 1, rfl, hw1.ex x24, by omega, fun nm H5 hnm xa5 hw5 => ?_⟩
      obtain ⟨g1, g2, g3, g4⟩ := hnm.facts
      have e76 : (Str.ofString "L") = S [76] := by decide +kernel
      have e59 : (Str.ofString ";") = S [59] := by decide +kernel
      refine ⟨_, _, rfl, rfl, ?_, ?_⟩
      · rw [e76, SX.S_len, SX.S_len]
        exact sz_of (by simp; omega)
      refine ⟨_, _, rfl, rfl, ?_, ?_⟩
      · rw [e76, e59, SX.S_cat, SX.S_len, SX.S_len]
        exact sz_of (by simp; omega)
      rw [e76, e59, SX.S_cat, SX.S_cat]
      refine ⟨by show 4 ≤ sizeLine; decide, fun p hp => ?_⟩
      have hpa : p ≠ a := by
        obtain ⟨y, c, h1, _⟩ := hw5
        exact fun e => by rw [e, h1] at hp; cases hp
      refine ⟨a, p, _, n + 1 + 310, rfl, upd_same, hpa, by simp, by show 4 ≤ 1000; decide, hw5.ex (Ex.new hp), by omega, fun el H6 hel xa6 hw6 => ?_⟩
      have hel2 : ∃ b, GoodB b ∧ el = .str (S b) := by
        rcases List.mem_cons.mp hel with h | h
        · exact ⟨[73], .inl ⟨73, by decide, rfl⟩, by rw [h]; decide +kernel⟩
        · rcases List.mem_cons.mp h with h | h
          · exact ⟨[74], .inl ⟨74, by decide, rfl⟩, by rw [h]; decide +kernel⟩
          · rcases List.mem_cons.mp h with h | h
            · exact ⟨[66], .inl ⟨66, by decide, rfl⟩, by rw [h]; decide +kernel⟩
            · exact ⟨76 :: (nm ++ [59]), .inr ⟨nm, hnm, rfl⟩, by rw [List.mem_singleton.mp h]; rfl⟩
      obtain ⟨b, hb, rfl⟩ := hel2
      refine rd_ret (rd_op (rd_op (rd_c (rd_op ?_))))
      refine dr_draw (a := a) (m := 6) (n := n + 1 + 310 + 1) (ev_var rfl) ev_c (by decide) (by decide) hw6 (by omega) fun d H7 d0 d1 xa7 hw7 => ?_
      refine rd_ev (v := .int (if decide (3 < way) then 1 else 0)) (ev_intB (ev_op (ev_var rfl) ev_c rv_I0)) fun H8 x8 => ?_
      refine ⟨d, (if decide (3 < way) then 1 else 0), rfl, rfl, wide_mul (a := 64) (b := 64) (by omega) (by split <;> decide) (by decide) (by decide) (by decide), ?_⟩
      obtain ⟨k, hk5, hk⟩ : ∃ k : Nat, k ≤ 5 ∧ d * (if decide (3 < way) = true then 1 else 0) = (k : Int) := by
        split
        · exact ⟨d.toNat, by omega, by omega⟩
        · exact ⟨0, by omega, by omega⟩
      have e91 : (Str.ofString "[") = S [91] := by decide +kernel
      refine ⟨[91], k, by rw [e91], congrArg V.int hk, by omega, by decide, ?_⟩
      refine rd_ev (v := .str (S b)) (ev_var rfl) fun H9 x9 => ⟨_, _, rfl, rfl, ?_, ?_⟩
      · obtain ⟨_, b2, _⟩ := hb.asc
        rw [SX.S_len, SX.S_len]
        refine sz_of ?_
        simp
        omega
      · rw [SX.S_cat]
        have er : (List.replicate k [91]).flatten = List.replicate k 91 := by simp
        rw [er]
        refine q _ H9 ⟨k, b, hk5, hb, rfl⟩ ?_ ((hw7.ex (x8.trans x9)).le (by omega))
        exact (xa1.trans (Exa.of x24)).trans (xa5.trans ((Exa.of (Ex.new hp)).trans (xa6.trans (xa7.trans (Exa.of (x8.trans x9))))))
end
end N1

namespace N1
open PySem PySem.Spec PyProof.Rows L2 Evl
open SX (S)
/-! ### what drawn descriptors come to -/
theorem nb_rep (d : Nat) (r : List Nat) (h : r.head? ≠ some 91) : nb (List.replicate d 91 ++ r) = d := by
  induction d with
  | zero =>
    cases r with
    | nil => rfl
    | cons c r => exact if_neg fun e => h (by rw [e]; rfl)
  | succ d ih =>
    show (if (91 : Nat) = 91 then nb (List.replicate d 91 ++ r) + 1 else 0) = d + 1
    rw [if_pos rfl, ih]
theorem getD_app {l r : List Nat} {i : Nat} (h : i = l.length) (d : Nat) : (l ++ r).getD i d = r.getD 0 d := by
  subst h
  rw [List.getD_eq_getElem?_getD, List.getD_eq_getElem?_getD, List.getElem?_append_right (Nat.le_refl _), Nat.sub_self]
/-- where a drawn descriptor stands, there it ends -/
theorem fend_good {pre l post : List Nat} (h : GoodD l) : fend (pre ++ (l ++ post)) pre.length = some (pre.length + l.length) := by
  obtain ⟨d, b, hd, hb, rfl⟩ := h
  obtain ⟨hA, hlen, hne⟩ := hb.asc
  have hb91 : ∀ r : List Nat, (b ++ r).head? ≠ some 91 := by
    intro r
    rcases hb with ⟨c, hc, rfl⟩ | ⟨nm, hn, rfl⟩
    · exact fun e => (letter_lt c hc).2.1 (Option.some.inj e)
    · exact fun e => by cases e
  have e0 : (pre ++ ((List.replicate d 91 ++ b) ++ post)).drop pre.length = List.replicate d 91 ++ (b ++ post) := by
    rw [List.drop_left, List.append_assoc]
  have en : nb ((pre ++ ((List.replicate d 91 ++ b) ++ post)).drop pre.length) = d := by
    rw [e0]
    exact nb_rep d _ (hb91 post)
  have ew : pre ++ ((List.replicate d 91 ++ b) ++ post) = (pre ++ List.replicate d 91) ++ (b ++ post) := by simp [List.append_assoc]
  have hlenw : (pre ++ ((List.replicate d 91 ++ b) ++ post)).length = pre.length + d + b.length + post.length := by
    simp only [List.length_append, List.length_replicate]
    omega
  have hbl : 1 ≤ b.length := by
    cases b with
    | nil => exact absurd rfl hne
    | cons c r => exact Nat.succ_le_succ (Nat.zero_le _)
  unfold fend
  rw [en, if_neg (by rw [hlenw]; omega)]
  have hg : (pre ++ ((List.replicate d 91 ++ b) ++ post)).getD (pre.length + d) 0 = (b ++ post).getD 0 0 := by
    rw [ew]
    exact getD_app (by simp) 0
  rw [hg]
  rcases hb with ⟨c, hc, rfl⟩ | ⟨nm, hn, rfl⟩
  · rw [if_pos (List.any_eq_true.mpr ⟨c, hc, decide_eq_true rfl⟩)]
    simp only [List.length_append, List.length_replicate, List.length_cons, List.length_nil]
    congr 1
  · obtain ⟨f1, f2, f3, f4⟩ := hn.facts
    have h76 : (76 :: (nm ++ [59]) ++ post).getD 0 0 = 76 := rfl
    rw [h76, if_neg (by decide)]
    have ek : fnd (pre ++ ((List.replicate d 91 ++ 76 :: (nm ++ [59])) ++ post)) (pre.length + d) = some (pre.length + d + 1 + nm.length) := by
      have ew2 : pre ++ ((List.replicate d 91 ++ 76 :: (nm ++ [59])) ++ post) = (pre ++ List.replicate d 91) ++ ((76 :: nm) ++ (59 :: post)) := by simp [List.append_assoc]
      rw [ew2]
      have hl : (pre ++ List.replicate d 91).length = pre.length + d := by simp
      refine fnd_is (by omega) (by simp only [List.length_append, List.length_replicate, List.length_cons]; omega) ?_ fun v v1 v2 => ?_
      · rw [← List.append_assoc]
        rw [getD_app (by simp only [List.length_append, List.length_replicate, List.length_cons]; omega) 0]
        rfl
      · obtain ⟨i, rfl⟩ : ∃ i, v = pre.length + d + i := ⟨v - (pre.length + d), by omega⟩
        rw [List.getD_eq_getElem?_getD, List.getElem?_append_right (by omega), hl, show pre.length + d + i - (pre.length + d) = i by omega, List.getElem?_append_left (by simp only [List.length_cons]; omega)]
        cases i with
        | zero => exact fun e => by cases e
        | succ i =>
          rw [List.getElem?_cons_succ, List.getElem?_eq_getElem (by omega)]
          intro e
          have e' : nm[i]'(by omega) = 59 := e
          exact f2 (by rw [← e']; exact List.getElem_mem _)
    rw [ek]
    have hsub : sub (pre ++ ((List.replicate d 91 ++ 76 :: (nm ++ [59])) ++ post)) (pre.length + d + 1) (pre.length + d + 1 + nm.length) = nm := by
      have ew3 : pre ++ ((List.replicate d 91 ++ 76 :: (nm ++ [59])) ++ post) = (pre ++ List.replicate d 91 ++ [76]) ++ (nm ++ (59 :: post)) := by simp [List.append_assoc]
      unfold sub
      rw [ew3, List.drop_left' (by simp; omega), show pre.length + d + 1 + nm.length - (pre.length + d + 1) = nm.length by omega, List.take_left' rfl]
    show (if 76 = 76 ∧ isClassL (sub (pre ++ ((List.replicate d 91 ++ 76 :: (nm ++ [59])) ++ post)) (pre.length + d + 1) (pre.length + d + 1 + nm.length)) = true then some (pre.length + d + 1 + nm.length + 1) else none) = _
    rw [hsub, if_pos ⟨rfl, f1⟩]
    simp only [List.length_append, List.length_replicate, List.length_cons, List.length_nil]
    congr 1
    omega
theorem good_head {l post : List Nat} (h : GoodD l) : (l ++ post).getD 0 0 ≠ 41 := by
  obtain ⟨d, b, hd, hb, rfl⟩ := h
  cases d with
  | succ d => exact fun e => by cases e
  | zero =>
    rcases hb with ⟨c, hc, rfl⟩ | ⟨nm, hn, rfl⟩
    · exact fun e => (letter_lt c hc).2.2.1 e
    · exact fun e => by cases e
theorem loop_good : ∀ (ps : List (List Nat)) (pre last : List Nat) (acc : List (List Nat)) (n : Nat), (∀ p ∈ ps, GoodD p) → ps.length < n → loopP (pre ++ (ps.flatten ++ 41 :: last)) n pre.length acc = some (acc ++ ps, pre.length + ps.flatten.length)
  | [], pre, last, acc, n, _, hn => by
    obtain ⟨n, rfl⟩ : ∃ m, n = m + 1 := ⟨n - 1, by simp at hn; omega⟩
    have hg : (pre ++ (([] : List (List Nat)).flatten ++ 41 :: last)).getD pre.length 0 = 41 := by rw [getD_app rfl 0]; rfl
    have e1 : loopP (pre ++ (([] : List (List Nat)).flatten ++ 41 :: last)) (n + 1) pre.length acc = some (acc, pre.length) := if_neg fun h => h.2 hg
    rw [e1]
    simp
  | p :: ps, pre, last, acc, n, hp, hn => by
    obtain ⟨n, rfl⟩ : ∃ m, n = m + 1 := ⟨n - 1, by simp at hn; omega⟩
    have hgp := hp p (List.mem_cons_self ..)
    have ew : pre ++ ((p :: ps).flatten ++ 41 :: last) = pre ++ (p ++ (ps.flatten ++ 41 :: last)) := by rw [List.flatten_cons, List.append_assoc]
    rw [ew]
    obtain ⟨_, _, pne⟩ := hgp.asc
    have pl : 1 ≤ p.length := by
      cases p with
      | nil => exact absurd rfl pne
      | cons c r => exact Nat.succ_le_succ (Nat.zero_le _)
    have e1 : loopP (pre ++ (p ++ (ps.flatten ++ 41 :: last))) (n + 1) pre.length acc = (match fend (pre ++ (p ++ (ps.flatten ++ 41 :: last))) pre.length with
      | none => none
      | some e => loopP (pre ++ (p ++ (ps.flatten ++ 41 :: last))) n e (acc ++ [sub (pre ++ (p ++ (ps.flatten ++ 41 :: last))) pre.length e])) := by
      refine if_pos ⟨by simp only [List.length_append, List.length_cons]; omega, ?_⟩
      rw [getD_app rfl 0]
      exact good_head hgp
    rw [e1, fend_good hgp]
    have es : sub (pre ++ (p ++ (ps.flatten ++ 41 :: last))) pre.length (pre.length + p.length) = p := by
      unfold sub
      rw [List.drop_left, show pre.length + p.length - pre.length = p.length by omega, List.take_left' rfl]
    show loopP (pre ++ (p ++ (ps.flatten ++ 41 :: last))) n (pre.length + p.length) (acc ++ [sub (pre ++ (p ++ (ps.flatten ++ 41 :: last))) pre.length (pre.length + p.length)]) = _
    rw [es]
    have ih := loop_good ps (pre ++ p) last (acc ++ [p]) n (fun x hx => hp x (List.mem_cons_of_mem _ hx)) (by simp at hn; omega)
    rw [List.length_append, List.append_assoc] at ih
    rw [ih]
    simp only [List.flatten_cons, List.length_append, List.append_assoc, List.singleton_append]
    congr 2
    omega
theorem flat_ge : ∀ {ps : List (List Nat)}, (∀ p ∈ ps, GoodD p) → ps.length ≤ ps.flatten.length
  | [], _ => Nat.zero_le _
  | p :: ps, h => by
    obtain ⟨_, _, pne⟩ := (h p (List.mem_cons_self ..)).asc
    have pl : 1 ≤ p.length := by
      cases p with
      | nil => exact absurd rfl pne
      | cons c r => exact Nat.succ_le_succ (Nat.zero_le _)
    have := flat_ge (ps := ps) fun x hx => h x (List.mem_cons_of_mem _ hx)
    rw [List.flatten_cons, List.length_append, List.length_cons]
    omega
theorem field_good {l : List Nat} (h : GoodD l) : isFieldL l = true := by
  have := fend_good (pre := []) (post := []) h
  simp only [List.nil_append, List.append_nil, List.length_nil, Nat.zero_add] at this
  exact decide_eq_true this
/-- the parts of a text that was made of drawn descriptors -/
theorem parts_good {ps : List (List Nat)} {last : List Nat} (hp : ∀ p ∈ ps, GoodD p) (hl : last = [86] ∨ GoodD last) : partsL (40 :: (ps.flatten ++ 41 :: last)) = if placesL ps > 254 then none else some (ps ++ [last]) := by
  have hf := flat_ge hp
  have e := loop_good ps [40] last [] ((40 :: (ps.flatten ++ 41 :: last)).length + 1) hp (by simp only [List.length_cons, List.length_append]; omega)
  have e1 : partsL (40 :: (ps.flatten ++ 41 :: last)) = finL (40 :: (ps.flatten ++ 41 :: last)) (loopP (40 :: (ps.flatten ++ 41 :: last)) ((40 :: (ps.flatten ++ 41 :: last)).length + 1) 1 []) := if_pos rfl
  have e2 : loopP (40 :: (ps.flatten ++ 41 :: last)) ((40 :: (ps.flatten ++ 41 :: last)).length + 1) 1 [] = some (ps, 1 + ps.flatten.length) := e
  rw [e1, e2]
  have ed : (40 :: (ps.flatten ++ 41 :: last)).drop (1 + ps.flatten.length + 1) = last := by
    rw [show 1 + ps.flatten.length + 1 = (ps.flatten.length + 1) + 1 by omega, List.drop_succ_cons]
    have : ps.flatten ++ 41 :: last = (ps.flatten ++ [41]) ++ last := by simp
    rw [this, List.drop_left' (by simp)]
  by_cases c : placesL ps > 254
  · rw [if_pos c, finL_no (.inl c)]
  · rw [if_neg c, finL_ok (by
      rw [ed]
      intro h
      rcases h with h | ⟨h1, h2⟩
      · exact c h
      · rcases hl with h | h
        · exact h1 h
        · rw [field_good h] at h2
          cases h2), ed]
end N1

namespace N1
open PySem PySem.Spec PyProof.Rows L2 Evl
open SX (S)
section
variable {K : PySem.W.Frag} {σ : L2.St} {H H' : Hp} {ta tb tc te : TE} {t : TA} {r : R2} {v : V} {D : Ends} {Q : VK} {tt : TT}
theorem rd_evL {xs : List V} (h : EvL te σ H xs) (k : ∀ p H1, H p = none → Ex H H1 → H1 p = some (.lst xs) → Q (.ref p) H1) : te σ H Q := h H (Ex.refl H) Q k
theorem rd_tup (h : t σ H fun xs H1 => xs.length ≤ sizeLine ∧ ∀ p, H1 p = none → Q (.ref p) (upd H1 p (.tup xs))) : tTup t σ H Q := h
theorem rd_if {b : Bool} (h : EvT tt σ H b) (h1 : b = true → ∀ H1, Ex H H1 → ta σ H1 Q) (h2 : b = false → ∀ H1, Ex H H1 → tb σ H1 Q) : tIf tt ta tb σ H Q := h H (Ex.refl H) _ fun H1 e => by
  cases b with
  | true => exact h1 rfl H1 e
  | false => exact h2 rfl H1 e
theorem rv_rep {l : List Nat} {k : Nat} {z : Str} (e : z = S l) (hk : k ≤ 1000) (hl : l.length ≤ 100) : RV rRepS (.str z) (.int (k : Int)) H (.str (S (List.replicate k l).flatten)) := fun H1 _ Q q => ⟨l, k, by rw [e], rfl, hk, hl, q H1 (Ex.refl H1)⟩
theorem el_rep {xs : List V} {k : Nat} (h : EvL ta σ H xs) (hb : Ev tb σ H (.int (k : Int))) (hk : k ≤ 1000) (hx : xs.length ≤ 100) : EvL (tOp rRep ta tb) σ H (List.replicate k xs).flatten := fun H1 e Q q =>
  h H1 e _ fun p H2 hp e2 h2 => hb H2 (e.trans e2) _ fun H3 e3 => ⟨p, (k : Int), xs, rfl, rfl, e3 _ _ h2, by omega, by omega, by
    have hm : xs.length * k ≤ 100 * 1000 := Nat.mul_le_mul hx hk
    rw [Int.toNat_natCast]
    exact sz_of (by omega), fun p2 hp2 => q p2 _ (fresh_back (e2.trans e3) hp2) ((e2.trans e3).trans (Ex.new hp2)) upd_same⟩
theorem el_cat {xs ys : List V} (h : EvL ta σ H xs) (hb : EvL tb σ H ys) (hx : xs.length + ys.length ≤ 100000) : EvL (tOp rCat ta tb) σ H (xs ++ ys) := fun H1 e Q q =>
  h H1 e _ fun p H2 hp e2 h2 => hb H2 (e.trans e2) _ fun p3 H3 hp3 e3 h3 => ⟨p, p3, xs, ys, rfl, rfl, e3 _ _ h2, h3, sz_of hx, fun p2 hp2 => q p2 _ (fresh_back (e2.trans e3) hp2) ((e2.trans e3).trans (Ex.new hp2)) upd_same⟩
end
/-- what a told pair is to be: none, or a tuple of a list and a text, apart from the well -/
def DueAt (a : Addr) (H : Hp) (v : V) (o : Option (List (List Nat) × List Nat)) : Prop := (v = .non ∧ o = none) ∨ ∃ (t q : Addr) (acc : List (List Nat)) (last : List Nat), v = .ref t ∧ o = some (acc, last) ∧ t ≠ a ∧ q ≠ a ∧ H t = some (.tup [.ref q, N1.vs last]) ∧ H q = some (.lst (acc.map N1.vs))
theorem DueAt.exa {a : Addr} {H H' : Hp} {v : V} {o : Option (List (List Nat) × List Nat)} (h : DueAt a H v o) (x : Exa a H H') : DueAt a H' v o := by
  rcases h with h | ⟨t, q, acc, last, e1, e2, n1, n2, h1, h2⟩
  · exact .inl h
  · exact .inr ⟨t, q, acc, last, e1, e2, n1, n2, x _ _ n1 h1, x _ _ n2 h2⟩
theorem DueAt.dp {K : PySem.W.Frag} {a : Addr} {H : Hp} {v : V} {o : Option (List (List Nat) × List Nat)} (h : DueAt a H v o) : Dp K H v (dataO o) := by
  rcases h with ⟨rfl, rfl⟩ | ⟨t, q, acc, last, rfl, rfl, n1, n2, h1, h2⟩
  · exact .non
  · exact dp_pair h1 h2
theorem places_rep (m s : Nat) (p q : List Nat) : placesL (List.replicate m p ++ List.replicate s q) = (m : Int) * (if p = [74] then 2 else 1) + (s : Int) * (if q = [74] then 2 else 1) := by
  unfold placesL
  rw [List.map_append, List.map_replicate, List.map_replicate, List.sum_append, List.sum_replicate_int, List.sum_replicate_int]
theorem pair_parts {o : Option (List (List Nat))} {c : Prop} [Decidable c] {ps : List (List Nat)} {last : List Nat} (e : o = if c then none else some (ps ++ [last])) : pairOf o = if c then none else some (ps, last) := by
  subst e
  by_cases h : c
  · rw [if_pos h, if_pos h]; rfl
  · rw [if_neg h, if_neg h, pair_snoc]
theorem flat_rep (m : Nat) (l : List (List Nat)) : ((List.replicate m l).flatten).flatten = (List.replicate m l.flatten).flatten := by
  induction m with
  | zero => rfl
  | succ m ih => rw [List.replicate_succ, List.replicate_succ, List.flatten_cons, List.flatten_cons, List.flatten_append, ih]
def spMany : Sp := fun vs H Q _ => ∃ (a : Addr) (n : Nat), vs = [.ref a] ∧ WellAt H a n ∧ n ≤ 800000 ∧ ∀ H', Exa a H H' → WellAt H' a (n + 3) → Q (.bl true) H'
section
variable {P : Program} {w : World} {K : PySem.W.Frag} {mg : Str → Option Value} {base : Heap} {C : Addr}
theorem ok_lawChanged {f : Addr} {fd : FuncData} (F : FnP K "_law_changed" sLawChanged f fd) (B : Bt mg) (c_law_draw : Cl P w K mg base L2.CX0 1 "_law_draw" ["well", "many"] spDraw) (c_law_one : Cl P w K mg base L2.CX0 2 "_law_one" ["well", "some"] spOne) :
    FnOk P w K mg base L2.CX0 3 f fd ["well", "text"] spChanged := by
  refine F.ok scLawChanged (fun vs H Q E h => ?_) (fun cdv A outer s H vs Q E hr h => ?_)
  · obtain ⟨a, l, n, rfl, _⟩ := h
    rfl
  · obtain ⟨a, l, n, rfl, hA, hl, hw, hn, q⟩ := h
    refine ⟨_, PSs.nox (pss_cons (ps_set (i := 2) scLawChanged.nd rfl (.inl rfl) (pe_cl c_law_draw hr (by decide) (by rfl) (pa_cons (pv 0) (pa_cons (pe_op op_add (pe_callB call_len_str (by rfl) B.len PySem.boot_len (pa_cons (pv 1) pa_nil)) pe_int) pa_nil))))
      (pss_cons (ps_set (i := 3) scLawChanged.nd rfl (.inl rfl) (pe_cl c_law_one hr (by decide) (by rfl) (pa_cons (pv 0) (pa_cons (pe_lst (pa_cons pe_str (pa_cons pe_str (pa_cons pe_str (pa_cons pe_str (pa_cons pe_str (pa_cons pe_str (pa_cons pe_str (pa_cons pe_str (pa_cons pe_str (pa_cons pe_str (pa_cons pe_str (pa_cons pe_str (pa_cons pe_str (pa_cons pe_str pa_nil))))))))))))))) pa_nil))))
      (pss_cons (ps_set (i := 4) scLawChanged.nd rfl (.inl rfl) (pe_cl c_law_draw hr (by decide) (by rfl) (pa_cons (pv 0) (pa_cons pe_int pa_nil))))
      (pss_cons (ps_if (pt_cmpR op_eq (pv 4) pe_int (nomark _)) (pss_one (ps_ret (pe_op op_add_str (pe_slice sl_str (pv 1) po_none (po_some (pv 2))) (pe_slice sl_str (pv 1) (po_some (pe_op op_add (pv 2) pe_int)) po_none)))) pss_nil)
      (pss_cons (ps_if (pt_cmpR op_eq (pv 4) pe_int (nomark _)) (pss_one (ps_ret (pe_op op_add_str (pe_op op_add_str (pe_slice sl_str (pv 1) po_none (po_some (pv 2))) (pv 3)) (pe_slice sl_str (pv 1) (po_some (pv 2)) po_none)))) pss_nil)
      (pss_one (ps_ret (pe_ifExp (pt_cmpR op_eq (pv 4) pe_int (nomark _)) (pe_op op_add_str (pe_op op_add_str (pe_slice sl_str (pv 1) po_none (po_some (pv 2))) (pv 3)) (pe_slice sl_str (pv 1) (po_some (pe_op op_add (pv 2) pe_int)) po_none)) (pe_op op_add_str (pe_op op_add_str (pe_slice sl_str (pv 1) po_none (po_some (pv 2))) (pe_op op_repS (pe_slice sl_str (pv 1) (po_some (pv 2)) (po_some (pe_op op_add (pv 2) pe_int))) pe_int)) (pe_slice sl_str (pv 1) (po_some (pe_op op_add (pv 2) pe_int)) po_none)))))))))), ?_⟩
    refine q_asgAny (dr_draw (a := a) (m := (l.length : Int) + 1) (n := n) (ev_var rfl) (ev_op (ev_lenS (ev_var rfl) (by omega)) ev_c rv_I0) (by omega) (by omega) hw (by omega) fun d H1 d0 d1 xa1 hw1 => ?_)
    obtain ⟨i, rfl⟩ : ∃ i : Nat, d = (i : Int) := ⟨d.toNat, by omega⟩
    have hi : i ≤ l.length := by omega
    refine q_asgAny (rd_call (rd_cons (rd_ev (ev_var rfl) fun H2 x2 => rd_cons (rd_evL (el_lst (ea_cons ev_c (ea_cons ev_c (ea_cons ev_c (ea_cons ev_c (ea_cons ev_c (ea_cons ev_c (ea_cons ev_c (ea_cons ev_c (ea_cons ev_c (ea_cons ev_c (ea_cons ev_c (ea_cons ev_c (ea_cons ev_c (ea_cons ev_c ea_nil)))))))))))))) (by decide)) fun p H3 hp x3 h3 => ?_))))
    have hpa : p ≠ a := by
      obtain ⟨y, c, h1, _⟩ := hw1.ex x2
      exact fun e => by rw [e, h1] at hp; cases hp
    refine ⟨a, p, _, n + 1, rfl, h3, hpa, by simp, by decide, (hw1.ex x2).ex x3, by omega, fun sg H4 hsg xa4 hw4 => ?_⟩
    have hs : ∃ c, c < 128 ∧ sg = .str (S [c]) := by
      have key : ∀ v ∈ [V.str "[", V.str "(", V.str ")", V.str ";", V.str "L", V.str "/", V.str "I", V.str "V", V.str " ", V.str "J", V.str "a", V.str "D", V.str "-", V.str "\n"], ∃ c, c ∈ [91, 40, 41, 59, 76, 47, 73, 86, 32, 74, 97, 68, 45, 10] ∧ v = .str (S [c]) := by
        have e : [V.str "[", V.str "(", V.str ")", V.str ";", V.str "L", V.str "/", V.str "I", V.str "V", V.str " ", V.str "J", V.str "a", V.str "D", V.str "-", V.str "\n"] = [91, 40, 41, 59, 76, 47, 73, 86, 32, 74, 97, 68, 45, 10].map fun c => V.str (S [c]) := by decide +kernel
        rw [e]
        intro v hv
        obtain ⟨c, hc, rfl⟩ := List.mem_map.mp hv
        exact ⟨c, hc, rfl⟩
      obtain ⟨c, hc, e⟩ := key sg hsg
      have key2 : ∀ c ∈ [91, 40, 41, 59, 76, 47, 73, 86, 32, 74, 97, 68, 45, 10], c < 128 := by decide
      exact ⟨c, key2 c hc, e⟩
    obtain ⟨c, hc, rfl⟩ := hs
    have hcA : Asc [c] := fun x hx => by rw [List.mem_singleton.mp hx]; exact hc
    refine q_asgAny (dr_draw (a := a) (m := 4) (n := n + 1 + 1) (ev_var rfl) ev_c (by decide) (by decide) hw4 (by omega) fun way H5 w0 w1 xa5 hw5 => ?_)
    have xa : Exa a H H5 := ((xa1.trans (Exa.of (x2.trans x3))).trans xa4).trans xa5
    have hto : ∀ H9, Ev (tSl rSlS (tVar 1) tNoPart (tPart (tVar 2))) [some (.ref a), some (N1.vs l), some (.int (i : Int)), some (N1.vs [c]), some (.int way)] H9 (.str (S (l.take i))) := fun H9 => ev_slS (lo := none) (hi := some (i : Int)) (ev_var rfl) eo_none (eo_some (ev_var rfl)) (by omega) (cut_to l i)
    have hfrom1 : ∀ H9, Ev (tSl rSlS (tVar 1) (tPart (tOp (rI0 fun i j => V.int (i + j)) (tVar 2) (tC (.int 1)))) tNoPart) [some (.ref a), some (N1.vs l), some (.int (i : Int)), some (N1.vs [c]), some (.int way)] H9 (.str (S (l.drop (i + 1)))) := fun H9 => ev_slS (lo := some ((i + 1 : Nat) : Int)) (hi := none) (ev_var rfl) (eo_some (ev_op (ev_var rfl) ev_c rv_I0)) eo_none (by omega) (cut_from l (i + 1))
    have hfrom : ∀ H9, Ev (tSl rSlS (tVar 1) (tPart (tVar 2)) tNoPart) [some (.ref a), some (N1.vs l), some (.int (i : Int)), some (N1.vs [c]), some (.int way)] H9 (.str (S (l.drop i))) := fun H9 => ev_slS (lo := some (i : Int)) (hi := none) (ev_var rfl) (eo_some (ev_var rfl)) eo_none (by omega) (cut_from l i)
    have hone : ∀ H9, Ev (tSl rSlS (tVar 1) (tPart (tVar 2)) (tPart (tOp (rI0 fun i j => V.int (i + j)) (tVar 2) (tC (.int 1))))) [some (.ref a), some (N1.vs l), some (.int (i : Int)), some (N1.vs [c]), some (.int way)] H9 (.str (S (sub l i (i + 1)))) := fun H9 => ev_slS (lo := some (i : Int)) (hi := some ((i + 1 : Nat) : Int)) (ev_var rfl) (eo_some (ev_var rfl)) (eo_some (ev_op (ev_var rfl) ev_c rv_I0)) (by omega) (cut_nat l i (i + 1))
    have l1 : (l.take i).length ≤ i := by rw [List.length_take]; omega
    have l2 : (l.drop (i + 1)).length = l.length - (i + 1) := List.length_drop
    have l3 : (l.drop i).length = l.length - i := List.length_drop
    have l4 : (sub l i (i + 1)).length ≤ 1 ∧ (sub l i (i + 1)).length ≤ l.length - i := by
      unfold sub
      rw [List.length_take, List.length_drop]
      omega
    refine q_when (b := decide (way = 0)) (et_test (ev_op (ev_var rfl) ev_c rv_eqI)) (fun e H6 x6 => ?_) (fun e H6 x6 => ?_)
    · exact s_ret (ev_op (hto H6) (hfrom1 H6) (rv_addS rfl rfl (by omega))) fun H7 x7 => q _ H7 ((hA.take i).app (hA.drop _)) (by rw [List.length_append]; omega) (xa.trans (Exa.of (x6.trans x7))) (hw5.ex (x6.trans x7))
    refine q_when (b := decide (way = 1)) (et_test (ev_op (ev_var rfl) ev_c rv_eqI)) (fun e H7 x7 => ?_) (fun e H7 x7 => ?_)
    · exact s_ret (ev_op (ev_op (hto H7) (ev_var rfl) (rv_addS rfl rfl (by simp; omega))) (hfrom H7) (rv_addS rfl rfl (by simp; omega))) fun H8 x8 => q _ H8 (((hA.take i).app hcA).app (hA.drop _)) (by rw [List.length_append, List.length_append]; simp; omega) (xa.trans (Exa.of ((x6.trans x7).trans x8))) (hw5.ex ((x6.trans x7).trans x8))
    refine rd_ret (rd_if (b := decide (way = 2)) (et_test (ev_op (ev_var rfl) ev_c rv_eqI)) (fun e H8 x8 => ?_) (fun e H8 x8 => ?_))
    · exact rd_ev (ev_op (ev_op (hto H8) (ev_var rfl) (rv_addS rfl rfl (by simp; omega))) (hfrom1 H8) (rv_addS rfl rfl (by simp; omega))) fun H9 x9 => q _ H9 (((hA.take i).app hcA).app (hA.drop _)) (by rw [List.length_append, List.length_append]; simp; omega) (xa.trans (Exa.of (((x6.trans x7).trans x8).trans x9))) (hw5.ex (((x6.trans x7).trans x8).trans x9))
    · have er : (List.replicate 2 (sub l i (i + 1))).flatten = sub l i (i + 1) ++ sub l i (i + 1) := by simp [List.replicate]
      exact rd_ev (ev_op (ev_op (hto H8) (ev_op (hone H8) ev_c (rv_rep (k := 2) rfl (by decide) (by omega))) (rv_addS rfl rfl (by rw [er, List.length_append]; omega))) (hfrom1 H8) (rv_addS rfl rfl (by rw [er, List.length_append, List.length_append]; omega))) fun H9 x9 => q _ H9 (((hA.take i).app (by rw [er]; exact (hA.sub _ _).app (hA.sub _ _))).app (hA.drop _)) (by rw [er, List.length_append, List.length_append, List.length_append]; omega) (xa.trans (Exa.of (((x6.trans x7).trans x8).trans x9))) (hw5.ex (((x6.trans x7).trans x8).trans x9))
end
end N1

namespace N1
open PySem PySem.Spec PyProof.Rows L2 Evl
open SX (S)
theorem good1 {c : Nat} (h : c ∈ letters) : GoodD [c] := ⟨0, [c], by decide, .inl ⟨c, h, rfl⟩, rfl⟩
theorem good_ai : GoodD [91, 73] := ⟨1, [73], by decide, .inl ⟨73, by decide, rfl⟩, rfl⟩
theorem flat_one (m c : Nat) : (List.replicate m [c]).flatten = List.replicate m c := by simp
def psM (m s : Nat) : List (List Nat) := List.replicate m [74] ++ List.replicate s [73]
def psO (s : Nat) : List (List Nat) := List.replicate 3 [91, 73] ++ List.replicate s [66]
theorem psM_good (m s : Nat) : ∀ p ∈ psM m s, GoodD p := fun p hp => by
  rcases List.mem_append.mp hp with h | h
  · rw [(List.mem_replicate.mp h).2]
    exact good1 (by decide)
  · rw [(List.mem_replicate.mp h).2]
    exact good1 (by decide)
theorem psO_good (s : Nat) : ∀ p ∈ psO s, GoodD p := fun p hp => by
  rcases List.mem_append.mp hp with h | h
  · rw [(List.mem_replicate.mp h).2]
    exact good_ai
  · rw [(List.mem_replicate.mp h).2]
    exact good1 (by decide)
theorem psM_places (m s : Nat) : placesL (psM m s) = 2 * (m : Int) + s := by
  unfold psM
  rw [places_rep, if_pos rfl, if_neg (by decide)]
  omega
theorem psO_places (s : Nat) : placesL (psO s) = 3 + (s : Int) := by
  unfold psO
  rw [places_rep, if_neg (by decide), if_neg (by decide)]
  omega
def dueM (m s : Nat) : Option (List (List Nat) × List Nat) := if 2 * m + s ≤ 254 then some (psM m s, [86]) else none
def dueO (s : Nat) : Option (List (List Nat) × List Nat) := if s + 3 ≤ 254 then some (psO s, [74]) else none
theorem told_M (m s : Nat) : pairOf (partsL (40 :: ((psM m s).flatten ++ 41 :: [86]))) = dueM m s := by
  rw [pair_parts (parts_good (psM_good m s) (.inl rfl)), psM_places]
  unfold dueM
  by_cases h : 2 * m + s ≤ 254
  · rw [if_pos h, if_neg (by omega)]
  · rw [if_neg h, if_pos (by omega)]
theorem told_O (s : Nat) : pairOf (partsL (40 :: ((psO s).flatten ++ 41 :: [74]))) = dueO s := by
  rw [pair_parts (parts_good (psO_good s) (.inr (good1 (by decide)))), psO_places]
  unfold dueO
  by_cases h : s + 3 ≤ 254
  · rw [if_pos h, if_neg (by omega)]
  · rw [if_neg h, if_pos (by omega)]
theorem asc_flat {ps : List (List Nat)} (h : ∀ p ∈ ps, Asc p) : Asc ps.flatten := fun c hc => by
  obtain ⟨l, hl, hcl⟩ := List.mem_flatten.mp hc
  exact h l hl c hcl
theorem asc_text {ps : List (List Nat)} {last : List Nat} (h : ∀ p ∈ ps, Asc p) (hl : Asc last) : Asc (40 :: (ps.flatten ++ 41 :: last)) := fun c hc => by
  rcases List.mem_cons.mp hc with e | e
  · rw [e]; decide
  · rcases List.mem_append.mp e with e | e
    · exact asc_flat h c e
    · rcases List.mem_cons.mp e with e | e
      · rw [e]; decide
      · exact hl c e
theorem asc1 {c : Nat} (h : c < 128) : Asc [c] := fun x hx => by rw [List.mem_singleton.mp hx]; exact h
theorem dueM_asc (m s : Nat) : AscO (dueM m s) := fun ps last e => by
  unfold dueM at e
  split at e
  · cases e
    exact ⟨fun l hl => (psM_good m s l hl).asc.1, asc1 (by decide)⟩
  · cases e
theorem dueO_asc (s : Nat) : AscO (dueO s) := fun ps last e => by
  unfold dueO at e
  split at e
  · cases e
    exact ⟨fun l hl => (psO_good s l hl).asc.1, asc1 (by decide)⟩
  · cases e
theorem eq_due {b : Bool} {A B : Prop} (h : b = true) (k : A) : if b = true then A else B := by
  rw [if_pos h]
  exact k
section
variable {P : Program} {w : World} {K : PySem.W.Frag} {mg : Str → Option Value} {base : Heap} {C : Addr}
theorem well_ne {a p : Addr} {n : Nat} {H : Hp} (hw : WellAt H a n) (h : H p = none) : p ≠ a := by
  obtain ⟨y, c, h1, _⟩ := hw
  exact fun e => by rw [e, h1] at h; cases h
theorem dr_due {σ : L2.St} {H : Hp} {tk1 tk2 : TE} {tt : TT} {b : Bool} {z1 z2 z3 : Str} {p1 p2 last : List Nat} {k1 k2 n : Nat} {a : Addr} {Q : VK} (hb : EvT tt σ H b) (e1 : z1 = S p1) (e2 : z2 = S p2) (e3 : z3 = S last) (h1 : Ev tk1 σ H (.int (k1 : Int))) (h2 : Ev tk2 σ H (.int (k2 : Int)))
    (l1 : k1 ≤ 1000) (l2 : k2 ≤ 1000) (hw : WellAt H a n) (k : ∀ v H4, Ex H H4 → DueAt a H4 v (if b = true then some (List.replicate k1 p1 ++ List.replicate k2 p2, last) else none) → Q v H4) :
    tIf tt (tTup (tCons (tOp rCat (tOp rRep (tLst (tCons (tC (.str z1)) tNil)) tk1) (tOp rRep (tLst (tCons (tC (.str z2)) tNil)) tk2)) (tCons (tC (.str z3)) tNil))) (tC .non) σ H Q := by
  subst e1 e2 e3
  refine rd_if hb (fun e H1 x1 => ?_) (fun e H1 x1 => ?_)
  · subst e
    have hc : EvL (tOp rCat (tOp rRep (tLst (tCons (tC (.str (S p1))) tNil)) tk1) (tOp rRep (tLst (tCons (tC (.str (S p2))) tNil)) tk2)) σ H1 ((List.replicate k1 p1 ++ List.replicate k2 p2).map N1.vs) := by
      have e : (List.replicate k1 p1 ++ List.replicate k2 p2).map N1.vs = (List.replicate k1 [V.str (S p1)]).flatten ++ (List.replicate k2 [V.str (S p2)]).flatten := by simp
      rw [e]
      exact el_cat (el_rep (el_lst (ea_cons ev_c ea_nil) (by show 1 ≤ 100000; decide)) (h1.mono x1) l1 (by show 1 ≤ 100; decide)) (el_rep (el_lst (ea_cons ev_c ea_nil) (by show 1 ≤ 100000; decide)) (h2.mono x1) l2 (by show 1 ≤ 100; decide)) (by simp; omega)
    refine rd_tup (rd_cons (rd_evL hc fun q H2 hq x2 hl => rd_cons (rd_c ⟨by show 2 ≤ sizeLine; decide, fun t ht => ?_⟩)))
    have w1 := hw.ex x1
    refine k _ _ ((x1.trans x2).trans (Ex.new ht)) (.inr ⟨t, q, _, last, rfl, rfl, well_ne (w1.ex x2) ht, well_ne w1 hq, upd_same, ?_⟩)
    rw [upd_ne (ne_of_none hl ht)]
    exact hl
  · subst e
    exact k _ _ x1 (.inl ⟨rfl, rfl⟩)
theorem rd_and {σ : L2.St} {H : Hp} {ta tb : TE} {Q : VK} (h : ta σ H fun x H1 => ∃ c, x = .bl c ∧ if c = true then tb σ H1 Q else Q (.bl false) H1) : tAndV ta tb σ H Q := h
theorem ok_lawMany {f : Addr} {fd : FuncData} (F : FnP K "_law_many_right" sLawManyRight f fd) (B : Bt mg) (c_law_draw : Cl P w K mg base L2.CX0 1 "_law_draw" ["well", "many"] spDraw) (c_law_told : Cl P w K mg base L2.CX0 8 "_law_told" ["text"] (spPair K)) :
    FnOk P w K mg base L2.CX0 9 f fd ["well"] spMany := by
  refine F.ok scLawManyRight (fun vs H Q E h => ?_) (fun cdv A outer s H vs Q E hr h => ?_)
  · obtain ⟨a, n, rfl, _⟩ := h
    rfl
  · obtain ⟨a, n, rfl, hw, hn, q⟩ := h
    refine ⟨_, PSs.nox (pss_cons (ps_set (i := 1) scLawManyRight.nd rfl (.inl rfl) (pe_op op_add pe_int (pe_cl c_law_draw hr (by decide) (by rfl) (pa_cons (pv 0) (pa_cons pe_int pa_nil)))))
      (pss_cons (ps_set (i := 2) scLawManyRight.nd rfl (.inl rfl) (pe_cl c_law_draw hr (by decide) (by rfl) (pa_cons (pv 0) (pa_cons pe_int pa_nil))))
      (pss_cons (ps_set (i := 3) scLawManyRight.nd rfl (.inl rfl) (pe_op op_add_str (pe_op op_add_str (pe_op op_add_str pe_str (pe_op op_repS pe_str (pv 1))) (pe_op op_repS pe_str (pv 2))) pe_str))
      (pss_cons (ps_set (i := 4) scLawManyRight.nd rfl (.inl rfl) (pe_ifExp (pt_cmpR op_le (pe_op op_add (pe_op op_mulW pe_int (pv 1)) (pv 2)) pe_int (nomark _)) (pe_tup (pa_cons (pe_op op_cat (pe_op op_rep (pe_lst (pa_cons pe_str pa_nil)) (pv 1)) (pe_op op_rep (pe_lst (pa_cons pe_str pa_nil)) (pv 2))) (pa_cons pe_str pa_nil))) pe_non))
      (pss_cons (ps_set (i := 5) scLawManyRight.nd rfl (.inl rfl) (pe_op op_add pe_int (pe_cl c_law_draw hr (by decide) (by rfl) (pa_cons (pv 0) (pa_cons pe_int pa_nil)))))
      (pss_cons (ps_set (i := 6) scLawManyRight.nd rfl (.inl rfl) (pe_op op_add_str (pe_op op_add_str (pe_op op_add_str pe_str (pe_op op_repS pe_str pe_int)) (pe_op op_repS pe_str (pv 5))) pe_str))
      (pss_cons (ps_set (i := 7) scLawManyRight.nd rfl (.inl rfl) (pe_ifExp (pt_cmpR op_le (pe_op op_add (pv 5) pe_int) pe_int (nomark _)) (pe_tup (pa_cons (pe_op op_cat (pe_op op_rep (pe_lst (pa_cons pe_str pa_nil)) pe_int) (pe_op op_rep (pe_lst (pa_cons pe_str pa_nil)) (pv 5))) (pa_cons pe_str pa_nil))) pe_non))
      (pss_one (ps_ret (pe_and (pe_cmpR (op_eqD hr.units) (pe_cl c_law_told hr (by decide) (by rfl) (pa_cons (pv 3) pa_nil)) (pv 4) (nomark _)) (pe_one (pe_cmpR (op_eqD hr.units) (pe_cl c_law_told hr (by decide) (by rfl) (pa_cons (pv 6) pa_nil)) (pv 7) (nomark _))))))))))))), ?_⟩
    refine q_asgAny (rd_op (rd_c (dr_draw (a := a) (m := 4) (n := n) (ev_var rfl) ev_c (by decide) (by decide) hw (by omega) fun d H1 d0 d1 xa1 hw1 => ⟨125, d, rfl, rfl, ?_⟩)))
    obtain ⟨m, hm, em⟩ : ∃ m : Nat, m ≤ 130 ∧ (125 : Int) + d = (m : Int) := ⟨(125 + d).toNat, by omega, by omega⟩
    show tSeq _ _ _ [some (.ref a), some (.int (125 + d)), none, none, none, none, none, none] H1
    rw [em]
    refine q_asgAny (dr_draw (a := a) (m := 5) (n := n + 1) (ev_var rfl) ev_c (by decide) (by decide) hw1 (by omega) fun d2 H2 e0 e1 xa2 hw2 => ?_)
    obtain ⟨sm, rfl⟩ : ∃ sm : Nat, d2 = (sm : Int) := ⟨d2.toNat, by omega⟩
    have es5 : sm ≤ 5 := by omega
    refine q_asg (v := .str (S (40 :: ((psM m sm).flatten ++ 41 :: [86])))) (ev_is (ev_op (ev_op (ev_op ev_c (ev_op ev_c (ev_var rfl) (rv_rep (l := [74]) (k := m) (by decide +kernel) (by omega) (by decide))) (rv_addS (a := [40]) (by decide +kernel) rfl (by rw [flat_one]; simp; omega))) (ev_op ev_c (ev_var rfl) (rv_rep (l := [73]) (k := sm) (by decide +kernel) (by omega) (by decide))) (rv_addS rfl rfl (by rw [flat_one, flat_one]; simp; omega))) ev_c (rv_addS (b := [41, 86]) rfl (by decide +kernel) (by rw [flat_one, flat_one]; simp; omega))) ?_) fun H3 x3 => ?_
    · unfold psM
      simp [List.flatten_append]
    refine q_asgAny (dr_due (a := a) (n := n + 1 + 1) (b := decide (2 * m + sm ≤ 254)) (p1 := [74]) (p2 := [73]) (last := [86]) (k1 := m) (k2 := sm) (et_test (ev_op (ev_op (ev_op ev_c (ev_var rfl) (rv_mulS (by decide) (by omega))) (ev_var rfl) rv_I0) ev_c (rv_is rv_I0 (bl_iff (by omega))))) (by decide +kernel) (by decide +kernel) (by decide +kernel) (ev_var rfl) (ev_var rfl) (by omega) (by omega) (hw2.ex x3) fun due H4 x4 hdue => ?_)
    have hdue2 : DueAt a H4 due (dueM m sm) := by
      have e : (if decide (2 * m + sm ≤ 254) = true then some (List.replicate m [74] ++ List.replicate sm [73], [86]) else none) = dueM m sm := by
        unfold dueM psM
        by_cases h : 2 * m + sm ≤ 254
        · rw [if_pos h, if_pos (decide_eq_true h)]
        · rw [if_neg h, if_neg (by rw [decide_eq_false h]; decide)]
      rw [← e]
      exact hdue
    clear hdue
    have hw4 : WellAt H4 a (n + 1 + 1) := (hw2.ex x3).ex x4
    refine q_asgAny (rd_op (rd_c (dr_draw (a := a) (m := 8) (n := n + 1 + 1) (ev_var rfl) ev_c (by decide) (by decide) hw4 (by omega) fun d5 H5 f0 f1 xa5 hw5 => ⟨250, d5, rfl, rfl, ?_⟩)))
    obtain ⟨sl, hsl, esl⟩ : ∃ sl : Nat, sl ≤ 260 ∧ (250 : Int) + d5 = (sl : Int) := ⟨(250 + d5).toNat, by omega, by omega⟩
    show tSeq _ _ _ [some (.ref a), some (.int (m : Int)), some (.int (sm : Int)), some (N1.vs (40 :: ((psM m sm).flatten ++ 41 :: [86]))), some due, some (.int (250 + d5)), none, none] H5
    rw [esl]
    refine q_asg (v := .str (S (40 :: ((psO sl).flatten ++ 41 :: [74])))) (ev_is (ev_op (ev_op (ev_op ev_c (ev_op ev_c ev_c (rv_rep (l := [91, 73]) (k := 3) (by decide +kernel) (by omega) (by decide))) (rv_addS (a := [40]) (by decide +kernel) rfl (by decide))) (ev_op ev_c (ev_var rfl) (rv_rep (l := [66]) (k := sl) (by decide +kernel) (by omega) (by decide))) (rv_addS rfl rfl (by rw [flat_one]; simp; omega))) ev_c (rv_addS (b := [41, 74]) rfl (by decide +kernel) (by rw [flat_one]; simp; omega))) ?_) fun H6 x6 => ?_
    · unfold psO
      simp [List.flatten_append, List.replicate]
    refine q_asgAny (dr_due (a := a) (n := n + 1 + 1 + 1) (b := decide (sl + 3 ≤ 254)) (p1 := [91, 73]) (p2 := [66]) (last := [74]) (k1 := 3) (k2 := sl) (et_test (ev_op (ev_op (ev_var rfl) ev_c rv_I0) ev_c (rv_is rv_I0 (bl_iff (by omega))))) (by decide +kernel) (by decide +kernel) (by decide +kernel) ev_c (ev_var rfl) (by omega) (by omega) (hw5.ex x6) fun wanted H7 x7 hdueO => ?_)
    have hdueO2 : DueAt a H7 wanted (dueO sl) := by
      have e : (if decide (sl + 3 ≤ 254) = true then some (List.replicate 3 [91, 73] ++ List.replicate sl [66], [74]) else none) = dueO sl := by
        unfold dueO psO
        by_cases h : sl + 3 ≤ 254
        · rw [if_pos h, if_pos (decide_eq_true h)]
        · rw [if_neg h, if_neg (by rw [decide_eq_false h]; decide)]
      rw [← e]
      exact hdueO
    clear hdueO
    have hdue7 : DueAt a H7 due (dueM m sm) := hdue2.exa (xa5.trans (Exa.of (x6.trans x7)))
    have hw7 : WellAt H7 a (n + 3) := ((hw5.ex x6).ex x7).le (by omega)
    have xa7 : Exa a H H7 := (((xa1.trans xa2).trans (Exa.of (x3.trans x4))).trans xa5).trans (Exa.of (x6.trans x7))
    have fM : (psM m sm).flatten.length ≤ 200 := by
      unfold psM
      rw [List.flatten_append, flat_one, flat_one]
      simp
      omega
    have fO : (psO sl).flatten.length ≤ 300 := by
      unfold psO
      rw [List.flatten_append, flat_one]
      simp [List.replicate]
      omega
    refine rd_ret (rd_and (rd_op (rd_call (rd_cons (rd_ev (ev_var rfl) fun H8 x8 => ?_)))))
    refine ⟨_, _, rfl, .inl ⟨_, rfl, by simp only [List.length_cons, List.length_append, List.length_nil]; omega, asc_text (fun p hp => (psM_good m sm p hp).asc.1) (asc1 (by decide)), rfl⟩, fun v1 H9 x9 hv1 => ⟨due, rfl, dataO (dueM m sm), dataO (dueM m sm), by rw [told_M] at hv1; exact hv1, (hdue7.exa (Exa.of (x8.trans x9))).dp, dataO_shaped (dueM_asc m sm), dataO_shaped (dueM_asc m sm), _, rfl, eq_due (by rw [dataO_eqv]; exact decide_eq_true rfl) ?_⟩⟩
    refine rd_op (rd_call (rd_cons (rd_ev (ev_var rfl) fun H10 x10 => ?_)))
    refine ⟨_, _, rfl, .inl ⟨_, rfl, by simp only [List.length_cons, List.length_append, List.length_nil]; omega, asc_text (fun p hp => (psO_good sl p hp).asc.1) (asc1 (by decide)), rfl⟩, fun v2 H11 x11 hv2 => ⟨wanted, rfl, dataO (dueO sl), dataO (dueO sl), by rw [told_O] at hv2; exact hv2, (hdueO2.exa (Exa.of ((x8.trans x9).trans (x10.trans x11)))).dp, dataO_shaped (dueO_asc sl), dataO_shaped (dueO_asc sl), ?_⟩⟩
    rw [show PyData.eqv (dataO (dueO sl)) (dataO (dueO sl)) = true by rw [dataO_eqv]; exact decide_eq_true rfl]
    exact q H11 (xa7.trans (Exa.of ((x8.trans x9).trans (x10.trans x11)))) (hw7.ex ((x8.trans x9).trans (x10.trans x11)))
end
end N1

namespace N1
open PySem PySem.Spec PyProof.Rows L2 Evl
open SX (S)
theorem loop_asc {l : List Nat} (hA : Asc l) : ∀ (n a : Nat) (acc acc' : List (List Nat)) (a' : Nat), loopP l n a acc = some (acc', a') → (∀ p ∈ acc, Asc p) → ∀ p ∈ acc', Asc p
  | 0, a, acc, acc', a', h, _ => by cases h
  | n + 1, a, acc, acc', a', h, hp => by
    by_cases c : a < l.length ∧ l.getD a 0 ≠ 41
    · have e1 : loopP l (n + 1) a acc = (match fend l a with
        | none => none
        | some e => loopP l n e (acc ++ [sub l a e])) := if_pos c
      rw [e1] at h
      cases ek : fend l a with
      | none => rw [ek] at h; cases h
      | some k =>
        rw [ek] at h
        refine loop_asc hA n k _ acc' a' h fun p hp' => ?_
        rcases List.mem_append.mp hp' with h2 | h2
        · exact hp p h2
        · rw [List.mem_singleton.mp h2]
          exact hA.sub _ _
    · have e1 : loopP l (n + 1) a acc = some (acc, a) := if_neg c
      rw [e1] at h
      cases h
      exact hp
theorem parts_asc {l : List Nat} (hA : Asc l) : AscO (pairOf (partsL l)) := by
  intro ps last e
  unfold partsL at e
  split at e
  · cases hR : loopP l (l.length + 1) 1 [] with
    | none =>
      rw [hR] at e
      cases e
    | some r =>
      obtain ⟨acc, a⟩ := r
      rw [hR] at e
      by_cases c : placesL acc > 254 ∨ (l.drop (a + 1) ≠ [86] ∧ isFieldL (l.drop (a + 1)) = false)
      · rw [finL_no c] at e
        cases e
      · rw [finL_ok c, pair_snoc] at e
        cases e
        exact ⟨loop_asc hA _ _ _ _ _ hR (fun p hp => by cases hp), hA.drop _⟩
  · cases e
section
variable {K : PySem.W.Frag}
mutual
theorem dp_ex {H H' : Hp} (e : Ex H H') : ∀ (d : PyData) (v : V), Dp K H v d → Dp K H' v d
  | .none, _, h => by cases h; exact .non
  | .bool b, _, h => by cases h; exact .bl b
  | .int i, _, h => by cases h; exact .int i
  | .str x, _, h => by cases h; exact .str x
  | .list ds, _, h => by
    cases h with
    | lst hs ha => exact .lst (ex_l e hs) (dp_exAll e ds _ ha)
  | .tuple ds, _, h => by
    cases h with
    | tup hs ha => exact .tup (ex_t e hs) (dp_exAll e ds _ ha)
  | .dict _, _, h => by cases h
theorem dp_exAll {H H' : Hp} (e : Ex H H') : ∀ (ds : List PyData) (vs : List V), DpAll K H vs ds → DpAll K H' vs ds
  | [], _, h => by cases h; exact .nil
  | d :: ds, _, h => by
    cases h with
    | cons h1 h2 => exact .cons (dp_ex e d _ h1) (dp_exAll e ds _ h2)
end
end
/-- an item of the law's lists: a text of small signs, or no text -/
def Itm (a : Addr) (H : Hp) (x : V) : Prop := (∃ l, x = .str (S l) ∧ Asc l ∧ l.length ≤ 2000) ∨ x = .non ∨ (∃ i, x = .int i) ∨ (∃ b, x = .bl b) ∨ ∃ p xs, x = .ref p ∧ p ≠ a ∧ (H p = some (.lst xs) ∨ H p = some (.tup xs))
theorem Itm.exa {a : Addr} {H H' : Hp} {x : V} (h : Itm a H x) (e : Exa a H H') : Itm a H' x := by
  rcases h with h | h | h | h | ⟨p, xs, h1, h2, h3⟩
  · exact .inl h
  · exact .inr (.inl h)
  · exact .inr (.inr (.inl h))
  · exact .inr (.inr (.inr (.inl h)))
  · refine .inr (.inr (.inr (.inr ⟨p, xs, h1, h2, ?_⟩)))
    rcases h3 with h3 | h3
    · exact .inl (e _ _ h2 h3)
    · exact .inr (e _ _ h2 h3)
theorem Itm.str {a : Addr} {H : Hp} {l : List Nat} (hA : Asc l) (hl : l.length ≤ 2000) : Itm a H (.str (S l)) := .inl ⟨l, rfl, hA, hl⟩
theorem Itm.case {K : PySem.W.Frag} {a : Addr} {H : Hp} {x : V} (h : Itm a H x) : (∃ l, x = .str (S l) ∧ Asc l ∧ l.length ≤ 2000) ∨ NoStr K H x := by
  rcases h with h | rfl | ⟨i, rfl⟩ | ⟨b, rfl⟩ | ⟨p, xs, rfl, _, h3⟩
  · exact .inl h
  · exact .inr ⟨"NoneType", .base .non, by decide +kernel⟩
  · exact .inr ⟨"int", .base (.int i), by decide +kernel⟩
  · exact .inr ⟨"bool", .base (.bl b), by decide +kernel⟩
  · rcases h3 with h3 | h3
    · exact .inr ⟨"list", .base (.lst h3), by decide +kernel⟩
    · exact .inr ⟨"tuple", .base (.tup h3), by decide +kernel⟩
theorem Itm.parts {K : PySem.W.Frag} {a : Addr} {H : Hp} {x : V} (h : Itm a H x) : ∃ o, PartsA K H x o ∧ AscO (pairOf o) := by
  rcases h.case (K := K) with ⟨l, rfl, hA, hl⟩ | h
  · exact ⟨_, .inl ⟨l, rfl, by omega, hA, rfl⟩, parts_asc hA⟩
  · exact ⟨none, .inr ⟨h, rfl⟩, fun ps last e => by cases e⟩
theorem Itm.tell {K : PySem.W.Frag} {a : Addr} {H : Hp} {x : V} (h : Itm a H x) (f : List Nat → Bool) : ∃ b, Told K H x f b ∧ TellA K H x f b := by
  rcases h.case (K := K) with ⟨l, rfl, hA, hl⟩ | h
  · exact ⟨f l, .inl ⟨l, rfl, by omega, rfl⟩, .inl ⟨l, rfl, by omega, hA, rfl⟩⟩
  · exact ⟨false, .inr ⟨h, rfl⟩, .inr ⟨h, rfl⟩⟩
theorem TellA.ex {K : PySem.W.Frag} {H H' : Hp} {x : V} {f : List Nat → Bool} {b : Bool} (e : Ex H H') (h : TellA K H x f b) : TellA K H' x f b := by
  rcases h with h | ⟨h, e2⟩
  · exact .inl h
  · exact .inr ⟨NoStr.ex e h, e2⟩
section
variable {K : PySem.W.Frag} {σ : L2.St} {H H' : Hp} {ta tb te tl : TE} {t : TA} {x : V} {D : Ends} {Q : VK} {tt : TT} {g : TG} {tu tz : TS}
theorem rd_for (h : tl σ H fun x H1 => tFor (iList K (tC x)) g tu D σ H1) : tFor (iList K tl) g tu D σ H := h
theorem rd_seq (h : tu { D with nx := tz D } σ H) : tSeq tu tz D σ H := h
theorem ev_join {z : Str} {ls : List (List Nat)} {p : Addr} (ez : z = S []) (hp : H p = some (.lst (ls.map N1.vs))) (h : Ev te σ H (.ref p)) (hl : ls.length ≤ 1000) (hb : ∀ l ∈ ls, l.length ≤ 1000) : Ev (tM1 (rJoin K) (tC (.str z)) te) σ H (.str (S ls.flatten)) := fun H1 e Q q =>
  ⟨⟨_, rfl⟩, h H1 e _ fun H2 e2 => dr_join (sep := []) ez (by decide) ((e.trans e2) _ _ hp) hl hb (by rw [joinL_nil]; exact q H2 e2)⟩
/-- both readers tell the same -/
theorem et_same {i : Nat} (hx : σ[i]? = some (some x)) {o : Option (List (List Nat))} (h : PartsA K H x o) (hA : AscO (pairOf o)) : EvT (tTest (tOp (rNeD K) (tCall (spPair K) [] L2.E0 (tCons (tVar i) tNil)) (tCall (spPair K) [] L2.E0 (tCons (tVar i) tNil)))) σ H false := fun H1 e Q q =>
  ⟨x, hx, x, o, rfl, h.ex e, fun v H2 e2 d1 => ⟨x, hx, x, o, rfl, (h.ex e).ex e2, fun v2 H3 e3 d2 => ⟨dataO (pairOf o), dataO (pairOf o), dp_ex e3 _ _ d1, d2, dataO_shaped hA, dataO_shaped hA, false, by rw [dataO_eqv, decide_eq_true rfl]; rfl, q H3 (e2.trans e3)⟩⟩⟩
theorem ev_told {f : List Nat → Bool} {b : Bool} {i : Nat} (hx : σ[i]? = some (some x)) (h : Told K H x f b) : Ev (tCall (spName K f) [] L2.E0 (tCons (tVar i) tNil)) σ H (.bl b) := ev_call (ea_cons (ev_var hx) ea_nil) fun H1 e Q q E => ⟨x, b, rfl, h.ex e, q⟩
theorem ev_tell {f : List Nat → Bool} {b : Bool} {i : Nat} (hx : σ[i]? = some (some x)) (h : TellA K H x f b) : Ev (tCall (spNameA K f) [] L2.E0 (tCons (tVar i) tNil)) σ H (.bl b) := ev_call (ea_cons (ev_var hx) ea_nil) fun H1 e Q q E => ⟨x, b, rfl, h.ex e, q⟩
theorem ev_neB {b : Bool} (h1 : Ev ta σ H (.bl b)) (h2 : Ev tb σ H (.bl b)) : Ev (tOp rNe ta tb) σ H (.bl false) := ev_op h1 h2 (rv_is (rv_ne (by cases b <;> rfl)) (by rw [decide_eq_true rfl]; rfl))
end
def litOk (z : Str) : Bool := z.cps.toList.all (fun c => decide (c < 128)) && decide (z.cps.toList.length ≤ 2000)
theorem Itm.lit {a : Addr} {H : Hp} {z : Str} (h : litOk z = true) : Itm a H (.str z) := by
  obtain ⟨h1, h2⟩ := Bool.and_eq_true_iff.mp h
  refine .inl ⟨z.cps.toList, by rw [SX.S_tl], fun c hc => ?_, of_decide_eq_true h2⟩
  exact of_decide_eq_true (List.all_eq_true.mp h1 c hc)
theorem fa_nil {α : Type} {p : α → Prop} : ∀ y ∈ ([] : List α), p y := fun y hy => by cases hy
theorem fa_cons {α : Type} {p : α → Prop} {x : α} {r : List α} (h : p x) (t : ∀ y ∈ r, p y) : ∀ y ∈ x :: r, p y := fun y hy => by
  rcases List.mem_cons.mp hy with e | e
  · rw [e]; exact h
  · exact t y e
theorem fa_app {α : Type} {p : α → Prop} {x r : List α} (h : ∀ y ∈ x, p y) (t : ∀ y ∈ r, p y) : ∀ y ∈ x ++ r, p y := fun y hy => by
  rcases List.mem_append.mp hy with e | e
  · exact h y e
  · exact t y e
section
variable {σ : L2.St} {H H' : Hp} {ta tb te tl : TE} {D : Ends} {tu tz : TS}
theorem el_catV {xs ys : List V} {l : Addr} (h : Ev ta σ H (.ref l)) (hl : H l = some (.lst xs)) (hb : EvL tb σ H ys) (hx : xs.length + ys.length ≤ 100000) : EvL (tOp rCat ta tb) σ H (xs ++ ys) := fun H1 e Q q =>
  h H1 e _ fun H2 e2 => hb H2 (e.trans e2) _ fun p3 H3 hp3 e3 h3 => ⟨l, p3, xs, ys, rfl, rfl, e3 _ _ (e2 _ _ (e _ _ hl)), h3, sz_of hx, fun p2 hp2 => q p2 _ (fresh_back (e2.trans e3) hp2) ((e2.trans e3).trans (Ex.new hp2)) upd_same⟩
theorem rd_ifNot (h : te σ H fun x H1 => ∃ c, x = .bl c ∧ if (!c) = true then tu { D with nx := tz D } σ H1 else tz D σ H1) : tSeq (tIfS (tNot (tB te)) tu tNext) tz D σ H := h
end
def ones : List (List Nat) := [(List.replicate 30 [97]).flatten, (List.replicate 31 [97]).flatten, (List.replicate 29 [97, 47]).flatten ++ [98, 99], (List.replicate 30 [97, 47]).flatten ++ [98]]
theorem ones_ok : ∀ l ∈ ones, Asc l ∧ l.length ≤ 61 := by
  have key : ones.all (fun l => l.all (fun c => decide (c < 128)) && decide (l.length ≤ 61)) = true := by decide +kernel
  intro l hl
  obtain ⟨h1, h2⟩ := Bool.and_eq_true_iff.mp (List.all_eq_true.mp key l hl)
  exact ⟨fun c hc => of_decide_eq_true (List.all_eq_true.mp h1 c hc), of_decide_eq_true h2⟩
theorem asc_of {l : List Nat} (h : l.all (fun c => decide (c < 128)) = true) : Asc l := fun c hc => of_decide_eq_true (List.all_eq_true.mp h c hc)
def spLaw (K : PySem.W.Frag) : Sp := fun vs H Q _ => ∃ (a : Addr) (ns : List Int), vs = [.ref a] ∧ SqL K H a (ns.map V.int) ∧ ns.length ≤ 63 ∧ ∀ H', Q (.bl true) H'
end N1

namespace N1
open PySem PySem.Spec PyProof.Rows L2 Evl
open SX (S)
section
variable {P : Program} {w : World} {K : PySem.W.Frag} {mg : Str → Option Value} {base : Heap} {C : Addr}
theorem ok_law {f : Addr} {fd : FuncData} (F : FnP K "law" sLaw f fd) (B : Bt mg) (c_law_well : Cl P w K mg base L2.CX0 1 "_law_well" ["cell"] spWell) (c_law_draw : Cl P w K mg base L2.CX0 1 "_law_draw" ["well", "many"] spDraw) (c_law_one : Cl P w K mg base L2.CX0 2 "_law_one" ["well", "some"] spOne)
    (c_law_name : Cl P w K mg base L2.CX0 2 "_law_name" ["well", "many"] spLName) (c_law_class_name : Cl P w K mg base L2.CX0 3 "_law_class_name" ["well"] spLCls) (c_law_descriptor : Cl P w K mg base L2.CX0 4 "_law_descriptor" ["well"] spDesc)
    (c_law_changed : Cl P w K mg base L2.CX0 3 "_law_changed" ["well", "text"] spChanged) (c_law_told : Cl P w K mg base L2.CX0 8 "_law_told" ["text"] (spPair K)) (c_law_parts : Cl P w K mg base L2.CX0 4 "_law_parts" ["text"] (spPair K))
    (c_law_many_right : Cl P w K mg base L2.CX0 9 "_law_many_right" ["well"] spMany) (c_is_name : Cl P w K mg base L2.CX0 2 "is_name" ["thing"] (spName K isNameL)) (c_is_class_name : Cl P w K mg base L2.CX0 3 "is_class_name" ["thing"] (spName K isClassL))
    (c_law_is_name : Cl P w K mg base L2.CX0 1 "_law_is_name" ["thing"] (spNameA K isNameL)) (c_law_is_class_name : Cl P w K mg base L2.CX0 2 "_law_is_class_name" ["thing"] (spNameA K isClassL)) : FnOk P w K mg base L2.CX0 10 f fd ["script"] (spLaw K) := by
  refine F.ok scLaw (fun vs H Q E h => ?_) (fun cdv A outer s H vs Q E hr h => ?_)
  · obtain ⟨a, ns, rfl, _⟩ := h
    rfl
  · obtain ⟨sc, ns, rfl, hS, hns, q⟩ := h
    refine ⟨_, PSs.nox (pss_cons (ps_for PassesOwn.never rfl (pi_list (pe_op op_cat (pe_slice sl_list (pv 0) po_none (po_some pe_int)) (pe_lst (pa_cons pe_int pa_nil)))) (pg_name (i := 1) scLaw.nd rfl (.inl rfl)) (pss_cons (ps_set (i := 2) scLaw.nd rfl (.inr rfl) (pe_cl c_law_well hr (by decide) (by rfl) (pa_cons (pv 1) pa_nil)))
      (pss_cons (ps_setLc (i := 3) (own := [("k", 12)]) (g := gName 12) (tt := tYes) rfl scLaw.nd rfl rfl (sw_true rfl rfl rfl (by decide +kernel)) (pi_range1 (by rfl) B.range (pa_cons (pe_cl c_law_draw hr (by decide) (by rfl) (pa_cons (pv 2) (pa_cons pe_int pa_nil))) pa_nil)) (blkOk_by (N := ["script", "cell", "well", "parts", "last", "whole", "odd", "one", "text", "name", "some", "thing", "k"]) (sc := L2.defScope sLaw) (by decide +kernel)) (fun _ _ _ _ _ => pg_name (i := 12) scLaw.nd rfl (Or.inl rfl)) (fun _ _ _ _ _ => pts_nil) (fun _ _ _ _ _ => (pe_cl c_law_descriptor hr (by decide) (by rfl) (pa_cons (pv 2) pa_nil))))
      (pss_cons (ps_set (i := 4) scLaw.nd rfl (.inl rfl) (pe_cl c_law_one hr (by decide) (by rfl) (pa_cons (pv 2) (pa_cons (pe_lst (pa_cons pe_str (pa_cons (pe_cl c_law_descriptor hr (by decide) (by rfl) (pa_cons (pv 2) pa_nil)) pa_nil))) pa_nil))))
      (pss_cons (ps_set (i := 5) scLaw.nd rfl (.inl rfl) (pe_op op_add_str (pe_op op_add_str (pe_op op_add_str pe_str (pe_join pe_str (pv 3))) pe_str) (pv 4)))
      (pss_cons (ps_if (pt_cmpR (op_neD hr.units) (pe_cl c_law_told hr (by decide) (by rfl) (pa_cons (pv 5) pa_nil)) (pe_tup (pa_cons (pv 3) (pa_cons (pv 4) pa_nil))) (nomark _)) (pss_one (ps_ret pe_bl)) pss_nil)
      (pss_cons (ps_set (i := 6) scLaw.nd rfl (.inl rfl) (pe_lst (pa_cons pe_str (pa_cons pe_str (pa_cons pe_str (pa_cons pe_str (pa_cons pe_str (pa_cons pe_str (pa_cons pe_str (pa_cons pe_str (pa_cons pe_str (pa_cons pe_non (pa_cons pe_int (pa_cons (pe_lst (pa_cons pe_str pa_nil)) pa_nil))))))))))))))
      (pss_cons (ps_for PassesOwn.never rfl (pi_list (pe_lst (pa_cons (pe_op op_repS pe_str pe_int) (pa_cons (pe_op op_repS pe_str pe_int) (pa_cons (pe_op op_add_str (pe_op op_repS pe_str pe_int) pe_str) (pa_cons (pe_op op_add_str (pe_op op_repS pe_str pe_int) pe_str) pa_nil)))))) (pg_name (i := 7) scLaw.nd rfl (.inl rfl)) (pss_one (ps_set (i := 6) scLaw.nd rfl (.inl rfl) (pe_op op_cat (pv 6) (pe_lst (pa_cons (pe_op op_add_str (pe_op op_add_str pe_str (pv 7)) pe_str) (pa_cons (pe_op op_add_str (pe_op op_add_str pe_str (pv 7)) pe_str) pa_nil)))))))
      (pss_cons (ps_for PassesOwn.never rfl (pi_list (pe_op op_cat (pe_lst (pa_cons (pv 5) (pa_cons (pe_cl c_law_changed hr (by decide) (by rfl) (pa_cons (pv 2) (pa_cons (pv 5) pa_nil))) pa_nil))) (pv 6))) (pg_name (i := 8) scLaw.nd rfl (.inl rfl)) (pss_one (ps_if (pt_cmpR (op_neD hr.units) (pe_cl c_law_told hr (by decide) (by rfl) (pa_cons (pv 8) pa_nil)) (pe_cl c_law_parts hr (by decide) (by rfl) (pa_cons (pv 8) pa_nil)) (nomark _)) (pss_one (ps_ret pe_bl)) pss_nil)))
      (pss_cons (ps_if (pt_not (pt_val (pe_cl c_law_many_right hr (by decide) (by rfl) (pa_cons (pv 2) pa_nil)))) (pss_one (ps_ret pe_bl)) pss_nil)
      (pss_cons (ps_set (i := 9) scLaw.nd rfl (.inl rfl) (pe_cl c_law_class_name hr (by decide) (by rfl) (pa_cons (pv 2) pa_nil)))
      (pss_cons (ps_set (i := 10) scLaw.nd rfl (.inl rfl) (pe_lst (pa_cons (pv 9) (pa_cons (pe_cl c_law_changed hr (by decide) (by rfl) (pa_cons (pv 2) (pa_cons (pv 9) pa_nil))) (pa_cons (pe_cl c_law_name hr (by decide) (by rfl) (pa_cons (pv 2) (pa_cons pe_int pa_nil))) (pa_cons (pe_op op_repS pe_str pe_int) (pa_cons (pe_op op_repS pe_str pe_int) pa_nil)))))))
      (pss_cons (ps_set (i := 10) scLaw.nd rfl (.inl rfl) (pe_op op_cat (pv 10) (pe_lst (pa_cons (pe_op op_add_str (pe_op op_repS pe_str pe_int) pe_str) (pa_cons (pe_op op_add_str (pe_op op_repS pe_str pe_int) pe_str) pa_nil)))))
      (pss_one (ps_for PassesOwn.never rfl (pi_list (pe_op op_cat (pv 10) (pe_lst (pa_cons pe_str (pa_cons pe_str (pa_cons pe_str (pa_cons pe_str (pa_cons pe_str (pa_cons pe_non (pa_cons pe_bl (pa_cons (pe_tup (pa_cons pe_str pa_nil)) (pa_cons pe_str (pa_cons (pe_op op_add_str (pv 9) pe_str) (pa_cons pe_str pa_nil)))))))))))))) (pg_name (i := 11) scLaw.nd rfl (.inl rfl)) (pss_one (ps_if (PW.pt (pw_or (pt_cmpR op_ne (pe_cl c_is_name hr (by decide) (by rfl) (pa_cons (pv 11) pa_nil)) (pe_cl c_law_is_name hr (by decide) (by rfl) (pa_cons (pv 11) pa_nil)) (nomark _)) (pw_or1 (pt_cmpR op_ne (pe_cl c_is_class_name hr (by decide) (by rfl) (pa_cons (pv 11) pa_nil)) (pe_cl c_law_is_class_name hr (by decide) (by rfl) (pa_cons (pv 11) pa_nil)) (nomark _))))) (pss_one (ps_ret pe_bl)) pss_nil)))))))))))))))))
      (pss_one (ps_ret pe_bl))), ?_⟩
    have hcut : (cutV (ns.map V.int) none (some 8)).length ≤ 63 := by
      unfold cutV
      rw [List.length_take, List.length_drop, List.length_map]
      omega
    refine q_forNL (el_cat (el_sl (lo := none) (hi := some 8) (ev_var rfl) eo_none (eo_some ev_c) hS) (el_lst (ea_cons ev_c ea_nil) (by show 1 ≤ 100000; decide)) (by show _ + 1 ≤ 100000; omega))
      (fun p i σ' H' => Ex H H' ∧ H' p = some (.lst (cutV (ns.map V.int) none (some 8) ++ [.int 0])) ∧ ∃ v1 v2 v3 v4 v5 v6 v7 v8 v9 v10 v11 v12, σ' = [some (.ref sc), v1, v2, v3, v4, v5, v6, v7, v8, v9, v10, v11, v12])
      (fun p H1 hp x1 h1 => ⟨x1, h1, none, none, none, none, none, none, none, none, none, none, none, none, rfl⟩) (fun p i σ' H' hi hP => sq_of hP.2.1) (fun p i x σ' Hs hx hP => ?_) (fun p σ' H' hP => ?_)
    · obtain ⟨xE, hp, v1, v2, v3, v4, v5, v6, v7, v8, v9, v10, v11, v12, rfl⟩ := hP
      obtain ⟨cell, rfl⟩ : ∃ i : Int, x = .int i := by
        have hm := List.mem_of_getElem? hx
        rcases List.mem_append.mp hm with h | h
        · unfold cutV at h
          obtain ⟨i, _, e⟩ := List.mem_map.mp (List.mem_of_mem_drop (List.mem_of_mem_take h))
          exact ⟨i, e.symm⟩
        · exact ⟨0, List.mem_singleton.mp h⟩
      -- well
      refine q_asgAny (rd_call (rd_cons (rd_ev (ev_var rfl) fun H1 x1 => ⟨cell, rfl, fun a H2 ha1 x2 hw2 => ?_⟩)))
      have ha : Hs a = none := fresh_back x1 ha1
      have xs2 : Ex Hs H2 := x1.trans x2
      -- parts
      refine q_asgAny (lc_drawn (a := a) (n := 1) (k := 400) (j := 12) (fun N => N ≤ 4) GoodD (fun R hR => dr_draw (a := a) (m := 5) (n := 0) (ev_var rfl) ev_c (by decide) (by decide) hw2 (by decide) fun d H3 d0 d1 x3 hw3 => ?_) (fun N h => by omega) (fun _ => rfl) (fun N i H3 hN hi hw3 Q' hQ' => ?_) (fun D N ls H3 hD hN hls hPe xa3 hw3 h3 => ?_))
      · obtain ⟨k, rfl⟩ : ∃ k : Nat, d = (k : Int) := ⟨d.toNat, by omega⟩
        exact hR k H3 (by omega) hw3 x3
      · exact rd_call (rd_cons (rd_ev (ev_var rfl) fun H4 x4 => ⟨a, 1 + i * 400, rfl, hw3.ex x4, by omega, fun l H5 hl x5 hw5 => hQ' l H5 hl ((Exa.of x4).trans x5) (hw5.le (by omega))⟩))
      have hDa : D ≠ a := fun e => by
        obtain ⟨y, c, h1, _⟩ := hw2
        rw [e, h1] at hD
        cases hD
      have xs3 : Ex Hs H3 := Exa.ex ha xs2 xa3
      have hw3 : WellAt H3 a 1700 := hw3.le (by omega)
      clear hw2 xa3
      -- last
      refine q_asgAny (rd_call (rd_cons (rd_ev (ev_var rfl) fun H4 x4 => rd_cons (rd_lst (rd_cons (rd_c (rd_cons (rd_call (rd_cons (rd_ev (ev_var rfl) fun H5 x5 => ⟨a, 1700, rfl, (hw3.ex x4).ex x5, by decide, fun dl H6 hdl xa6 hw6 => ⟨by show 2 ≤ sizeLine; decide, fun p2 hp2 => ⟨a, p2, _, 2100, rfl, upd_same, well_ne hw6 hp2, by simp, by show 2 ≤ 1000; decide, hw6.ex (Ex.new hp2), by decide, fun lv H7 hlv xa7 hw7 => ?_⟩⟩⟩))))))))))
      obtain ⟨last, hlast, rfl⟩ : ∃ last, (last = [86] ∨ GoodD last) ∧ lv = .str (S last) := by
        rcases List.mem_cons.mp hlv with h | h
        · exact ⟨[86], .inl rfl, by rw [h]; decide +kernel⟩
        · exact ⟨dl, .inr hdl, List.mem_singleton.mp h⟩
      have xa37 : Exa a H3 H7 := ((Exa.of (x4.trans x5)).trans xa6).trans ((Exa.of (Ex.new hp2)).trans xa7)
      have xs7 : Ex Hs H7 := Exa.ex ha xs3 xa37
      have h7 : H7 D = some (.lst (ls.map N1.vs)) := xa37 _ _ hDa h3
      have hw7 : WellAt H7 a 2200 := hw7.le (by decide)
      clear hw6 xa6 xa7 hw3 hlv
      have hlA : Asc last ∧ last.length ≤ 28 := by
        rcases hlast with rfl | h
        · exact ⟨asc1 (by decide), by decide⟩
        · exact ⟨h.asc.1, h.asc.2.1⟩
      have hflat : ls.flatten.length ≤ 4 * 28 := by
        have h1 : (ls.map List.length).sum ≤ ls.length * 28 := sum_le (ls := ls) (b := 28) fun l hl => (hPe l hl).asc.2.1
        rw [List.length_flatten]
        have h2 : ls.length * 28 ≤ 4 * 28 := Nat.mul_le_mul (by omega) (Nat.le_refl _)
        omega
      -- whole
      refine q_asg (v := .str (S (40 :: (ls.flatten ++ 41 :: last)))) (ev_is (ev_op (ev_op (ev_op ev_c (ev_join (by decide +kernel) h7 (ev_var rfl) (by omega) (fun l hl => by have := (hPe l hl).asc.2.1; omega)) (rv_addS (a := [40]) (by decide +kernel) rfl (by simp only [List.length_cons, List.length_nil]; omega))) ev_c (rv_addS (b := [41]) rfl (by decide +kernel) (by simp only [List.length_cons, List.length_nil, List.length_append]; omega))) (ev_var rfl) (rv_addS rfl rfl (by simp only [List.length_cons, List.length_nil, List.length_append]; omega))) (by simp)) fun H8 x8 => ?_
      have hwA : Asc (40 :: (ls.flatten ++ 41 :: last)) := asc_text (fun p hp => (hPe p hp).asc.1) hlA.1
      have hwl : (40 :: (ls.flatten ++ 41 :: last)).length ≤ 200 := by
        simp only [List.length_cons, List.length_append]
        omega
      have hpl : ¬ placesL ls > 254 := by
        have : ∀ l : List (List Nat), placesL l ≤ 2 * (l.length : Int) := by
          intro l
          induction l with
          | nil => decide
          | cons d r ih =>
            have e : placesL (d :: r) = (if d = [74] then (2 : Int) else 1) + placesL r := by
              unfold placesL
              rw [List.map_cons, List.sum_cons]
            rw [e, List.length_cons]
            split <;> omega
        have := this ls
        omega
      have hpair : pairOf (partsL (40 :: (ls.flatten ++ 41 :: last))) = some (ls, last) := by
        rw [parts_good hPe hlast, if_neg hpl, pair_snoc]
      have hascO : AscO (some (ls, last)) := fun ps l e => by
        cases e
        exact ⟨fun p hp => (hPe p hp).asc.1, hlA.1⟩
      generalize hwh : 40 :: (ls.flatten ++ 41 :: last) = whole at hwA hwl hpair ⊢
      clear hwh hpl
      -- told(whole) != (parts, last)
      refine q_when (b := false) (fun H9 x9 Q' q' => ⟨N1.vs whole, rfl, N1.vs whole, _, rfl, .inl ⟨whole, rfl, by omega, hwA, rfl⟩, fun v H10 x10 d1 => rd_tup (rd_cons (rd_ev (ev_var rfl) fun H11 x11 => rd_cons (rd_ev (ev_var rfl) fun H12 x12 => ⟨by show 2 ≤ sizeLine; decide, fun t ht => ?_⟩)))⟩) (fun e => by cases e) (fun _ H9 x9 => ?_)
      · have xx := (x10.trans x11).trans x12
        rw [hpair] at d1
        refine ⟨_, _, dp_ex ((x11.trans x12).trans (Ex.new ht)) _ _ d1, dp_pair (q := D) (acc := ls) (last := last) upd_same ?_, dataO_shaped hascO, dataO_shaped hascO, false, ?_, q' _ ((xx).trans (Ex.new ht))⟩
        · have hd12 : H12 D = some (.lst (ls.map N1.vs)) := xx _ _ (x9 _ _ (x8 _ _ h7))
          rw [upd_ne (ne_of_none hd12 ht)]
          exact hd12
        · rw [dataO_eqv, decide_eq_true rfl]; rfl
      have hw9 : WellAt H9 a 2200 := (hw7.ex x8).ex x9
      have xs9 : Ex Hs H9 := (xs7.trans x8).trans x9
      clear hpair hascO xs7 h7 hw7 xa37 h3 xs3 hlA
      -- odd
      refine q_asgAny (rd_lst (rd_cons (rd_c (rd_cons (rd_c (rd_cons (rd_c (rd_cons (rd_c (rd_cons (rd_c (rd_cons (rd_c (rd_cons (rd_c (rd_cons (rd_c (rd_cons (rd_c (rd_cons (rd_c (rd_cons (rd_c (rd_cons (rd_evL (el_lst (ea_cons ev_c ea_nil) (by show 1 ≤ 100000; decide)) fun pl H10 hpl x10 hl10 => ⟨by show 12 ≤ sizeLine; decide, fun po hpo => ?_⟩)))))))))))))))))))))))))
      have hw10 : WellAt H10 a 2200 := hw9.ex x10
      have hpla : pl ≠ a := well_ne hw9 hpl
      have hpoa : po ≠ a := well_ne hw10 hpo
      have hI0 : ∀ y ∈ [V.str "", V.str "()", V.str "()V", V.str "(", V.str "V", V.str "()VV", V.str ")(V", V.str "([)V", V.str "(L;)V", V.non, V.int 5, V.ref pl], Itm a (upd H10 po (.lst [V.str "", V.str "()", V.str "()V", V.str "(", V.str "V", V.str "()VV", V.str ")(V", V.str "([)V", V.str "(L;)V", V.non, V.int 5, V.ref pl])) y :=
        fa_cons (.lit (by decide +kernel)) (fa_cons (.lit (by decide +kernel)) (fa_cons (.lit (by decide +kernel)) (fa_cons (.lit (by decide +kernel)) (fa_cons (.lit (by decide +kernel)) (fa_cons (.lit (by decide +kernel)) (fa_cons (.lit (by decide +kernel)) (fa_cons (.lit (by decide +kernel)) (fa_cons (.lit (by decide +kernel))
          (fa_cons (.inr (.inl rfl)) (fa_cons (.inr (.inr (.inl ⟨5, rfl⟩))) (fa_cons (.inr (.inr (.inr (.inr ⟨pl, _, rfl, hpla, .inl (by rw [upd_ne (ne_of_none hl10 hpo)]; exact hl10)⟩)))) fa_nil)))))))))))
      have hlen0 : [V.str "", V.str "()", V.str "()V", V.str "(", V.str "V", V.str "()VV", V.str ")(V", V.str "([)V", V.str "(L;)V", V.non, V.int 5, V.ref pl].length ≤ 12 := by show 12 ≤ 12; decide
      generalize [V.str "", V.str "()", V.str "()V", V.str "(", V.str "V", V.str "()VV", V.str ")(V", V.str "([)V", V.str "(L;)V", V.non, V.int 5, V.ref pl] = ys0 at hI0 hlen0 ⊢
      have x11 : Ex H10 (upd H10 po (.lst ys0)) := Ex.new hpo
      have h11 : (upd H10 po (.lst ys0)) po = some (.lst ys0) := upd_same
      generalize upd H10 po (.lst ys0) = H11 at hI0 x11 h11 ⊢
      have hw11 : WellAt H11 a 2200 := hw10.ex x11
      have xs11 : Ex Hs H11 := (xs9.trans x10).trans x11
      clear hw10 hw9 hl10 hpla
      -- for one in ..
      refine q_forNL (xs := ones.map N1.vs) (el_lst (ea_cons (ev_op ev_c ev_c (rv_rep (l := [97]) (k := 30) (by decide +kernel) (by decide) (by decide))) (ea_cons (ev_op ev_c ev_c (rv_rep (l := [97]) (k := 31) (by decide +kernel) (by decide) (by decide)))
          (ea_cons (ev_op (ev_op ev_c ev_c (rv_rep (l := [97, 47]) (k := 29) (by decide +kernel) (by decide) (by decide))) ev_c (rv_addS (b := [98, 99]) rfl (by decide +kernel) (by decide))) (ea_cons (ev_op (ev_op ev_c ev_c (rv_rep (l := [97, 47]) (k := 30) (by decide +kernel) (by decide) (by decide))) ev_c (rv_addS (b := [98]) rfl (by decide +kernel) (by decide))) ea_nil)))) (by show 4 ≤ 100000; decide))
        (fun p1 i σ' H' => Ex H11 H' ∧ H' p1 = some (.lst (ones.map N1.vs)) ∧ ∃ po ys v7, σ' = [some (.ref sc), some (.int cell), some (.ref a), some (.ref D), some (N1.vs last), some (N1.vs whole), some (.ref po), v7, v8, v9, v10, v11, v12] ∧ H' po = some (.lst ys) ∧ po ≠ a ∧ ys.length ≤ 12 + 2 * i ∧ ∀ y ∈ ys, Itm a H' y)
        (fun p1 H12 hp1 x12 h12 => ⟨x12, h12, po, ys0, v7, rfl, x12 _ _ h11, hpoa, by omega, fun y hy => (hI0 y hy).exa (Exa.of x12)⟩) (fun p1 i σ' H' hi hP => sq_of hP.2.1) (fun p1 i x σ' H12 hx hP => ?_) (fun p1 σ' H12 hP => ?_)
      · obtain ⟨x12, h12, po, ys, v7, rfl, hpo2, hpo3, hys, hI⟩ := hP
        obtain ⟨one, ho, rfl⟩ := List.mem_map.mp (List.mem_of_getElem? hx)
        obtain ⟨oA, oL⟩ := ones_ok one ho
        have hil : i < 4 := by
          have := (List.getElem?_eq_some_iff.mp hx).1
          rw [List.length_map] at this
          exact this
        refine s_asgL (el_catV (l := po) (xs := ys) (ev_var rfl) hpo2 (el_lst (ea_cons (ev_op (ev_op ev_c (ev_var rfl) (rv_addS (a := [40, 76]) (by decide +kernel) rfl (by simp; omega))) ev_c (rv_addS (b := [59, 41, 73]) rfl (by decide +kernel) (by simp; omega)))
          (ea_cons (ev_op (ev_op ev_c (ev_var rfl) (rv_addS (a := [40, 73, 41, 91, 76]) (by decide +kernel) rfl (by simp; omega))) ev_c (rv_addS (b := [59]) rfl (by decide +kernel) (by simp; omega))) ea_nil)) (by show 2 ≤ 100000; decide)) (by show ys.length + 2 ≤ 100000; omega)) fun p3 H13 hp3 x13 h13 => ?_
        refine ⟨x12.trans x13, x13 _ _ h12, p3, _, _, rfl, h13, well_ne (hw11.ex x12) hp3, by rw [List.length_append]; show ys.length + 2 ≤ _; omega, fa_app (fun y hy => (hI y hy).exa (Exa.of x13)) (fa_cons (Itm.str ((Asc.app (asc_of (by decide)) oA).app (asc_of (by decide))) (by simp; omega)) (fa_cons (Itm.str ((Asc.app (asc_of (by decide)) oA).app (asc_of (by decide))) (by simp; omega)) fa_nil))⟩
      obtain ⟨x12, _, po, ys, v7, rfl, hpo2, hpo3, hys, hI⟩ := hP
      have hys : ys.length ≤ 20 := hys
      have hw12 : WellAt H12 a 2200 := hw11.ex x12
      have xs12 : Ex Hs H12 := xs11.trans x12
      clear hw11 xs11 h11 hI0 hlen0 x12 x11 hpoa
      -- for text in [whole, changed] + odd
      refine rd_seq (rd_for (rd_op (rd_lst (rd_cons (rd_ev (ev_var rfl) fun H13 x13 => rd_cons (rd_call (rd_cons (rd_ev (ev_var rfl) fun H14 x14 => rd_cons (rd_ev (ev_var rfl) fun H15 x15 => ?_)))))))))
      refine ⟨a, whole, 2200, rfl, hwA, by omega, hw12.ex ((x13.trans x14).trans x15), by decide, fun ch H16 chA chL xa16 hw16 => ⟨by show 2 ≤ sizeLine; decide, fun pp hpp => ?_⟩⟩
      have xa12 : Exa a H12 (upd H16 pp (.lst [N1.vs whole, N1.vs ch])) := ((Exa.of ((x13.trans x14).trans x15)).trans xa16).trans (Exa.of (Ex.new hpp))
      have hw17 : WellAt (upd H16 pp (.lst [N1.vs whole, N1.vs ch])) a 2203 := hw16.ex (Ex.new hpp)
      have h17 : (upd H16 pp (.lst [N1.vs whole, N1.vs ch])) pp = some (.lst [N1.vs whole, N1.vs ch]) := upd_same
      generalize upd H16 pp (.lst [N1.vs whole, N1.vs ch]) = H17 at xa12 hw17 h17 ⊢
      have hpo17 : H17 po = some (.lst ys) := xa12 _ _ hpo3 hpo2
      have hI17 : ∀ y ∈ ys, Itm a H17 y := fun y hy => (hI y hy).exa xa12
      have xs17 : Ex Hs H17 := Exa.ex ha xs12 xa12
      refine ⟨_, rfl, pp, po, _, ys, rfl, rfl, h17, hpo17, sz_of (by show 2 + ys.length ≤ 100000; omega), fun p2 hp2 => ?_⟩
      have hIall : ∀ y ∈ [N1.vs whole, N1.vs ch] ++ ys, Itm a (upd H17 p2 (.lst ([N1.vs whole, N1.vs ch] ++ ys))) y := fa_app (fa_cons (Itm.str hwA (by omega)) (fa_cons (Itm.str chA (by omega)) fa_nil)) fun y hy => (hI17 y hy).exa (Exa.of (Ex.new hp2))
      have hw18 : WellAt (upd H17 p2 (.lst ([N1.vs whole, N1.vs ch] ++ ys))) a 2203 := hw17.ex (Ex.new hp2)
      have xs18 : Ex Hs (upd H17 p2 (.lst ([N1.vs whole, N1.vs ch] ++ ys))) := xs17.trans (Ex.new hp2)
      have h18 : (upd H17 p2 (.lst ([N1.vs whole, N1.vs ch] ++ ys))) p2 = some (.lst ([N1.vs whole, N1.vs ch] ++ ys)) := upd_same
      generalize upd H17 p2 (.lst ([N1.vs whole, N1.vs ch] ++ ys)) = H18 at hIall hw18 xs18 h18 ⊢
      generalize [N1.vs whole, N1.vs ch] ++ ys = zs at hIall h18 ⊢
      refine s_forL ev_c (sq_of h18) (fun i σ' H' => Ex H18 H' ∧ ∃ v8, σ' = [some (.ref sc), some (.int cell), some (.ref a), some (.ref D), some (N1.vs last), some (N1.vs whole), some (.ref po), v7, v8, v9, v10, v11, v12]) (fun H19 x19 => ⟨x19, v8, rfl⟩) (fun i σ' H' hi hP => sq_of (hP.1 _ _ h18)) (fun i x σ' H19 hx hP => ?_) (fun σ' H19 hP => ?_)
      · obtain ⟨x19, v8, rfl⟩ := hP
        obtain ⟨o, hpo', hoA⟩ := ((hIall x (List.mem_of_getElem? hx)).exa (Exa.of x19)).parts (K := K)
        exact s_when (b := false) (et_same (x := x) rfl hpo' hoA) (fun e => by cases e) fun _ H20 x20 => ⟨x19.trans x20, _, rfl⟩
      obtain ⟨x19, v8, rfl⟩ := hP
      have hw19 : WellAt H19 a 2203 := hw18.ex x19
      have xs19 : Ex Hs H19 := xs18.trans x19
      clear hIall hw18 xs18 h18 x19 hw17 h17 xa12 hpo17 hI17 xs17 hpo2 hI hw12 xs12 hw16 xa16
      -- many_right
      refine rd_ifNot (rd_call (rd_cons (rd_ev (ev_var rfl) fun H20 x20 => ⟨a, 2203, rfl, hw19.ex x20, by decide, fun H21 xa21 hw21 => ⟨true, rfl, iteF ?_⟩⟩)))
      have xs21 : Ex Hs H21 := Exa.ex ha (xs19.trans x20) xa21
      clear hw19 xs19 xa21
      -- name
      refine q_asgAny (rd_call (rd_cons (rd_ev (ev_var rfl) fun H22 x22 => ⟨a, 2206, rfl, hw21.ex x22, by decide, fun nm H23 hnm xa23 hw23 => ?_⟩)))
      obtain ⟨_, _, nA, nL⟩ := hnm.facts
      have xs23 : Ex Hs H23 := Exa.ex ha (xs21.trans x22) xa23
      clear hw21 xs21 xa23
      -- some
      refine q_asgAny (rd_lst (rd_cons (rd_ev (ev_var rfl) fun H24 x24 => rd_cons (rd_call (rd_cons (rd_ev (ev_var rfl) fun H25 x25 => rd_cons (rd_ev (ev_var rfl) fun H26 x26 => ?_)))))))
      refine ⟨a, nm, 2516, rfl, nA, by omega, hw23.ex ((x24.trans x25).trans x26), by decide, fun c2 H27 c2A c2L xa27 hw27 => ?_⟩
      refine rd_cons (rd_call (rd_cons (rd_ev (ev_var rfl) fun H28 x28 => rd_cons (rd_c ?_))))
      refine ⟨a, 31, 2519, rfl, by decide, by decide, hw27.ex x28, by decide, fun n3 H29 n3S n31 n3L xa29 hw29 => ?_⟩
      refine rd_cons (rd_ev (ev_op ev_c ev_c (rv_rep (l := [97]) (k := 30) (by decide +kernel) (by decide) (by decide))) fun H30 x30 => rd_cons (rd_ev (ev_op ev_c ev_c (rv_rep (l := [97]) (k := 31) (by decide +kernel) (by decide) (by decide))) fun H31 x31 => ⟨by show 5 ≤ sizeLine; decide, fun ps hps => ?_⟩))
      have xs31 : Ex Hs H31 := ((Exa.ex ha (Exa.ex ha (xs23.trans ((x24.trans x25).trans x26)) xa27) ((Exa.of x28).trans xa29)).trans x30).trans x31
      have hI5 : ∀ H', ∀ y ∈ [N1.vs nm, N1.vs c2, N1.vs n3, N1.vs (List.replicate 30 [97]).flatten, N1.vs (List.replicate 31 [97]).flatten], Itm a H' y := fun H' => fa_cons (Itm.str nA (by omega)) (fa_cons (Itm.str c2A (by omega)) (fa_cons (Itm.str n3S.asc (by omega)) (fa_cons (Itm.str (asc_of (by decide +kernel)) (by decide +kernel)) (fa_cons (Itm.str (asc_of (by decide +kernel)) (by decide +kernel)) fa_nil))))
      have xs32 : Ex Hs (upd H31 ps (.lst [N1.vs nm, N1.vs c2, N1.vs n3, N1.vs (List.replicate 30 [97]).flatten, N1.vs (List.replicate 31 [97]).flatten])) := xs31.trans (Ex.new hps)
      have h32 : (upd H31 ps (.lst [N1.vs nm, N1.vs c2, N1.vs n3, N1.vs (List.replicate 30 [97]).flatten, N1.vs (List.replicate 31 [97]).flatten])) ps = some (.lst [N1.vs nm, N1.vs c2, N1.vs n3, N1.vs (List.replicate 30 [97]).flatten, N1.vs (List.replicate 31 [97]).flatten]) := upd_same
      have hw32 : WellAt (upd H31 ps (.lst [N1.vs nm, N1.vs c2, N1.vs n3, N1.vs (List.replicate 30 [97]).flatten, N1.vs (List.replicate 31 [97]).flatten])) a 2620 := ((hw29.ex x30).ex x31).ex (Ex.new hps)
      have hl5 : [N1.vs nm, N1.vs c2, N1.vs n3, N1.vs (List.replicate 30 [97]).flatten, N1.vs (List.replicate 31 [97]).flatten].length ≤ 5 := by show 5 ≤ 5; decide
      generalize [N1.vs nm, N1.vs c2, N1.vs n3, N1.vs (List.replicate 30 [97]).flatten, N1.vs (List.replicate 31 [97]).flatten] = so at hI5 hl5 xs32 h32 hw32 ⊢
      generalize upd H31 ps (.lst so) = H32 at xs32 h32 hw32 ⊢
      clear xs31 hw29 xa29 hw27 xa27 hw23 xs23
      -- some = some + [..]
      refine q_asgL (el_catV (l := ps) (xs := so) (ys := [N1.vs ((List.replicate 29 [97, 47]).flatten ++ [98, 99]), N1.vs ((List.replicate 30 [97, 47]).flatten ++ [98])]) (ev_var rfl) h32 (el_lst (ea_cons (ev_op (ev_op ev_c ev_c (rv_rep (l := [97, 47]) (k := 29) (by decide +kernel) (by decide) (by decide))) ev_c (rv_addS (b := [98, 99]) rfl (by decide +kernel) (by decide))) (ea_cons (ev_op (ev_op ev_c ev_c (rv_rep (l := [97, 47]) (k := 30) (by decide +kernel) (by decide) (by decide))) ev_c (rv_addS (b := [98]) rfl (by decide +kernel) (by decide))) ea_nil)) (by show 2 ≤ 100000; decide)) (by show so.length + 2 ≤ 100000; omega)) fun p7 H33 hp7 x33 h33 => ?_
      have hI7 : ∀ H', ∀ y ∈ so ++ [N1.vs ((List.replicate 29 [97, 47]).flatten ++ [98, 99]), N1.vs ((List.replicate 30 [97, 47]).flatten ++ [98])], Itm a H' y := fun H' => fa_app (hI5 H') (fa_cons (Itm.str (asc_of (by decide +kernel)) (by decide +kernel)) (fa_cons (Itm.str (asc_of (by decide +kernel)) (by decide +kernel)) fa_nil))
      have hl7 : (so ++ [N1.vs ((List.replicate 29 [97, 47]).flatten ++ [98, 99]), N1.vs ((List.replicate 30 [97, 47]).flatten ++ [98])]).length ≤ 7 := by rw [List.length_append]; show so.length + 2 ≤ 7; omega
      generalize so ++ [N1.vs ((List.replicate 29 [97, 47]).flatten ++ [98, 99]), N1.vs ((List.replicate 30 [97, 47]).flatten ++ [98])] = so7 at hI7 hl7 h33 ⊢
      -- for thing in ..
      refine rd_for (rd_op (rd_ev (ev_var rfl) fun H34 x34 => rd_lst (rd_cons (rd_c (rd_cons (rd_c (rd_cons (rd_c (rd_cons (rd_c (rd_cons (rd_c (rd_cons (rd_c (rd_cons (rd_c (rd_cons (rd_tup (rd_cons (rd_c ⟨by show 1 ≤ sizeLine; decide, fun pt hpt => rd_cons (rd_c (rd_cons (rd_ev (ev_op (ev_var rfl) ev_c (rv_addS (b := [10]) rfl (by decide +kernel) (by simp; omega))) fun H35 x35 => rd_cons (rd_c ⟨by show 11 ≤ sizeLine; decide, fun pe hpe => ?_⟩))))⟩))))))))))))))))))))
      have hw34 : WellAt H34 a 2620 := (hw32.ex x33).ex x34
      have hpta : pt ≠ a := well_ne hw34 hpt
      have xt : Ex H34 (upd H35 pe (.lst [V.str "", V.str "/", V.str "a//b", V.str "/a", V.str "a/", V.non, V.bl true, V.ref pt, V.str "<init>", N1.vs (nm ++ [10]), V.str "A\n"])) := ((Ex.new hpt).trans x35).trans (Ex.new hpe)
      have ht35 : (upd H35 pe (.lst [V.str "", V.str "/", V.str "a//b", V.str "/a", V.str "a/", V.non, V.bl true, V.ref pt, V.str "<init>", N1.vs (nm ++ [10]), V.str "A\n"])) pt = some (.tup [V.str "a"]) := (x35.trans (Ex.new hpe)) _ _ upd_same
      have hI11 : ∀ y ∈ [V.str "", V.str "/", V.str "a//b", V.str "/a", V.str "a/", V.non, V.bl true, V.ref pt, V.str "<init>", N1.vs (nm ++ [10]), V.str "A\n"], Itm a (upd H35 pe (.lst [V.str "", V.str "/", V.str "a//b", V.str "/a", V.str "a/", V.non, V.bl true, V.ref pt, V.str "<init>", N1.vs (nm ++ [10]), V.str "A\n"])) y :=
        fa_cons (.lit (by decide +kernel)) (fa_cons (.lit (by decide +kernel)) (fa_cons (.lit (by decide +kernel)) (fa_cons (.lit (by decide +kernel)) (fa_cons (.lit (by decide +kernel)) (fa_cons (.inr (.inl rfl)) (fa_cons (.inr (.inr (.inr (.inl ⟨true, rfl⟩)))) (fa_cons (.inr (.inr (.inr (.inr ⟨pt, _, rfl, hpta, .inr ht35⟩))))
          (fa_cons (.lit (by decide +kernel)) (fa_cons (Itm.str (nA.app (asc1 (by decide))) (by simp; omega)) (fa_cons (.lit (by decide +kernel)) fa_nil))))))))))
      have hl11 : [V.str "", V.str "/", V.str "a//b", V.str "/a", V.str "a/", V.non, V.bl true, V.ref pt, V.str "<init>", N1.vs (nm ++ [10]), V.str "A\n"].length ≤ 11 := by show 11 ≤ 11; decide
      have hpe11 : (upd H35 pe (.lst [V.str "", V.str "/", V.str "a//b", V.str "/a", V.str "a/", V.non, V.bl true, V.ref pt, V.str "<init>", N1.vs (nm ++ [10]), V.str "A\n"])) pe = some (.lst [V.str "", V.str "/", V.str "a//b", V.str "/a", V.str "a/", V.non, V.bl true, V.ref pt, V.str "<init>", N1.vs (nm ++ [10]), V.str "A\n"]) := upd_same
      generalize [V.str "", V.str "/", V.str "a//b", V.str "/a", V.str "a/", V.non, V.bl true, V.ref pt, V.str "<init>", N1.vs (nm ++ [10]), V.str "A\n"] = zs at xt hI11 hl11 hpe11 ⊢
      generalize upd H35 pe (.lst zs) = H36 at xt hI11 hpe11 ⊢
      refine ⟨p7, pe, so7, zs, rfl, rfl, xt _ _ (x34 _ _ h33), hpe11, sz_of (by omega), fun pf hpf => ?_⟩
      have hIall : ∀ y ∈ so7 ++ zs, Itm a (upd H36 pf (.lst (so7 ++ zs))) y := fa_app (hI7 _) fun y hy => (hI11 y hy).exa (Exa.of (Ex.new hpf))
      have xs37 : Ex Hs (upd H36 pf (.lst (so7 ++ zs))) := (((xs32.trans x33).trans x34).trans xt).trans (Ex.new hpf)
      have h37 : (upd H36 pf (.lst (so7 ++ zs))) pf = some (.lst (so7 ++ zs)) := upd_same
      generalize upd H36 pf (.lst (so7 ++ zs)) = H37 at hIall xs37 h37 ⊢
      generalize so7 ++ zs = all at hIall h37 ⊢
      refine s_forL ev_c (sq_of h37) (fun i σ' H' => Ex H37 H' ∧ ∃ v11, σ' = [some (.ref sc), some (.int cell), some (.ref a), some (.ref D), some (N1.vs last), some (N1.vs whole), some (.ref po), v7, v8, some (N1.vs nm), some (.ref p7), v11, v12]) (fun H38 x38 => ⟨x38, v11, rfl⟩) (fun i σ' H' hi hP => sq_of (hP.1 _ _ h37)) (fun i x σ' H38 hx hP => ?_) (fun σ' H38 hP => ?_)
      · obtain ⟨x38, v11, rfl⟩ := hP
        have hit := (hIall x (List.mem_of_getElem? hx)).exa (Exa.of x38)
        obtain ⟨b1, t1, t2⟩ := hit.tell (K := K) isNameL
        obtain ⟨b2, t3, t4⟩ := hit.tell (K := K) isClassL
        exact s_when (b := false) (et_is (et_or (a := false) (b := false) (et_test (ev_neB (ev_told (x := x) rfl t1) (ev_tell (x := x) rfl t2))) fun _ => et_test (ev_neB (ev_told (x := x) rfl t3) (ev_tell (x := x) rfl t4))) rfl) (fun e => by cases e) fun _ H39 x39 => ⟨x38.trans x39, _, rfl⟩
      obtain ⟨x38, v11, rfl⟩ := hP
      have xe := xs37.trans x38
      exact ⟨xE.trans xe, xe _ _ hp, _, _, _, _, _, _, _, _, _, _, _, _, rfl⟩
    · exact s_ret ev_c fun H1 _ => q H1
end
end N1

namespace N1
open PySem PySem.Spec PyProof.Rows L2
def dIsName : He.DefD := ⟨("is_name", none), "is_name", "is_name", L2.defArgs sIsName, L2.defBody sIsName, L2.defScope sIsName, [], []⟩
def dIsNameSign : He.DefD := ⟨("_is_name_sign", none), "_is_name_sign", "_is_name_sign", L2.defArgs sIsNameSign, L2.defBody sIsNameSign, L2.defScope sIsNameSign, [], []⟩
def dIsClassName : He.DefD := ⟨("is_class_name", none), "is_class_name", "is_class_name", L2.defArgs sIsClassName, L2.defBody sIsClassName, L2.defScope sIsClassName, [], []⟩
def dIsFieldDescriptor : He.DefD := ⟨("is_field_descriptor", none), "is_field_descriptor", "is_field_descriptor", L2.defArgs sIsFieldDescriptor, L2.defBody sIsFieldDescriptor, L2.defScope sIsFieldDescriptor, [], []⟩
def dPlacesOf : He.DefD := ⟨("places_of", none), "places_of", "places_of", L2.defArgs sPlacesOf, L2.defBody sPlacesOf, L2.defScope sPlacesOf, [], []⟩
def dParameters : He.DefD := ⟨("parameters", none), "parameters", "parameters", L2.defArgs sParameters, L2.defBody sParameters, L2.defScope sParameters, [], []⟩
def dResult : He.DefD := ⟨("result", none), "result", "result", L2.defArgs sResult, L2.defBody sResult, L2.defScope sResult, [], []⟩
def dMethodParts : He.DefD := ⟨("_method_parts", none), "_method_parts", "_method_parts", L2.defArgs sMethodParts, L2.defBody sMethodParts, L2.defScope sMethodParts, [], []⟩
def dFieldEnd : He.DefD := ⟨("_field_end", none), "_field_end", "_field_end", L2.defArgs sFieldEnd, L2.defBody sFieldEnd, L2.defScope sFieldEnd, [], []⟩
def dLawWell : He.DefD := ⟨("_law_well", none), "_law_well", "_law_well", L2.defArgs sLawWell, L2.defBody sLawWell, L2.defScope sLawWell, [], []⟩
def dLawDraw : He.DefD := ⟨("_law_draw", none), "_law_draw", "_law_draw", L2.defArgs sLawDraw, L2.defBody sLawDraw, L2.defScope sLawDraw, [], []⟩
def dLawOne : He.DefD := ⟨("_law_one", none), "_law_one", "_law_one", L2.defArgs sLawOne, L2.defBody sLawOne, L2.defScope sLawOne, [], []⟩
def dLawName : He.DefD := ⟨("_law_name", none), "_law_name", "_law_name", L2.defArgs sLawName, L2.defBody sLawName, L2.defScope sLawName, [], []⟩
def dLawClassName : He.DefD := ⟨("_law_class_name", none), "_law_class_name", "_law_class_name", L2.defArgs sLawClassName, L2.defBody sLawClassName, L2.defScope sLawClassName, [], []⟩
def dLawDescriptor : He.DefD := ⟨("_law_descriptor", none), "_law_descriptor", "_law_descriptor", L2.defArgs sLawDescriptor, L2.defBody sLawDescriptor, L2.defScope sLawDescriptor, [], []⟩
def dLawChanged : He.DefD := ⟨("_law_changed", none), "_law_changed", "_law_changed", L2.defArgs sLawChanged, L2.defBody sLawChanged, L2.defScope sLawChanged, [], []⟩
def dLawIsName : He.DefD := ⟨("_law_is_name", none), "_law_is_name", "_law_is_name", L2.defArgs sLawIsName, L2.defBody sLawIsName, L2.defScope sLawIsName, [], []⟩
def dLawIsClassName : He.DefD := ⟨("_law_is_class_name", none), "_law_is_class_name", "_law_is_class_name", L2.defArgs sLawIsClassName, L2.defBody sLawIsClassName, L2.defScope sLawIsClassName, [], []⟩
def dLawFieldEnd : He.DefD := ⟨("_law_field_end", none), "_law_field_end", "_law_field_end", L2.defArgs sLawFieldEnd, L2.defBody sLawFieldEnd, L2.defScope sLawFieldEnd, [], []⟩
def dLawParts : He.DefD := ⟨("_law_parts", none), "_law_parts", "_law_parts", L2.defArgs sLawParts, L2.defBody sLawParts, L2.defScope sLawParts, [], []⟩
def dLawTold : He.DefD := ⟨("_law_told", none), "_law_told", "_law_told", L2.defArgs sLawTold, L2.defBody sLawTold, L2.defScope sLawTold, [], []⟩
def dLawManyRight : He.DefD := ⟨("_law_many_right", none), "_law_many_right", "_law_many_right", L2.defArgs sLawManyRight, L2.defBody sLawManyRight, L2.defScope sLawManyRight, [], []⟩
def dLaw : He.DefD := ⟨("law", none), "law", "law", L2.defArgs sLaw, L2.defBody sLaw, L2.defScope sLaw, [], []⟩
def fnL : List He.DefD := [dIsName, dIsNameSign, dIsClassName, dIsFieldDescriptor, dPlacesOf, dParameters, dResult, dMethodParts, dFieldEnd, dLawWell, dLawDraw, dLawOne, dLawName, dLawClassName, dLawDescriptor, dLawChanged, dLawIsName, dLawIsClassName, dLawFieldEnd, dLawParts, dLawTold, dLawManyRight, dLaw]
def faL : List He.Fa := [.glo "is_name", .glo "_is_name_sign", .glo "is_class_name", .glo "is_field_descriptor", .glo "places_of", .glo "parameters", .glo "result", .glo "_method_parts", .glo "_field_end", .glo "_law_well", .glo "_law_draw", .glo "_law_one", .glo "_law_name", .glo "_law_class_name", .glo "_law_descriptor", .glo "_law_changed", .glo "_law_is_name", .glo "_law_is_class_name", .glo "_law_field_end", .glo "_law_parts", .glo "_law_told", .glo "_law_many_right", .glo "law", .free "isinstance", .free "str", .free "len", .free "all", .free "sum", .free "int", .free "range", .int "LONGEST_NAME" 30, .int "LONGEST_CLASS_NAME" 60, .int "MOST_BRACKETS" 5, .int "MOST_PARAMETER_PLACES" 254, .glo "LETTERS", .glo "NoDescriptor", .exc "NoDescriptor", .exm "NoDescriptor" "NoDescriptor" true]
def exL (K : PySem.W.Frag) : Bool := He.tupB K "LETTERS" [.str "Z", .str "B", .str "S", .str "C", .str "I", .str "J"]
abbrev R : PySem.W.OpenRow := PySem.W.OpenLaw.row PySem.Challenge.rw_typegate_k01_names_and_descriptors
abbrev hk : PySem.W.Hook := He.hookX 5 faL fnL [] [] exL
def ob (s : PySem.W.SharedT) : He.AlX := He.obsX 5 faL fnL [] [] exL (HandSHeadRun.getT s)
theorem ob_eq (s : PySem.W.SharedT) : ob s = hk.obs s.abs := He.obsX_eq (HandSHeadRun.getT_eq s)
theorem run (w : World) : HandSHeadRun.RunEq R (PySem.W.view R.prog [32]) hk ob 3000 ["TypegateError", "NoDescriptor", "LONGEST_NAME", "LONGEST_CLASS_NAME", "MOST_BRACKETS", "MOST_PARAMETER_PLACES", "LETTERS", "is_name", "_is_name_sign", "is_class_name", "is_field_descriptor", "places_of", "parameters", "result", "_method_parts", "_field_end", "_law_well", "_law_draw", "_law_one", "_law_name", "_law_class_name", "_law_descriptor", "_law_changed", "_law_is_name", "_law_is_class_name", "_law_field_end", "_law_parts", "_law_told", "_law_many_right"] w := by
  intro os
  kernel_rfl
theorem facts {P : Program} {w : World} {K : PySem.W.Frag} {h : Heap} {mg : Str → Option Value} {f : Addr} (X : K.In h) (G : h.Ns mainGlobals mg) (hfa : mg ("law" : Str) = some (.ref f)) (c : He.SaysD faL fnL K) (cL : exL K = true) :
    ∃ fd : FuncData, (∀ (s : Shared) (v : Value), BindsTo s fd ⟨[v], []⟩ [("script", v)]) ∧ ∀ base : Heap, K.In base → base.Ns mainGlobals mg → FnOk P w K mg base L2.CX0 10 f fd ["script"] (spLaw K) := by
  obtain ⟨fd0, F0⟩ := c.def_ 0 (d := dIsName) rfl
  obtain ⟨fd1, F1⟩ := c.def_ 1 (d := dIsNameSign) rfl
  obtain ⟨fd2, F2⟩ := c.def_ 2 (d := dIsClassName) rfl
  obtain ⟨fd3, F3⟩ := c.def_ 3 (d := dIsFieldDescriptor) rfl
  obtain ⟨fd4, F4⟩ := c.def_ 4 (d := dPlacesOf) rfl
  obtain ⟨fd5, F5⟩ := c.def_ 5 (d := dParameters) rfl
  obtain ⟨fd6, F6⟩ := c.def_ 6 (d := dResult) rfl
  obtain ⟨fd7, F7⟩ := c.def_ 7 (d := dMethodParts) rfl
  obtain ⟨fd8, F8⟩ := c.def_ 8 (d := dFieldEnd) rfl
  obtain ⟨fd9, F9⟩ := c.def_ 9 (d := dLawWell) rfl
  obtain ⟨fd10, F10⟩ := c.def_ 10 (d := dLawDraw) rfl
  obtain ⟨fd11, F11⟩ := c.def_ 11 (d := dLawOne) rfl
  obtain ⟨fd12, F12⟩ := c.def_ 12 (d := dLawName) rfl
  obtain ⟨fd13, F13⟩ := c.def_ 13 (d := dLawClassName) rfl
  obtain ⟨fd14, F14⟩ := c.def_ 14 (d := dLawDescriptor) rfl
  obtain ⟨fd15, F15⟩ := c.def_ 15 (d := dLawChanged) rfl
  obtain ⟨fd16, F16⟩ := c.def_ 16 (d := dLawIsName) rfl
  obtain ⟨fd17, F17⟩ := c.def_ 17 (d := dLawIsClassName) rfl
  obtain ⟨fd18, F18⟩ := c.def_ 18 (d := dLawFieldEnd) rfl
  obtain ⟨fd19, F19⟩ := c.def_ 19 (d := dLawParts) rfl
  obtain ⟨fd20, F20⟩ := c.def_ 20 (d := dLawTold) rfl
  obtain ⟨fd21, F21⟩ := c.def_ 21 (d := dLawManyRight) rfl
  obtain ⟨fd22, F22⟩ := c.def_ 22 (d := dLaw) rfl
  have B : Bt mg := ⟨He.free_ok X G (c.fact 23 (f := .free "isinstance") rfl), He.free_ok X G (c.fact 24 (f := .free "str") rfl), He.free_ok X G (c.fact 25 (f := .free "len") rfl), He.free_ok X G (c.fact 26 (f := .free "all") rfl), He.free_ok X G (c.fact 27 (f := .free "sum") rfl), He.free_ok X G (c.fact 28 (f := .free "int") rfl), He.free_ok X G (c.fact 29 (f := .free "range") rfl)⟩
  have g0 : ∃ t, mg "LONGEST_NAME" = some (.int 30 t) := He.int_ok X G (c.fact 30 (f := .int "LONGEST_NAME" 30) rfl)
  have g1 : ∃ t, mg "LONGEST_CLASS_NAME" = some (.int 60 t) := He.int_ok X G (c.fact 31 (f := .int "LONGEST_CLASS_NAME" 60) rfl)
  have g2 : ∃ t, mg "MOST_BRACKETS" = some (.int 5 t) := He.int_ok X G (c.fact 32 (f := .int "MOST_BRACKETS" 5) rfl)
  have g3 : ∃ t, mg "MOST_PARAMETER_PLACES" = some (.int 254 t) := He.int_ok X G (c.fact 33 (f := .int "MOST_PARAMETER_PLACES" 254) rfl)
  have gL : Letters K mg := ⟨He.ga K "LETTERS", He.glo_ok X G (c.fact 34 (f := .glo "LETTERS") rfl), fun H => by
    have e := He.tupB_ok (x := "LETTERS") cL H
    have e2 : ([.str "Z", .str "B", .str "S", .str "C", .str "I", .str "J"] : List He.Dv).map (He.Dv.v K) = letters.map fun c => V.str (SX.S [c]) := by
      show [V.str "Z", V.str "B", V.str "S", V.str "C", V.str "I", V.str "J"] = _
      decide +kernel
    rw [e2] at e
    exact e⟩
  obtain ⟨n1, n2, n3, n4⟩ := He.exc_ok (c.fact 36 (f := .exc "NoDescriptor") rfl)
  have ND : NoD K mg (He.ga K "NoDescriptor") := ⟨He.glo_ok X G (c.fact 35 (f := .glo "NoDescriptor") rfl), n1, n2, n3, n4, He.exm_ok (c.fact 37 (f := .exm "NoDescriptor" "NoDescriptor" true) rfl)⟩
  have b0 : Binds K fd0 ["thing"] [] := F0.bindsN fun _ _ _ _ _ _ us hl => match us, hl with | [_], _ => rfl
  have b1 : Binds K fd1 ["sign"] [] := F1.bindsN fun _ _ _ _ _ _ us hl => match us, hl with | [_], _ => rfl
  have b2 : Binds K fd2 ["thing"] [] := F2.bindsN fun _ _ _ _ _ _ us hl => match us, hl with | [_], _ => rfl
  have b3 : Binds K fd3 ["thing"] [] := F3.bindsN fun _ _ _ _ _ _ us hl => match us, hl with | [_], _ => rfl
  have b4 : Binds K fd4 ["descriptors"] [] := F4.bindsN fun _ _ _ _ _ _ us hl => match us, hl with | [_], _ => rfl
  have b5 : Binds K fd5 ["descriptor"] [] := F5.bindsN fun _ _ _ _ _ _ us hl => match us, hl with | [_], _ => rfl
  have b6 : Binds K fd6 ["descriptor"] [] := F6.bindsN fun _ _ _ _ _ _ us hl => match us, hl with | [_], _ => rfl
  have b7 : Binds K fd7 ["thing"] [] := F7.bindsN fun _ _ _ _ _ _ us hl => match us, hl with | [_], _ => rfl
  have b8 : Binds K fd8 ["text", "begin"] [] := F8.bindsN fun _ _ _ _ _ _ us hl => match us, hl with | [_, _], _ => rfl
  have b9 : Binds K fd9 ["cell"] [] := F9.bindsN fun _ _ _ _ _ _ us hl => match us, hl with | [_], _ => rfl
  have b10 : Binds K fd10 ["well", "many"] [] := F10.bindsN fun _ _ _ _ _ _ us hl => match us, hl with | [_, _], _ => rfl
  have b11 : Binds K fd11 ["well", "some"] [] := F11.bindsN fun _ _ _ _ _ _ us hl => match us, hl with | [_, _], _ => rfl
  have b12 : Binds K fd12 ["well", "many"] [] := F12.bindsN fun _ _ _ _ _ _ us hl => match us, hl with | [_, _], _ => rfl
  have b13 : Binds K fd13 ["well"] [] := F13.bindsN fun _ _ _ _ _ _ us hl => match us, hl with | [_], _ => rfl
  have b14 : Binds K fd14 ["well"] [] := F14.bindsN fun _ _ _ _ _ _ us hl => match us, hl with | [_], _ => rfl
  have b15 : Binds K fd15 ["well", "text"] [] := F15.bindsN fun _ _ _ _ _ _ us hl => match us, hl with | [_, _], _ => rfl
  have b16 : Binds K fd16 ["thing"] [] := F16.bindsN fun _ _ _ _ _ _ us hl => match us, hl with | [_], _ => rfl
  have b17 : Binds K fd17 ["thing"] [] := F17.bindsN fun _ _ _ _ _ _ us hl => match us, hl with | [_], _ => rfl
  have b18 : Binds K fd18 ["text", "at"] [] := F18.bindsN fun _ _ _ _ _ _ us hl => match us, hl with | [_, _], _ => rfl
  have b19 : Binds K fd19 ["text"] [] := F19.bindsN fun _ _ _ _ _ _ us hl => match us, hl with | [_], _ => rfl
  have b20 : Binds K fd20 ["text"] [] := F20.bindsN fun _ _ _ _ _ _ us hl => match us, hl with | [_], _ => rfl
  have b21 : Binds K fd21 ["well"] [] := F21.bindsN fun _ _ _ _ _ _ us hl => match us, hl with | [_], _ => rfl
  have e := hfa.symm.trans (He.glo_ok X G (c.fact 22 (f := .glo "law") rfl))
  cases e
  have b := FunD.bindsA (ps := ["script"]) F22 fun _ _ _ _ _ _ us hl => match us, hl with | [_], _ => rfl
  refine ⟨fd22, fun s v => b s [v] rfl, fun base _ _ => ?_⟩
  have c__is_name_sign : Cl P w K mg base L2.CX0 1 "_is_name_sign" ["sign"] spSign := ⟨_, fd1, ok_sign F1 , He.glo_ok X G (c.fact 1 (f := .glo "_is_name_sign") rfl), F1.kp, b1⟩
  have c_is_name : Cl P w K mg base L2.CX0 2 "is_name" ["thing"] (spName K isNameL) := ⟨_, fd0, ok_isName F0 B c__is_name_sign g0, He.glo_ok X G (c.fact 0 (f := .glo "is_name") rfl), F0.kp, b0⟩
  have c_is_class_name : Cl P w K mg base L2.CX0 3 "is_class_name" ["thing"] (spName K isClassL) := ⟨_, fd2, ok_isClass F2 B c_is_name g1, He.glo_ok X G (c.fact 2 (f := .glo "is_class_name") rfl), F2.kp, b2⟩
  have c__field_end : Cl P w K mg base L2.CX0 4 "_field_end" ["text", "begin"] spFieldEnd := ⟨_, fd8, ok_fieldEnd F8 B c_is_class_name g2 gL, He.glo_ok X G (c.fact 8 (f := .glo "_field_end") rfl), F8.kp, b8⟩
  have c_is_field_descriptor : Cl P w K mg base L2.CX0 5 "is_field_descriptor" ["thing"] (spName K isFieldL) := ⟨_, fd3, ok_isField F3 B c__field_end, He.glo_ok X G (c.fact 3 (f := .glo "is_field_descriptor") rfl), F3.kp, b3⟩
  have c_places_of : Cl P w K mg base L2.CX0 1 "places_of" ["descriptors"] (spPlaces K) := ⟨_, fd4, ok_places F4 B, He.glo_ok X G (c.fact 4 (f := .glo "places_of") rfl), F4.kp, b4⟩
  have c__method_parts : Cl P w K mg base L2.CX0 6 "_method_parts" ["thing"] (spParts K) := ⟨_, fd7, ok_parts F7 B c__field_end c_is_field_descriptor c_places_of g3, He.glo_ok X G (c.fact 7 (f := .glo "_method_parts") rfl), F7.kp, b7⟩
  have c_parameters : Cl P w K mg base (L2.CX P w) 7 "parameters" ["descriptor"] (spParams K (He.ga K "NoDescriptor")) := ⟨_, fd5, ok_params F5 B ND c__method_parts, He.glo_ok X G (c.fact 5 (f := .glo "parameters") rfl), F5.kp, b5⟩
  have c_result : Cl P w K mg base (L2.CX P w) 7 "result" ["descriptor"] (spResult K (He.ga K "NoDescriptor")) := ⟨_, fd6, ok_result F6 B ND c__method_parts, He.glo_ok X G (c.fact 6 (f := .glo "result") rfl), F6.kp, b6⟩
  have c__law_well : Cl P w K mg base L2.CX0 1 "_law_well" ["cell"] spWell := ⟨_, fd9, ok_lawWell F9 B, He.glo_ok X G (c.fact 9 (f := .glo "_law_well") rfl), F9.kp, b9⟩
  have c__law_draw : Cl P w K mg base L2.CX0 1 "_law_draw" ["well", "many"] spDraw := ⟨_, fd10, ok_lawDraw F10 B, He.glo_ok X G (c.fact 10 (f := .glo "_law_draw") rfl), F10.kp, b10⟩
  have c__law_one : Cl P w K mg base L2.CX0 2 "_law_one" ["well", "some"] spOne := ⟨_, fd11, ok_lawOne F11 B c__law_draw, He.glo_ok X G (c.fact 11 (f := .glo "_law_one") rfl), F11.kp, b11⟩
  have c__law_name : Cl P w K mg base L2.CX0 2 "_law_name" ["well", "many"] spLName := ⟨_, fd12, ok_lawName F12 B c__law_draw, He.glo_ok X G (c.fact 12 (f := .glo "_law_name") rfl), F12.kp, b12⟩
  have c__law_class_name : Cl P w K mg base L2.CX0 3 "_law_class_name" ["well"] spLCls := ⟨_, fd13, ok_lawClassName F13 B c__law_draw c__law_name, He.glo_ok X G (c.fact 13 (f := .glo "_law_class_name") rfl), F13.kp, b13⟩
  have c__law_descriptor : Cl P w K mg base L2.CX0 4 "_law_descriptor" ["well"] spDesc := ⟨_, fd14, ok_lawDescriptor F14 B c__law_draw c__law_one c__law_class_name, He.glo_ok X G (c.fact 14 (f := .glo "_law_descriptor") rfl), F14.kp, b14⟩
  have c__law_changed : Cl P w K mg base L2.CX0 3 "_law_changed" ["well", "text"] spChanged := ⟨_, fd15, ok_lawChanged F15 B c__law_draw c__law_one, He.glo_ok X G (c.fact 15 (f := .glo "_law_changed") rfl), F15.kp, b15⟩
  have c__law_is_name : Cl P w K mg base L2.CX0 1 "_law_is_name" ["thing"] (spNameA K isNameL) := ⟨_, fd16, ok_lawIsName F16 B, He.glo_ok X G (c.fact 16 (f := .glo "_law_is_name") rfl), F16.kp, b16⟩
  have c__law_is_class_name : Cl P w K mg base L2.CX0 2 "_law_is_class_name" ["thing"] (spNameA K isClassL) := ⟨_, fd17, ok_lawIsClass F17 B c__law_is_name, He.glo_ok X G (c.fact 17 (f := .glo "_law_is_class_name") rfl), F17.kp, b17⟩
  have c__law_field_end : Cl P w K mg base L2.CX0 3 "_law_field_end" ["text", "at"] spLawFieldEnd := ⟨_, fd18, ok_lawFieldEnd F18 B c__law_is_class_name, He.glo_ok X G (c.fact 18 (f := .glo "_law_field_end") rfl), F18.kp, b18⟩
  have c__law_parts : Cl P w K mg base L2.CX0 4 "_law_parts" ["text"] (spPair K) := ⟨_, fd19, ok_lawParts F19 B c__law_field_end, He.glo_ok X G (c.fact 19 (f := .glo "_law_parts") rfl), F19.kp, b19⟩
  have c__law_told : Cl P w K mg base L2.CX0 8 "_law_told" ["text"] (spPair K) := ⟨_, fd20, ok_lawTold F20 B ND c_parameters c_result, He.glo_ok X G (c.fact 20 (f := .glo "_law_told") rfl), F20.kp, b20⟩
  have c__law_many_right : Cl P w K mg base L2.CX0 9 "_law_many_right" ["well"] spMany := ⟨_, fd21, ok_lawMany F21 B c__law_draw c__law_told, He.glo_ok X G (c.fact 21 (f := .glo "_law_many_right") rfl), F21.kp, b21⟩
  exact ok_law F22 B c__law_well c__law_draw c__law_one c__law_name c__law_class_name c__law_descriptor c__law_changed c__law_told c__law_parts c__law_many_right c_is_name c_is_class_name c__law_is_name c__law_is_class_name
end N1
open PySem PySem.W PySem.Calls PyProof.Rows
theorem PySem.Challenge.cw_typegate_k01_names_and_descriptors_holds : PySem.Challenge.rw_typegate_k01_names_and_descriptors.Holds := by
  w_on; o_law
  refine HandSHeadRun.head_any (r := OpenLaw.row PySem.Challenge.rw_typegate_k01_names_and_descriptors) (q := view (OpenLaw.row PySem.Challenge.rw_typegate_k01_names_and_descriptors).prog [32]) (H := N1.hk) (ob := N1.ob) (M := 3000) (loose := ["TypegateError", "NoDescriptor", "LONGEST_NAME", "LONGEST_CLASS_NAME", "MOST_BRACKETS", "MOST_PARAMETER_PLACES", "LETTERS", "is_name", "_is_name_sign", "is_class_name", "is_field_descriptor", "places_of", "parameters", "result", "_method_parts", "_field_end", "_law_well", "_law_draw", "_law_one", "_law_name", "_law_class_name", "_law_descriptor", "_law_changed", "_law_is_name", "_law_is_class_name", "_law_field_end", "_law_parts", "_law_told", "_law_many_right"]) (d := HandSHeadRun.topDef (OpenLaw.row PySem.Challenge.rw_typegate_k01_names_and_descriptors).prog 32) (kwd := []) N1.ob_eq
    (by kernel_rfl) (fun s => by kernel_rfl) N1.run (by kernel_rfl) (by kernel_rfl) (by kernel_rfl) (by rfl) (by first | assumption | decide +kernel) (by decide +kernel) ⟨rfl, rfl, rfl, rfl, rfl, by decide +kernel⟩ ?hw ?hc
  case hw => w_witness2
  case hc =>
    refine L2.walk_ofE (l := PySem.Challenge.rw_typegate_k01_names_and_descriptors) (n := 63) (k := 10) (x := "script") (CX := L2.CX0) rfl (by decide) (by kernel_rfl) ⟨rfl, by decide, by decide⟩ ?F (fun _ _ _ _ z => z)
    intro w mg fa h Y G hmg0
    obtain ⟨K, KX, c⟩ := Y
    have hmg : mg ("law" : PySem.Str) = some (.ref fa) := by
      have e : (HandSHeadRun.topDef (OpenLaw.row PySem.Challenge.rw_typegate_k01_names_and_descriptors).prog 32).name = ("law" : PySem.Str) := by kernel_rfl
      rw [← e]
      exact hmg0
    obtain ⟨fd, hb, hF⟩ := N1.facts (P := (PySem.Challenge.rw_typegate_k01_names_and_descriptors).prog) (w := w) KX G hmg c.t.d c.more
    exact ⟨K, fd, N1.spLaw K, KX, hb, fun H a ns hl _ hS => ⟨a, ns, rfl, hS, hl, fun _ => rfl⟩, hF⟩
