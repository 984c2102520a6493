import PyProof.Rows.All
import Wide.All
import OpenK.AllK
import Wide.FinOn
import HandS.ForMost
import HandS.ForExc
import HandS.Lambda
import KE.KDflt
import HandS.TryMany
import HandS.TryOnly
import HandS.ExcIs
import HandS.IsInst
import HandS.StrMore
import HandS.Walk
import HandS.Codes
import HandS.Wide
import HandS.WideBits
import HandS.Small
import HandS.Defaults
import HandS.HeadHook2
import HandS.Head2
import HandS.HeadEnd
import HandS.Evl
import HandS.CallLocal
import HandS.DictComp
import HandS.HeadHook4
import HandS.HeadWalk
import PySem.Challenge.RW_typegate_k40_texts_as_bytes
set_option Elab.async false
set_option linter.all false
set_option maxRecDepth 100000
set_option autoImplicit false
set_option maxHeartbeats 4000000
/-! Lambdas as values: made, with a default or without, kept, called later. -/
namespace LD
open PySem PySem.Spec PyProof.Rows L2 LamX
/-- what stands at f is this object -/
def Just (f : Addr) (o : Obj) : HO := .ext fun h => h.get? f = some o
theorem just_ok {P : Program} {w : World} {H : Hp} {h : Heap} {f : Addr} {o : Obj} (e : h.get? f = some o) : ObjOk P w H h f (Just f o) := ⟨e, ⟨o, e⟩, fun _ _ p st => st o p⟩
theorem just_tbl {f : Addr} {o : Obj} (ps : Array Value) : Just f o ≠ .tbl ps := fun z => by
  unfold Just at z
  cases z
abbrev lamO (q : Str) (params : Arguments) (body : Expr) (scope : Scope) (cl : List (Str × Addr)) (dV doc pm : Value) (c' : Addr) (ctv : Value) : Obj := PySem.W.kdv_obj "<lambda>" q params (.expr body) scope cl dV doc pm c' ctv
def DfO (H : Hp) (dV : Value) (dvs : List V) : Prop := (dvs = [] ∧ dV = .none) ∨ ∃ (t : Addr) (x : V) (u : Value), dvs = [x] ∧ dV = .ref t ∧ H t = some (Just t { cls := .type "tuple", data := .seq [u].toArray }) ∧ RelV x u
/-- f is a lambda that was made in this frame -/
def Made (H : Hp) (q : Str) (cells : List (Str × Addr)) (params : Arguments) (body : Expr) (scope : Scope) (dvs : List V) (f : Addr) : Prop :=
  ∃ dV doc pm c' ctv, H f = some (Just f (lamO q params body scope (cloFrom cells scope.names []) dV doc pm c' ctv)) ∧ H c' = some (CodeO c' q) ∧ DfO H dV dvs
theorem DfO.ext {H H' : Hp} {dV : Value} {dvs : List V} (h : DfO H dV dvs) (e : ExtN H H') : DfO H' dV dvs := by
  rcases h with h | ⟨t, x, u, z, a, b, c⟩
  · exact .inl h
  · exact .inr ⟨t, x, u, z, a, e t _ b just_tbl, c⟩
theorem Made.ext {H H' : Hp} {q : Str} {cells : List (Str × Addr)} {params : Arguments} {body : Expr} {scope : Scope} {dvs : List V} {f : Addr} (h : Made H q cells params body scope dvs f) (e : ExtN H H') : Made H' q cells params body scope dvs f := by
  obtain ⟨dV, doc, pm, c', ctv, a, b, d⟩ := h
  exact ⟨dV, doc, pm, c', ctv, e _ _ a just_tbl, e _ _ b codeO_ne, d.ext e⟩
section
variable {X : Cx} {pins : List (Addr × Obj)} {σ : L2.St} {H : Hp} {s : Shared}
theorem lam_tail {T : List (Addr × Str)} {c P : Addr} {params : Arguments} {body : Expr} {scope : Scope} {pos : Pos} {dV : Value} {E : Value → Shared → Prop} {Q : Value → Shared → Prop} (I : Inv X pins σ H s) (TB : TabB X.base X.mg c P) (hcode : X.env.code = .ref c)
    (hm : (P, X.env.qual ++ "<lambda>") ∈ T) (hu : ∀ p ∈ T, p.1 = P → p.2 = X.env.qual ++ "<lambda>") (hT : Tabs T H) (hfree : ∀ y ∈ scope.names, y.2 = .free → ∃ c, X.env.cells.lookup y.1 = some c)
    (h : ∀ (f c' : Addr) (doc pm ctv : Value) (H1 : Hp) (s' : Shared), Inv X pins σ H1 s' → ExtN H H1 → Tabs T H1 →
      H1 f = some (Just f (lamO (X.env.qual ++ "<lambda>") params body scope (cloFrom X.env.cells scope.names []) dV doc pm c' ctv)) → H1 c' = some (CodeO c' (X.env.qual ++ "<lambda>")) → Q (.ref f) s') :
    wpAny (model X.prog X.w) X.A (makeTail "<lambda>" (X.env.qual ++ "<lambda>") params (.expr body) scope X.env dV .none none pos pos.line) Q E s := by
  obtain ⟨ps, hP, ht, ha⟩ := hT _ hm
  have bP : s.heap.BuiltinsAt X.mg P := TB.bm.keeps I.bk
  have hP' : s.heap.get? P = some { cls := .none, data := .fields ps } := I.hok P _ hP
  have lay : ∀ {s1 : Shared} {H1 : Hp} {tk : Nat} {o : Obj}, o.isFreed = false → Inv X pins σ H1 s1 → H1 s1.heap.objs.size = none ∧ Inv X pins σ (upd H1 s1.heap.objs.size (Just s1.heap.objs.size o)) { s1 with heap := s1.heap.push o, toks := tk } := fun {s1 H1 tk o} fr I1 =>
    ⟨I1.hok.fresh (Nat.le_refl _), I1.laid (fun b u e => Heap.get?_push_of_some _ e) (Nat.le_refl _) (just_ok (Heap.get?_push_size _ fr))⟩
  have up : ∀ {H1 : Hp} {a : Addr} {o : HO}, H1 a = none → ∀ b u, H1 b = some u → upd H1 a o b = some u := fun {H1 a o} n b u e => by
    rw [upd_ne (ne_of_none e n)]
    exact e
  cases hc : codeAmong pos ps.toList with
  | none =>
    refine PySem.W.kdv_makeTail (mg := X.mg) (c := c) (P := P) (ps := ps) (closure_ok hfree) I.ok.glob (I.mod.glob.keeps I.bk) hcode (TB.code.keeps I.bk) hP' ht hc TB.gP bP fun c' ctv doc h' tk hx hge hlt hrec htb => ?_
    obtain ⟨c2, oc, vs, t, e2, hoc, hd, hv⟩ := hrec
    cases e2
    have nC : H c' = none := I.hok.fresh hge
    have I1 := inv_table (t' := tk) (more := #[rawInt pos.line, rawInt pos.col, .ref c']) (h' := h') I hP (fun b o hb e => hx b o hb e) htb hge ⟨oc, vs, t, hoc, hd, hv⟩
    have hE : ExtN H (upd (upd H P (.tbl (ps ++ #[rawInt pos.line, rawInt pos.col, .ref c']))) c' (CodeO c' (X.env.qual ++ "<lambda>"))) := fun b o e n => by
      rw [upd_ne (ne_of_none e nC), upd_ne (fun z => n ps (Option.some.inj (e.symm.trans (by rw [z]; exact hP))))]
      exact e
    have eL : (ps ++ #[rawInt pos.line, rawInt pos.col, .ref c']).toList = ps.toList ++ [rawInt pos.line, rawInt pos.col, .ref c'] := by simp
    have T1 : Tabs T (upd (upd H P (.tbl (ps ++ #[rawInt pos.line, rawInt pos.col, .ref c']))) c' (CodeO c' (X.env.qual ++ "<lambda>"))) := fun p hp => by
      by_cases hb : p.1 = P
      · rw [hu p hp hb, hb]
        refine ⟨_, by rw [upd_ne (ne_of_none hP nC), upd_same], by rw [eL]; exact PySem.TriplesOk_snoc _ _ _ _ ht, fun p' cv hcv => ?_⟩
        rw [eL] at hcv
        rcases among_app _ ht hcv with z | z
        · obtain ⟨c0, e1, e2⟩ := ha p' cv z
          exact ⟨c0, e1, hE _ _ e2 codeO_ne⟩
        · exact ⟨c', z, upd_same⟩
      · obtain ⟨ps', a1, a2, a3⟩ := hT p hp
        refine ⟨ps', by rw [upd_ne (ne_of_none a1 nC), upd_ne hb]; exact a1, a2, fun p' cv hcv => ?_⟩
        obtain ⟨c0, e1, e2⟩ := a3 p' cv hcv
        exact ⟨c0, e1, hE _ _ e2 codeO_ne⟩
    have L1 := lay (tk := tk) (o := lamO (X.env.qual ++ "<lambda>") params body scope (cloFrom X.env.cells scope.names []) dV doc ((X.mg "__name__").getD .none) c' ctv) rfl I1
    exact h _ c' doc ((X.mg "__name__").getD .none) ctv _ _ L1.2 (hE.trans (.of (up L1.1))) (T1.ext (up L1.1)) upd_same (up L1.1 _ _ upd_same)
  | some cv =>
    obtain ⟨c', e, hco⟩ := ha pos cv hc
    subst e
    refine PySem.W.kdv_makeTailHit (mg := X.mg) (c := c) (P := P) (ps := ps) (closure_ok hfree) I.ok.glob (I.mod.glob.keeps I.bk) hcode (TB.code.keeps I.bk) hP' ht hc bP fun ctv doc h' tk hx hsz => ?_
    have I1 : Inv X pins σ H { s with heap := h', toks := tk } := I.kept hx
    have L1 := lay (tk := tk) (o := lamO (X.env.qual ++ "<lambda>") params body scope (cloFrom X.env.cells scope.names []) dV doc ((X.mg "__name__").getD .none) c' ctv) rfl I1
    exact h _ c' doc ((X.mg "__name__").getD .none) ctv _ _ L1.2 (.of (up L1.1)) (hT.ext (up L1.1)) upd_same (up L1.1 _ _ hco)
/-- a lambda without parameters, or with one that has a default -/
def Dfl (X : Cx) (params : Arguments) (dvs : List V) : Prop := (dvs = [] ∧ defaultsOf params X.env = ([], [])) ∨ ∃ (e : Expr) (x : V), dvs = [x] ∧ defaultsOf params X.env = ([eval e X.env], []) ∧ PE X e (fun _ H Q => Q x H)
theorem lam_make3 {T : List (Addr × Str)} {c P : Addr} {params : Arguments} {body : Expr} {scope : Scope} {pos : Pos} {dvs : List V} {Q : Value → Shared → Prop} (I : Inv X pins σ H s) (TB : TabB X.base X.mg c P) (hcode : X.env.code = .ref c)
    (hm : (P, X.env.qual ++ "<lambda>") ∈ T) (hu : ∀ p ∈ T, p.1 = P → p.2 = X.env.qual ++ "<lambda>") (hT : Tabs T H) (hfree : ∀ y ∈ scope.names, y.2 = .free → ∃ c, X.env.cells.lookup y.1 = some c) (hd : Dfl X params dvs)
    (h : ∀ (f : Addr) (H1 : Hp) (s' : Shared), Inv X pins σ H1 s' → ExtN H H1 → Tabs T H1 → Made H1 (X.env.qual ++ "<lambda>") X.env.cells params body scope dvs f → Q (.ref f) s') :
    wpAny (model X.prog X.w) X.A (eval (.Lambda params body scope pos) X.env) Q X.xe s := by
  rcases hd with ⟨rfl, hd⟩ | ⟨e, x, rfl, hd, pe⟩
  · refine PySem.W.kla_eval hd ?_
    rw [makeFunction_eq]
    simp only [List.zip_nil_right, List.filterMap_nil, List.isEmpty_nil, if_true, pure_bind]
    exact lam_tail I TB hcode hm hu hT hfree fun f c' doc pm ctv H1 s' I1 e1 t1 hf hc => h f H1 s' I1 e1 t1 ⟨_, doc, pm, c', ctv, hf, hc, .inl ⟨rfl, rfl⟩⟩
  · rw [arm_eval_Lambda, hd]
    show wpAny _ X.A (do let dv ← evalAll [eval e X.env]; let kdv ← holding dv (evalAllOpt []); makeFunction "<lambda>" (X.env.qual ++ "<lambda>") params (.expr body) scope X.env dv kdv [] pos pos.line) Q X.xe s
    unfold evalAll
    refine wpAny_bind (wpAny_bind (thn (pe.run pins s σ H (fun v H1 => v = x ∧ H1 = H) I ⟨rfl, rfl⟩) fun u s1 hq => ?_))
    obtain ⟨v, H1, I1, r1, rfl, rfl⟩ := hq
    refine wpAny_bind (wpAny_holding ?_)
    unfold evalAll
    refine wpAny_pure (wpAny_pure (wpAny_bind (wpAny_holding ?_)))
    unfold evalAllOpt
    refine wpAny_pure ?_
    rw [makeFunction_eq]
    simp only [List.zip_nil_right, List.filterMap_nil, List.isEmpty_nil, List.isEmpty_cons, if_true, pure_bind, Bool.false_eq_true, if_false]
    refine wpAny_bind (wpAny_newTextTuple ?_)
    have n1 : H1 s1.heap.objs.size = none := I1.hok.fresh (Nat.le_refl _)
    have I2 := I1.laid (t' := s1.toks) (a := s1.heap.objs.size) (o := Just s1.heap.objs.size { cls := .type "tuple", data := .seq [u].toArray }) (h' := s1.heap.push { cls := .type "tuple", data := .seq [u].toArray }) (fun b o e => Heap.get?_push_of_some _ e) (Nat.le_refl _) (just_ok (Heap.get?_push_size _ rfl))
    have up : ∀ b o, H1 b = some o → upd H1 s1.heap.objs.size (Just s1.heap.objs.size { cls := .type "tuple", data := .seq [u].toArray }) b = some o := fun b o e => by
      rw [upd_ne (ne_of_none e n1)]
      exact e
    exact lam_tail I2 TB hcode hm hu (hT.ext up) hfree fun f c' doc pm ctv H2 s' I3 e3 t3 hf hc => h f H2 s' I3 ((ExtN.of up).trans e3) t3 ⟨_, doc, pm, c', ctv, hf, hc, .inr ⟨s1.heap.objs.size, _, u, rfl, rfl, e3 _ _ upd_same just_tbl, r1⟩⟩
end
end LD

set_option maxHeartbeats 4000000
namespace LD
open PySem PySem.Spec PyProof.Rows L2 LamX
/-- the names of a lambda: its parameters, which nobody else has, captured ones, globals -/
structure LamN (N : List Str) (sc scope : Scope) (ps : List Str) : Prop where
  kind : scope.kind = .function
  co : scope.isCoroutine = false
  gen : scope.isGenerator = false
  cell : ∀ y ∈ scope.names, y.2 ≠ .cell
  own : ∀ y ∈ scope.names, y.2 = .local → y.1 ∉ N
  free : ∀ y ∈ scope.names, y.2 = .free → sc.names.lookup y.1 = some .cell ∨ sc.names.lookup y.1 = some .free
  par : ∀ x ∈ ps, scope.names.lookup x = some .local
def lamNB (N : List Str) (sc scope : Scope) (ps : List Str) : Bool :=
  decide (scope.kind = .function) && !scope.isCoroutine && !scope.isGenerator && (scope.names.all fun y => !decide (y.2 = .cell) && (!decide (y.2 = .local) || !decide (y.1 ∈ N)) && (!decide (y.2 = .free) || decide (sc.names.lookup y.1 = some .cell) || decide (sc.names.lookup y.1 = some .free))) && ps.all fun x => decide (scope.names.lookup x = some .local)
theorem lamN_by {N : List Str} {sc scope : Scope} {ps : List Str} (h : lamNB N sc scope ps = true) : LamN N sc scope ps := by
  unfold lamNB at h
  simp only [Bool.and_eq_true, Bool.or_eq_true, Bool.not_eq_true', decide_eq_true_eq, decide_eq_false_iff_not, List.all_eq_true] at h
  obtain ⟨⟨⟨⟨h1, h2⟩, h3⟩, h4⟩, h5⟩ := h
  refine ⟨h1, h2, h3, fun y hy => (h4 y hy).1.1, fun y hy e => ?_, fun y hy e => ?_, fun x hx => h5 x hx⟩
  · rcases (h4 y hy).1.2 with z | z
    · exact absurd e z
    · exact z
  · rcases (h4 y hy).2 with (z | z) | z
    · exact absurd e z
    · exact .inl z
    · exact .inr z
theorem LamN.has {X : Cx} {scope : Scope} {ps : List Str} (L : LamN X.N X.env.scope scope ps) (ok : X.Ok) : ∀ y ∈ scope.names, y.2 = .free → ∃ c, X.env.cells.lookup y.1 = some c := fun y hy e => by
  rcases L.free y hy e with k | k
  · exact ok.has _ (.inl k)
  · exact ok.has _ (.inr k)
/-- what the frame's cells hold -/
structure Held (X : Cx) (σ : L2.St) (scope : Scope) (h : Heap) (H : Hp) : Prop where
  val : ∀ (i : Nat) (y : Str) (v : V), X.N[i]? = some y → σ[i]? = some (some v) → scope.names.lookup y = some .free → ∃ c u, X.env.cells.lookup y = some c ∧ RelV v u ∧ h.IsCell c (some u)
  any : ∀ (y : Str) (c : Addr), X.env.cells.lookup y = some c → (∃ v, h.IsCell c v) ∧ H c = none
section
variable {X : Cx} {pins : List (Addr × Obj)} {σ : L2.St} {H H' : Hp} {s : Shared} {h h' : Heap} {scope : Scope} {ps : List Str}
theorem Held.of (I : Inv X pins σ H s) (L : LamN X.N X.env.scope scope ps) : Held X σ scope s.heap H := ⟨fun i y v e1 e2 e3 => by
    have hy : (y, NameKind.free) ∈ scope.names := PySem.mem_of_lookup e3
    have hv : Vis X.env.scope y := (L.free _ hy rfl).elim (fun k => .inr (.inl k)) (fun k => .inr (.inr k))
    obtain ⟨m, hn, hl⟩ := I.loc
    obtain ⟨u, r, q⟩ := hl i y v e1 e2 hv
    rcases q with ⟨k', _⟩ | ⟨_, c, e', z⟩
    · have k' : X.env.scope.names.lookup y = some .local := k'
      rcases L.free _ hy rfl with k2 | k2 <;> rw [show X.env.scope.names.lookup y = _ from k2] at k' <;> cases k'
    · exact ⟨c, u, e', r, z⟩, fun y c e => ⟨I.cell y c e, I.freeC y c e⟩⟩
theorem Held.go (K : Held X σ scope h H) (k : ∀ c v, H c = none → h.IsCell c v → (∃ y, X.env.cells.lookup y = some c) → h'.IsCell c v ∧ H' c = none) : Held X σ scope h' H' := ⟨fun i y v e1 e2 e3 => by
    obtain ⟨c, u, a, b, d⟩ := K.val i y v e1 e2 e3
    exact ⟨c, u, a, b, (k c _ (K.any y c a).2 d ⟨y, a⟩).1⟩, fun y c e => by
    obtain ⟨⟨v, z⟩, n⟩ := K.any y c e
    have q := k c v n z ⟨y, e⟩
    exact ⟨⟨v, q.1⟩, q.2⟩⟩
theorem Held.un {fs ex : List Addr} (K : Held X σ scope h H) (u : Un fs ex H H' h h') (hx : ∀ y c, X.env.cells.lookup y = some c → c ∉ ex) : Held X σ scope h' H' := K.go fun c v n ⟨o, ho, hd⟩ ⟨y, e⟩ => by
  obtain ⟨sl, q⟩ := u.any ho n (hx y c e)
  exact ⟨⟨_, q, hd⟩, u.free c o ho n (hx y c e)⟩
theorem lam_startK {A : Around} {outer : List Env} {E : XK} {f c' : Addr} {h₁ : Heap} {tk : Nat} {s1 : Shared} {HZ : Hp} {bs : List (Str × Value)} (ok : X.Ok) (len : σ.length = X.N.length) (L : LamN X.N X.env.scope scope ps) (K : Held X σ scope s1.heap HZ) (e0 : Env0 X.prog X.w X.K X.mg X.base A outer s1 HZ) (hd : A.handled = none)
    (hns : h₁.Ns s1.heap.objs.size fun y => bs.reverse.lookup y) (kp : ∀ b o, s1.heap.get? b = some o → h₁.get? b = some o) :
    Inv (lamCx X A outer s1 HZ E scope f c') [] σ HZ { s1 with heap := h₁, toks := tk } := by
  have hfree := L.has ok
  have cm : ∀ {y c}, (cloFrom X.env.cells scope.names []).lookup y = some c → X.env.cells.lookup y = some c := fun {y c} e => by
    rcases cloFrom_mem (PySem.mem_of_lookup e) with hm | ⟨h1, h2⟩
    · cases hm
    · obtain ⟨c1, hc⟩ := hfree _ h1 rfl
      have hc : X.env.cells.lookup y = some c1 := hc
      have e2 : c = c1 := by
        rw [h2, hc] <;> rfl
      rw [e2]
      exact hc
  have look : ∀ {y}, scope.names.lookup y = some .free → ∃ c, (cloFrom X.env.cells scope.names []).lookup y = some c := fun {y} hl =>
    mem_lookup (cloFrom_has (cells := X.env.cells) (acc := []) (PySem.mem_of_lookup hl))
  have cellK : ∀ {c : Addr} {v : Option Value}, s1.heap.IsCell c v → h₁.IsCell c v := fun {c v} ⟨o, ho, hd⟩ => ⟨_, kp _ _ ho, hd⟩
  have noA : ∀ b : Addr, b ∉ (lamCx X A outer s1 HZ E scope f c').ex := fun b z => absurd (show b ∈ ([] : List Addr) from z) (by simp)
  refine ⟨⟨e0.mod, L.kind, rfl, rfl, Nat.le_refl _, fun y z c e1 e2 => ok.inj y z c (cm e1) (cm e2), fun y hy => ?_, fun y c z _ => ?_, fun _ => hd, Around.frames_deeper e0.frames, .inr ⟨rfl, rfl⟩, fun b z => absurd z (noA b), e0.bs, e0.bsz, fun b _ _ => noA b,
      fun b z => absurd z (noA b), e0.funs, e0.frf⟩,
    rfl, e0.bare, Un.kept kp, ⟨_, hns, fun i y v e1 e2 e3 => ?_⟩, fun y c e => ?_, e0.hok.fresh (Nat.le_refl _), fun y c e => (K.any y c (cm e)).2, fun q hq => absurd (show q ∈ ([] : List (Addr × Obj)) ++ [] from hq) (by simp), e0.hok.kept kp, len⟩
  · have hy : scope.names.lookup y = some .cell ∨ scope.names.lookup y = some .free := hy
    rcases hy with hy | hy
    · exact absurd rfl (L.cell _ (PySem.mem_of_lookup hy))
    · exact look hy
  · have z : false = true := z
    cases z
  · have e1 : X.N[i]? = some y := e1
    have e3 : Vis scope y := e3
    rcases e3 with k | k | k
    · exact absurd (List.mem_of_getElem? e1) (L.own _ (PySem.mem_of_lookup k) rfl)
    · exact absurd rfl (L.cell _ (PySem.mem_of_lookup k))
    · obtain ⟨c, u, a, b, d⟩ := K.val i y v e1 e2 k
      obtain ⟨c2, h2⟩ := look k
      have := cm h2
      rw [a] at this
      cases this
      exact ⟨u, b, .inr ⟨.inr k, c, h2, cellK d⟩⟩
  · obtain ⟨⟨v, z⟩, _⟩ := K.any y c (cm e)
    exact ⟨v, cellK z⟩
end
/-- how its parameters are bound where nothing is handed in -/
def BindL (q : Str) (params : Arguments) (body : Expr) (scope : Scope) (ps : List Str) (dvs : List V) : Prop :=
  (dvs = [] ∧ ps = [] ∧ ∀ (cl : List (Str × Addr)) (doc pm cv ctv : Value), bindArgs (PySem.W.kdv_fn "<lambda>" q params (.expr body) scope cl .none doc pm cv ctv) ⟨[], []⟩ = pure []) ∨
  ∃ (x : V) (p : Str), dvs = [x] ∧ ps = [p] ∧ ∀ (t : Addr) (cl : List (Str × Addr)) (doc pm cv ctv u : Value), ∃ k, bindArgs (PySem.W.kdv_fn "<lambda>" q params (.expr body) scope cl (.ref t) doc pm cv ctv) ⟨[], []⟩ = seqItems? (.ref t) >>= k ∧ k (some #[u]) = pure [(p, u)]
section
variable {X : Cx} {σ : L2.St}
/-- x(), in the def g that got the lambda; that def was entered at s0 with H0 -/
theorem pe_actK {CXg : CXT} {Eg : XK} {Ng : List Str} {qg : Str} {sg : Scope} {g f : Addr} {cdg : Value} {params : Arguments} {body : Expr} {scope : Scope} {ps : List Str} {dvs : List V} {k i : Nat} {a : Str} {pn : List (Addr × Obj)} {xe : Value → Shared → Prop} {W : WX} {E : XK} {tb : TE} {p1 p2 : Pos} {A0 : Around} {stk : List Env} {s0 : Shared} {H0 : Hp}
    (ok : X.Ok) (len : σ.length = X.N.length) (L : LamN X.N X.env.scope scope ps) (K0 : Held X σ scope s0.heap H0) (hb : BindL (X.env.qual ++ "<lambda>") params body scope ps dvs)
    (tk : Takes ((cxOf CXg X.prog X.w X.K X.mg X.base Ng qg sg g cdg A0 stk s0 H0 Eg).tr pn xe) W) (hW : ∀ cls d σ' H', σ'.length = Ng.length → E cls d H' → W cls d σ' H') (hr : Room (k + 1) (A0.deeper (envOfC qg sg s0.heap.objs.size g cdg)))
    (hbody : ∀ (A : Around) (outer : List Env) (s : Shared) (H : Hp) (c' : Addr), Room k (A.deeper (lamEnv X scope s.heap.objs.size f c')) → PE (lamCx X A outer s H E scope f c') body tb)
    (hN : Ng[i]? = some a) (hv : Vis sg a) (hd : (a == ("__debug__" : Str)) = false := by decide) (hcd : (a == ("__classdict__" : Str)) = false := by decide) :
    PE ((cxOf CXg X.prog X.w X.K X.mg X.base Ng qg sg g cdg A0 stk s0 H0 Eg).tr pn xe) (.Call (.Name a p1) [] [] p2)
      (fun σZ HZ Q => σZ[i]? = some (some (.ref f)) ∧ Made HZ (X.env.qual ++ "<lambda>") X.env.cells params body scope dvs f ∧ tb σ HZ Q) := by
  refine ⟨fun pinsZ sZ σZ HZ Q IZ h => ?_⟩
  obtain ⟨hs, hm, ht⟩ := h
  refine wpAny_Call_Name_kw (thn ((pe_var (pos := p1) (i := i) hN hv hd hcd).run pinsZ sZ σZ HZ (fun v H1 => v = .ref f ∧ H1 = HZ) IZ ⟨.ref f, hs, rfl, rfl⟩) fun u s1 ⟨v, H1, I1, r1, q1⟩ => ?_)
  obtain ⟨ev, eH⟩ := q1
  subst ev
  rw [eH] at I1
  obtain rfl : u = Value.ref f := r1
  obtain ⟨dV, doc, pm, c', ctv, hf, hc, hD⟩ := hm
  have of1 : s1.heap.get? f = some (lamO (X.env.qual ++ "<lambda>") params body scope (cloFrom X.env.cells scope.names []) dV doc pm c' ctv) := (I1.hok f _ hf).1
  refine PySem.W.callWith_F0 ⟨_, _, _, _, of1⟩ ?_
  have un : Un (frs stk) [] H0 HZ s0.heap s1.heap := I1.base
  have K1 : Held X σ scope s1.heap HZ := K0.un un (fun _ _ _ => by simp)
  obtain ⟨⟨oc, vs, t, hoc, hdc, hvc⟩, _, _⟩ := I1.hok c' _ hc
  have rc : codeAny (model X.prog X.w) (A0.deeper (envOfC qg sg s0.heap.objs.size g cdg)) (.call (.ref f) ⟨[], []⟩) (CR (L2.CX X.prog X.w) (envOfC qg sg s0.heap.objs.size g cdg :: stk) X.prog X.w HZ s1 Q E) s1 := by
    refine PySem.W.kla_callFunE hr.depth of1 rfl L.co L.gen rfl ⟨c', oc, vs, t, rfl, hoc, hdc, hvc⟩ ?_
    have main : ∀ bs : List (Str × Value), (∀ y ∈ bs, y.1 ∈ ps) → wpAny (model X.prog X.w) (A0.deeper (envOfC qg sg s0.heap.objs.size g cdg)).in1 (newFunctionEnv scope mainGlobals (cloFrom X.env.cells scope.names []) bs ((X.env.qual ++ "<lambda>") ++ ".<locals>.") (some f) (.ref c') none builtinsNs)
        (fun env s₂ => s₂.heap.NoLimit ∧ codeAny (model X.prog X.w) (A0.deeper (envOfC qg sg s0.heap.objs.size g cdg)) (.expr body env) (CR (L2.CX X.prog X.w) (envOfC qg sg s0.heap.objs.size g cdg :: stk) X.prog X.w HZ s1 Q E) s₂) (fun e s' => CR (L2.CX X.prog X.w) (envOfC qg sg s0.heap.objs.size g cdg :: stk) X.prog X.w HZ s1 Q E (.error e) s') s1 := fun bs hbs => by
      refine wpAny_newFunctionEnv (fun y hy => L.cell y hy) (fun y hy => L.par _ (hbs y hy)) (fun h₁ hns hsb => ⟨I1.nolimit.fresh _ hsb, ?_⟩) L.kind
      show codeAny _ _ (.expr body (lamEnv X scope s1.heap.objs.size f c')) _ _
      have kp : ∀ b o, s1.heap.get? b = some o → h₁.get? b = some o := fun b o e => hsb.extBut b o (Nat.ne_of_lt (Heap.lt_size e)) (Heap.get?_push_of_some _ e)
      have J : Inv (lamCx X (A0.deeper (envOfC qg sg s0.heap.objs.size g cdg)) (envOfC qg sg s0.heap.objs.size g cdg :: stk) s1 HZ E scope f c') [] σ HZ { s1 with heap := h₁, toks := s1.toks + bs.length } :=
        lam_startK ok len L K1 I1.env0 hr.hd hns kp
      refine PySem.W.kla_codeExpr (wpAny_mono ((hbody _ _ s1 HZ c' (hr.deeper _)).run [] _ _ HZ Q J ht) (fun v s' hq => ?_) fun e s' hq => hq)
      obtain ⟨w', H', J', rv, q⟩ := hq
      exact ⟨w', H', J'.os, J'.bare, J'.base, J'.hok, rv, q⟩
    rcases hb with ⟨e1, e2, hb⟩ | ⟨x, p, e1, e2, hb⟩
    · rcases hD with ⟨_, rfl⟩ | ⟨t, x, u, z, _⟩
      · rw [hb]
        exact wpAny_pure (main [] (by simp))
      · rw [e1] at z
        cases z
    · rcases hD with ⟨e3, rfl⟩ | ⟨t, x', u, z, rfl, ht2, r⟩
      · rw [e1] at e3
        cases e3
      · obtain ⟨k', b1, b2⟩ := hb t (cloFrom X.env.cells scope.names []) doc pm (.ref c') ctv u
        rw [b1]
        refine wpAny_bind (wpAny_seqItems (I1.hok t _ ht2).1 rfl ?_)
        show wpAny _ _ (k' (some #[u])) _ _ _
        rw [b2]
        exact wpAny_pure (main [(p, u)] (fun y hy => by
          obtain rfl := List.mem_singleton.mp hy
          rw [e2]
          exact List.mem_singleton.mpr rfl))
  have hx : Passes (L2.CX X.prog X.w) ((cxOf CXg X.prog X.w X.K X.mg X.base Ng qg sg g cdg A0 stk s0 H0 Eg).tr pn xe) E :=
    fun pins' σ' H' s' e s2 I2 c => tk e s2 (XE.of_call I2 (fun cls d H2 h => hW cls d σ' H2 I2.len h) c)
  refine wpAny_call (codeAny_mono rc fun r s' hq => ?_)
  cases r with
  | error e => exact hx pinsZ σZ HZ s1 e s' I1 hq
  | ok fl =>
    cases fl with
    | ret u => exact I1.after hq
    | next => exact False.elim hq
    | brk => exact False.elim hq
    | cont => exact False.elim hq
end
end LD

set_option maxHeartbeats 4000000
/-! try: .. with several clauses, some of which name the exception. -/
namespace LD
open PySem PySem.Spec PyProof.Rows L2 LamX
abbrev Cl3 : Type := Value × Option Nat × (Addr → Value → Option Addr → TS)
/-- a suite's ends, where the slot i is emptied behind it -/
abbrev offE (i : Nat) (D : Ends) : Ends := { nx := fun σ' H' => D.nx (σ'.set i none) H', rt := D.rt, bk := fun σ' H' => D.bk (σ'.set i none) H', ct := fun σ' H' => D.ct (σ'.set i none) H' }
abbrev tsOf (o : Option Nat) (ts : TS) (a : Addr) (D : Ends) (σ : L2.St) (H : Hp) : Prop := match o with
  | none => ts D σ H
  | some i => ts (offE i D) (σ.set i (some (.ref a))) H
def wMix (K : PySem.W.Frag) (Wout : WX) (D : Ends) : List Cl3 → WX
  | [] => Wout
  | q :: r => fun cls d σ H => ∃ b, PySem.W.exmOne K cls q.1 = some b ∧ (b = true → ∀ a, H a = none → tsOf q.2.1 (q.2.2 a cls d) a D σ H) ∧ (b = false → wMix K Wout D r cls d σ H)
/-- the clause's name, where it has one -/
def NmOk (X : Cx) : Option Str → Option Nat → Prop
  | none, none => True
  | some n, some i => X.N[i]? = some n ∧ X.env.kindOf n = some .local
  | _, _ => False
inductive HdsM (X : Cx) : List ExceptHandler → List Cl3 → Prop
  | nil : HdsM X [] []
  | cons {x : Str} {c : Value} {on : Option Str} {o : Option Nat} {ts : Addr → Value → Option Addr → TS} {b0 : Stmt} {bs : List Stmt} {p p' : Pos} {hds : List ExceptHandler} {l : List Cl3} (hc : Names X x c) (hn : NmOk X on o)
      (hs : ∀ (a : Addr) (oe : Obj) (cls : Value) (d : Option Addr) (pn : List (Addr × Obj)), Zc cls d oe → (∃ vs, oe.data = .fields vs) → PSs (X.suite a ((a, oe) :: pn)) (b0 :: bs) (ts a cls d)) (r : HdsM X hds l) :
      HdsM X (.ExceptHandler (some (.Name x p)) on (b0 :: bs) p' :: hds) ((c, o, ts) :: l)
section
variable {X : Cx} {body : List Stmt} {h0 : ExceptHandler} {hds : List ExceptHandler} {l : List Cl3} {pos : Pos} {tb : WX → TS} {Wout : WX}
theorem ps_try_mix (hs : X.stack = X.env :: X.outer) (hf : X.env.frame = some X.env.locals) (hN : X.N.Nodup) (tk : Takes X Wout)
    (hb : ∀ (W : WX) (pn : List (Addr × Obj)) (xe : Value → Shared → Prop), Takes (X.tr pn xe) W → PassesOwn (model X.prog X.w) X.A X.env xe → PSs (X.tr pn xe) body (tb W))
    (hh : HdsM X (h0 :: hds) l) : PS X (.Try body (h0 :: hds) [] [] pos) (fun D σ H => tb (wMix X.K Wout D l) D σ H) := by
  refine ⟨fun pins s σ H D I hq0 => ?_⟩
  have ok := I.ok
  have hfr : X.A.frames = some (X.env :: X.outer) := by rw [ok.frames, hs]
  refine wpAny_Try_except ?_
  refine wpAny_mono ((hb (wMix X.K Wout D l) (X.pn ++ pins) (fun e s1 => wpAny (model X.prog X.w) X.A (noteFrame e X.env) (fun _ s2 => wpAny (model X.prog X.w) X.A (setFlight e none) (fun _ s3 =>
    wpAny (model X.prog X.w) X.A (handleBy e X.env (h0 :: hds)) (SP X pins D) X.xe s3) X.xe s2) X.xe s1) (fun u sB xx => ?_) PassesOwn.looking).run [] s σ H D (I.toTry _) hq0) (fun f s1 hsp => ?_) (fun e s1 he => he)
  · obtain ⟨a, B, sA, pins', σ1, H1, cls, d, rfl, JA, nb, up, sky, na, os, ag, wish⟩ := xx
    have J := JA.ofTry ok
    show wpAny (model X.prog X.w) X.A (noteFrame (.ref a) X.env) _ _ _
    refine Sky.land (B := B) Zc.steady hfr hf (by rw [← hs]; exact sky) fun g3 fl3 up3 => ?_
    have J3 : Inv X pins σ1 H1 { sB with heap := g3 } := J.landed nb fl3.1 (up.trans up3) os ag
    obtain ⟨o3, v3, ge3, gz3, gd3⟩ := fl3.there
    -- the exception is none of the frames
    have afar : ∀ e ∈ X.env :: X.outer, e.frame ≠ some a := fun e he q => by
      obtain ⟨_, o', e', hnf⟩ := fl3.2.2.1.mem (b := a) (List.mem_filterMap.mpr ⟨e, he, q⟩)
      rw [ge3] at e'
      cases e'
      exact hnf _ gd3
    have nL : a ≠ X.env.locals := fun z => afar X.env List.mem_cons_self (by rw [hf, z])
    have nF : a ∉ X.fs := fun hm => by
      obtain ⟨e, he, q⟩ := List.mem_filterMap.mp hm
      exact afar e (List.mem_cons_of_mem _ he) q
    have S3 := J3.suite ge3 gd3 na nL nF
    have chain : ∀ {hds' : List ExceptHandler} {l' : List Cl3}, HdsM X hds' l' → wMix X.K Wout D l' cls d σ1 H1 → wpAny (model X.prog X.w) X.A (handleBy (.ref a) X.env hds') (SP X pins D) X.xe { sB with heap := g3 } := by
      intro hds' l' hk
      induction hk with
      | nil =>
        intro wish
        refine wpAny_handleBy_nil ?_
        obtain ⟨_, _, _, oe, vs, T, oT, ts', he, _, hd, h1, _⟩ := id fl3
        unfold PySem.passOn
        refine wpAny_bind (wpAny_field he hd h1 ?_)
        rw [if_neg (show ¬ ((Value.ref T == Value.none) = true) from by simp)]
        have out : wpAny (model X.prog X.w) X.A (setFlight (.ref a) X.env.frame) (fun _ s4 => wpAny (model X.prog X.w) X.A (throw (.ref a) : Sem Flow) (SP X pins D) X.xe s4) X.xe { sB with heap := g3 } := by
          rw [hf]
          exact HandSPX.setFlight_upZ fl3 fun g4 hg4 up4 => wpAny_throw (tk _ _ ⟨a, B, sA, pins, σ1, H1, cls, d, rfl, J, nb, (up.trans up3).trans up4, .inr (.inr (by rw [hs]; exact hg4)), na, os, ag, wish⟩)
        first
          | exact wpAny_bind (wpAny_pure (wpAny_bind out))
          | exact wpAny_bind out
      | @cons x c on o ts b0 bs p p' hds2 l2 hc hn hsu r ih =>
        intro wish
        obtain ⟨b, hb1, hyes, hno⟩ := wish
        refine wpAny_handleBy_cons (codeAny_handlers_test ?_) (by intro q; cases q)
        have LM := PySem.W.exm_one (M := model X.prog X.w) (J3.kIn) (fun A Q E s k q => wpAny_typeOf_ref (k _ _ ge3) (by rw [gz3.1]; exact q)) hb1
        have look : ∀ {Q : Value → Shared → Prop} {E : Value → Shared → Prop}, Q c { sB with heap := g3 } → wpAny (model X.prog X.w) (X.A.mark (some (.ref a))) (eval (.Name x p) X.env) Q E { sB with heap := g3 } := fun {Q E} q => by
          obtain ⟨hg, hdbg, hm | ⟨hm, hv, hnn⟩⟩ := hc
          · exact ld_glob (X := X.suite a ((a, o3) :: (X.pn ++ pins))) S3 hg hm q hdbg
          · exact ld_blt (X := X.suite a ((a, o3) :: (X.pn ++ pins))) S3 hg hm hv q hnn hdbg
        refine look (LM.here ?_)
        cases b with
        | false => exact ih (hno rfl)
        | true =>
          have wq := hyes rfl a na
          match on, o, hn, wq with
          | none, none, _, wq =>
            refine codeAny_handlers_suite (HandSPX.lands_againZ fl3 fun g4 fl4 up4 => ?_)
            have J4 : Inv X pins σ1 H1 { sB with heap := g4 } := J.landed nb fl4.1 ((up.trans up3).trans up4) os ag
            obtain ⟨o4, v4, ge4, gz4, gd4⟩ := fl4.there
            refine wpAny_mono ((hsu a o4 cls d (X.pn ++ pins) gz4 ⟨_, gd4⟩).run [] _ _ H1 _ (J4.suite ge4 gd4 na nL nF) wq) (fun f s6 hsp => ?_) (fun _ _ z => False.elim z)
            cases f with
            | ret u =>
              obtain ⟨v6, σ6, H6, S6, r6, q6⟩ := hsp
              exact ⟨v6, σ6, H6, S6.unsuite ok, r6, q6⟩
            | next | brk | cont =>
              obtain ⟨σ6, H6, S6, q6⟩ := hsp
              exact ⟨σ6, H6, S6.unsuite ok, q6⟩
          | some n, some i, ⟨hi, hln⟩, wq =>
            refine codeAny_handlers_suite_as (HandSPX.lands_againZ fl3 fun g4 fl4 up4 => ?_)
            have J4 : Inv X pins σ1 H1 { sB with heap := g4 } := J.landed nb fl4.1 ((up.trans up3).trans up4) os ag
            obtain ⟨o4, v4, ge4, gz4, gd4⟩ := fl4.there
            refine store_ok (X := X.suite a ((a, o4) :: (X.pn ++ pins))) (v := .ref a) (J4.suite ge4 gd4 na nL nF) hN hi (.inl hln) rfl (fun s5 S5 => ?_) (.inr hln)
            refine wpAny_mono ((hsu a o4 cls d (X.pn ++ pins) gz4 ⟨_, gd4⟩).run [] s5 _ H1 _ S5 wq) (fun f s6 hsp => ?_) (fun _ _ z => False.elim z)
            have off : ∀ {σ6 : L2.St} {H6 : Hp} {Q : Shared → Prop}, Inv (X.suite a ((a, o4) :: (X.pn ++ pins))) [] σ6 H6 s6 → (∀ s7, Inv X pins (σ6.set i none) H6 s7 → Q s7) →
                wpAny (model X.prog X.w) X.A (do bindName X.env n .none; unbindBehindTheSuite X.env n p') (fun _ s7 => Q s7) X.xe s6 := fun {σ6 H6 Q} S6 q => gone_ok (S6.unsuite ok) hN hi hln q
            cases f with
            | ret u =>
              obtain ⟨v6, σ6, H6, S6, r6, q6⟩ := hsp
              exact off S6 fun s7 J7 => ⟨v6, _, H6, J7, r6, q6⟩
            | next | brk | cont =>
              obtain ⟨σ6, H6, S6, q6⟩ := hsp
              exact off S6 fun s7 J7 => ⟨_, H6, J7, q6⟩
    exact chain hh wish
  · cases f with
    | next =>
      obtain ⟨σ', H', J', q⟩ := hsp
      exact wpAny_execs_nil ⟨σ', H', J'.ofTry ok, q⟩
    | ret u =>
      obtain ⟨v, σ', H', J', r, q⟩ := hsp
      exact ⟨v, σ', H', J'.ofTry ok, r, q⟩
    | brk | cont =>
      obtain ⟨σ', H', J', q⟩ := hsp
      exact ⟨σ', H', J'.ofTry ok, q⟩
end
end LD

set_option maxHeartbeats 4000000
/-! A def that calls what it is handed; a comprehension whose element knows the frame it stands in. -/
namespace LD
open PySem PySem.Spec PyProof.Rows L2 LamX
/-- a lambda of X's frame, its reading t by what it may let out -/
structure LamK (X : Cx) (k : Nat) (params : Arguments) (body : Expr) (scope : Scope) (dvs : List V) (t : XK → TE) : Prop where
  ex : ∃ ps, LamN X.N X.env.scope scope ps ∧ BindL (X.env.qual ++ "<lambda>") params body scope ps dvs
  body : ∀ (A : Around) (outer : List Env) (s : Shared) (H : Hp) (E : XK) (f c' : Addr), Room k (A.deeper (lamEnv X scope s.heap.objs.size f c')) → PE (lamCx X A outer s H E scope f c') body (t E)
/-- the def g (its one parameter a) calls what it got: TT is what it makes of that one's reading -/
def GivesK (X : Cx) (A0 : Around) (stk : List Env) (Ng : List Str) (x : Str) (sg : Scope) (g : Addr) (cdg : Value) (bg : List Stmt) (a : Str) (TT : (XK → Hp → VK → Prop) → Hp → VK → Prop) : Prop :=
  ∀ (f : Addr) (M : Hp → Prop) (s : Shared) (H : Hp) (Q : VK) (tl : XK → Hp → VK → Prop),
    (∀ (W : WX) (pn : List (Addr × Obj)) (xe : Value → Shared → Prop) (E : XK) (p1 p2 : Pos), Takes ((cxOf L2.CX0 X.prog X.w X.K X.mg X.base Ng x sg g cdg A0 stk s H L2.E0).tr pn xe) W → (∀ cls d σ' H', σ'.length = Ng.length → E cls d H' → W cls d σ' H') →
      PE ((cxOf L2.CX0 X.prog X.w X.K X.mg X.base Ng x sg g cdg A0 stk s H L2.E0).tr pn xe) (.Call (.Name a p1) [] [] p2) (fun σZ HZ Q => σZ[0]? = some (some (.ref f)) ∧ M HZ ∧ tl E HZ Q)) →
    M H → TT tl H Q →
    ∃ t, PSs (cxOf L2.CX0 X.prog X.w X.K X.mg X.base Ng x sg g cdg A0 stk s H L2.E0).nox bg t ∧ t { nx := fun _ H' => Q .non H', rt := Q } (L2.start Ng [.ref f]) H
/-- that def, as the caller sees it -/
structure Taker (X : Cx) (A0 : Around) (stk : List Env) (x : Str) (g : Addr) (TT : (XK → Hp → VK → Prop) → Hp → VK → Prop) : Prop where
  mg : X.mg x = some (.ref g)
  kp : PySem.W.keepIn X.K (.ref g) = true
  ex : ∃ (pg : Arguments) (bg : List Stmt) (sg : Scope) (dV kV doc pm cdv ct oc : Value) (an od : Option Addr) (osl : Array (Option Value)) (Ng : List Str) (a : Str),
    X.K.lookup g = some ⟨oc, od, .func (PySem.W.fnOf x x pg bg sg dV kV doc pm an cdv ct), osl⟩ ∧ PySem.W.codeIn X.K cdv x = true ∧ L2.Binds X.K (PySem.W.fnOf x x pg bg sg dV kV doc pm an cdv ct) [a] [] ∧ FnScope Ng [a] sg ∧ Ng[0]? = some a ∧ Vis sg a ∧
    (a == ("__debug__" : Str)) = false ∧ (a == ("__classdict__" : Str)) = false ∧ GivesK X A0 stk Ng x sg g cdv bg a TT
section
variable {X : Cx} {σ : L2.St}
theorem run_taker {A0 : Around} {stk : List Env} {x : Str} {g f : Addr} {k : Nat} {TT : (XK → Hp → VK → Prop) → Hp → VK → Prop} {params : Arguments} {body : Expr} {scope : Scope} {dvs : List V} {t : XK → TE} {s : Shared} {H : Hp} {Q : VK} (T : Taker X A0 stk x g TT) (e0 : Env0 X.prog X.w X.K X.mg X.base A0 stk s H)
    (hr : Room (k + 2) A0) (ok : X.Ok) (len : σ.length = X.N.length) (D : LamK X k params body scope dvs t) (Hd : Held X σ scope s.heap H) (hm : Made H (X.env.qual ++ "<lambda>") X.env.cells params body scope dvs f) (h : TT (fun E H' Q' => t E σ H' Q') H Q) :
    codeAny (model X.prog X.w) A0 (.call (.ref g) ⟨[.ref f], []⟩) (CR L2.CX0 stk X.prog X.w H s Q L2.E0) s := by
  obtain ⟨pg, bg, sg, dV, kV, doc, pm, cdv, ct, oc, an, od, osl, Ng, a, lk, hcg, hb, Sg, hNg, hva, hd, hcd, hG⟩ := T.ex
  obtain ⟨ps, L, hbd⟩ := D.ex
  have kin : X.K.In s.heap := e0.mod.kin.keeps fun b o e => (e0.bs b o e).1
  refine run_ofS (N := Ng) (ps := [a]) (us := [.ref f]) (vs := [.ref f]) lk hcg Sg hr e0 (hb s [.ref f] kin rfl) (.cons rfl .nil) rfl fun hr' => ?_
  obtain ⟨t', ht', hq'⟩ := hG f (fun H' => Made H' (X.env.qual ++ "<lambda>") X.env.cells params body scope dvs f) s H Q (fun E H' Q' => t E σ H' Q')
    (fun W pn xe E p1 p2 tk hW => pe_actK (i := 0) ok len L Hd hbd tk hW hr' (fun A outer s H c' hr2 => D.body A outer s H E f c' hr2) hNg hva hd hcd) hm h
  exact ⟨t', ht'.nox, hq'⟩
/-- x(lambda ..: body) -/
theorem pe_lamK {T : List (Addr × Str)} {TT : (XK → Hp → VK → Prop) → Hp → VK → Prop} {x : Str} {g c P : Addr} {k : Nat} {params : Arguments} {body : Expr} {scope : Scope} {dvs : List V} {t : XK → TE} {p lpos pos : Pos} (hg : Gl X x) (Tk : Taker X X.A X.stack x g TT) (TB : TabB X.base X.mg c P) (hcode : X.env.code = .ref c)
    (hmT : (P, X.env.qual ++ "<lambda>") ∈ T) (hu : ∀ p ∈ T, p.1 = P → p.2 = X.env.qual ++ "<lambda>") (hr : Room (k + 2) X.A) (hd : Dfl X params dvs) (D : LamK X k params body scope dvs t) (hdb : (x == ("__debug__" : Str)) = false := by decide) :
    PE X (.Call (.Name x p) [.Lambda params body scope lpos] [] pos) (fun σ H Q => Tabs T H ∧ ∀ H1, ExtN H H1 → Tabs T H1 → TT (fun E H' Q' => t E σ H' Q') H1 Q) := by
  refine ⟨fun pins s σ H Q I h => ?_⟩
  obtain ⟨hT, h⟩ := h
  obtain ⟨ps, L, _⟩ := id D.ex
  refine wpAny_Call_Name_kw (ld_glob I hg Tk.mg ?_ hdb)
  refine PySem.W.callWith_K (h₀ := X.base) I.ok.mod.kin Tk.kp ?_ (by rfl) (by rfl)
  show wpAny _ _ (spliced ((false, eval (.Lambda params body scope lpos) X.env) :: backTo pos (starEach [] X.env))) _ _ s
  refine Calls.spliced_cons (lam_make3 I TB hcode hmT hu hT (L.has I.ok) hd fun f H1 s' I1 eN T1 hm => ?_)
  refine Calls.spliced_nil ⟨I1.kIn, ?_⟩
  refine wpAny_call (codeAny_mono (run_taker Tk I1.env0 hr I1.ok I1.len D (.of I1 L) hm (h H1 eN T1)) fun r s2 hq => ?_)
  cases r with
  | error e => exact (show False from hq).elim
  | ok fl =>
    cases fl with
    | ret u => exact I1.after hq
    | next | brk | cont => exact False.elim hq
/-- a lambda as a value -/
theorem pe_lamV {T : List (Addr × Str)} {c P : Addr} {params : Arguments} {body : Expr} {scope : Scope} {dvs : List V} {ps : List Str} {pos : Pos} (TB : TabB X.base X.mg c P) (hcode : X.env.code = .ref c) (hmT : (P, X.env.qual ++ "<lambda>") ∈ T) (hu : ∀ p ∈ T, p.1 = P → p.2 = X.env.qual ++ "<lambda>") (hd : Dfl X params dvs)
    (L : LamN X.N X.env.scope scope ps) : PE X (.Lambda params body scope pos) (fun σ H Q => Tabs T H ∧ ∀ f H1, ExtN H H1 → Tabs T H1 → Made H1 (X.env.qual ++ "<lambda>") X.env.cells params body scope dvs f → Q (.ref f) H1) := by
  refine ⟨fun pins s σ H Q I h => ?_⟩
  obtain ⟨hT, h⟩ := h
  exact lam_make3 I TB hcode hmT hu hT (L.has I.ok) hd fun f H1 s' I1 eN T1 hm => ⟨.ref f, H1, I1, rfl, h f H1 eN T1 hm⟩
/-- x(e) in a comprehension's block, e one of the frame's lambdas -/
theorem pe_takeB {TT : (XK → Hp → VK → Prop) → Hp → VK → Prop} {x : Str} {g : Addr} {k : Nat} {p pos : Pos} {e : Expr} {te : TE} {s3 : Shared} {H3 : Hp} {scopeB : Scope} {ce : Env} {fp : List Addr} {pins0 : List (Addr × Obj)}
    (hg : Gl (X.blk s3 H3 scopeB ce fp) x) (Tk : Taker X X.A X.stack x g TT) (hr : Room (k + 2) X.A) (I3 : Inv X pins0 σ H3 s3) (hfp : ∀ b ∈ fp, FpOk X pins0 H3 b) (ha : PA (X.blk s3 H3 scopeB ce fp) [e] (tCons te tNil)) (hdb : (x == ("__debug__" : Str)) = false := by decide)
    (hst : starEach [e] (X.blk s3 H3 scopeB ce fp).env = (false, eval e (X.blk s3 H3 scopeB ce fp).env) :: starEach [] (X.blk s3 H3 scopeB ce fp).env := by rfl) (hpl : (backTo pos (starEach [] (X.blk s3 H3 scopeB ce fp).env)).any (·.1) = false := by rfl) :
    PE (X.blk s3 H3 scopeB ce fp) (.Call (.Name x p) [e] [] pos) (fun σ' H' Q => tCons te tNil σ' H' fun vs H1 => ∃ (f : Addr) (params : Arguments) (body : Expr) (scope : Scope) (dvs : List V) (t : XK → TE), vs = [.ref f] ∧ LamK X k params body scope dvs t ∧
      Made H1 (X.env.qual ++ "<lambda>") X.env.cells params body scope dvs f ∧ TT (fun E H'' Q' => t E σ H'' Q') H1 Q) := by
  refine ⟨fun pins s σ' H Q I h => ?_⟩
  refine wpAny_Call_Name_kw (ld_glob I hg Tk.mg ?_ hdb)
  refine PySem.W.callWith_K (h₀ := X.base) I.ok.mod.kin Tk.kp (thn (ha.run pos pins s σ' H (fun vs H1 => ∃ (f : Addr) (params : Arguments) (body : Expr) (scope : Scope) (dvs : List V) (t : XK → TE), vs = [.ref f] ∧ LamK X k params body scope dvs t ∧
      Made H1 (X.env.qual ++ "<lambda>") X.env.cells params body scope dvs f ∧ TT (fun E H'' Q' => t E σ H'' Q') H1 Q) I ?_) fun us s1 hq => ?_) hst hpl
  · exact h
  · obtain ⟨vs, H1, I1, r, f, params, body, scope, dvs, t, rfl, D, hm, hT⟩ := hq
    refine ⟨I1.kIn, ?_⟩
    cases r with
    | cons r1 r2 =>
      cases r2
      cases r1
      obtain ⟨ps, L, _⟩ := id D.ex
      have Hd : Held X σ scope s1.heap H1 := (Held.of I3 L).un I1.base fun y c e hc => (hfp c hc).2.2.2.2.1 y c e rfl
      refine wpAny_call (codeAny_mono (run_taker (X := X) (A0 := X.A) (stk := X.stack) (σ := σ) (s := s1) (H := H1) (Q := Q) Tk I1.env0 hr I3.ok I3.len D Hd hm hT) fun r s2 hq => ?_)
      cases r with
      | error e => exact (show False from hq).elim
      | ok fl =>
        cases fl with
        | ret u => exact I1.after hq
        | next | brk | cont => exact False.elim hq
end
end LD

set_option maxHeartbeats 4000000
/-! A list comprehension whose element's rule may use what holds in the frame where the block begins. -/
namespace LD
open PySem PySem.Spec PyProof.Rows L2 LamX
section
variable {X : Cx}
theorem pe_lcK {elt tg iter : Expr} {scope : Scope} {own : List (Str × Nat)} {pos : Pos} {wi : TI} {g : TG} {te : L2.St → TE} (hc : X.calm = true) (hN : X.N.Nodup) (hi : PI X tg iter wi) (ok : BlkOk X.N X.env.scope scope own)
    (hg : ∀ (s : Shared) (H : Hp) (C : Addr) (cl : List (Str × Addr)) (fp : List Addr), PG (X.blk s H scope (compEnvC scope cl C X.env) fp) tg g)
    (he : ∀ (pins : List (Addr × Obj)) (σ : L2.St) (s : Shared) (H : Hp) (C : Addr) (cl : List (Str × Addr)) (fp : List Addr), Inv X pins σ H s → (∀ b ∈ fp, FpOk X pins H b) → PE (X.blk s H scope (compEnvC scope cl C X.env) fp) elt (te σ))
    (hs : ∀ x, foldedSetIterable iter X.env x = pure x := by intro _; rfl) :
    PE X (.ListComp elt [⟨tg, iter, [], 0⟩] scope pos) (fun σ H Q => tLc wi g tYes (te σ) (own.map (·.2)) σ H Q) := by
  refine ⟨fun pins s σ H Q I0 h => ?_⟩
  rw [eval_ListComp]
  have caught : ∀ y ∈ scope.names, y.2 = .free → ∃ c, X.env.cells.lookup y.1 = some c := fun y hy e => I0.ok.has _ (by
    rcases ok.free y hy e with k | k
    · exact .inl k
    · exact .inr k)
  refine wpAny_comprehension_free (use := none) rfl hs (closure_ok caught) ok.kind (fun y hy e => by rw [ok.uniq y hy, e])
    (thn (hi.run pins s σ H _ I0 h) fun xv sa hx => thn hx fun itv sb hb => ?_)
  obtain ⟨it, fp, tn, J, Hb, e, Ib, T, stb, fb, q⟩ := hb
  subst e
  refine wpAny_newObj_type (newEnv_comp ?_) (by show 0 ≤ sizeLine; decide)
  generalize hD : sb.heap.objs.size = D
  have hDn : Hb D = none := Ib.hok.fresh (Nat.le_of_eq hD)
  obtain ⟨W, ⟨m0, w0⟩, turn⟩ := q D hDn
  generalize es3 : ({ sb with heap := sb.heap.push { cls := .type "list", data := .seq ([] : List Value).toArray } } : Shared) = s3
  have h3 : s3.heap = sb.heap.push { cls := .type "list", data := .seq ([] : List Value).toArray } := by rw [← es3]
  generalize eH3 : upd Hb D (.lst []) = H3 at w0
  have I3 : Inv X pins σ H3 s3 := by
    rw [← es3, ← eH3]
    refine Ib.laid (t' := sb.toks) (fun b o e => Heap.get?_push_of_some _ e) (Nat.le_of_eq hD) ⟨Nat.zero_le _, [], 0, .nil, ?_⟩
    rw [← hD]
    exact Heap.get?_push_size _ rfl
  have f3 : ∀ b ∈ fp, FpOk X pins H3 b ∧ b < s3.heap.objs.size := fun b hbm => by
    obtain ⟨o, eo, _⟩ := T.obj _ _ stb b hbm
    have hlt := Heap.lt_size eo
    refine ⟨⟨?_, (fb b hbm).2⟩, by rw [h3, Heap.size_push]; exact Nat.lt_succ_of_lt hlt⟩
    rw [← eH3, upd_ne (by rw [← hD]; exact Nat.ne_of_lt hlt)]
    exact (fb b hbm).1
  have I4 := block_start I3 ok hN f3
  have pg := hg s3 H3 s3.heap.objs.size (cellsFrom (s3.heap.objs.size + 1) scope.names (cloFrom X.env.cells scope.names [])) fp
  have pe := he pins σ s3 H3 s3.heap.objs.size (cellsFrom (s3.heap.objs.size + 1) scope.names (cloFrom X.env.cells scope.names [])) fp I3 fun b hbm => (f3 b hbm).1
  show codeAny _ _ (.compStart (.ListComp elt [⟨tg, iter, [], 0⟩] scope pos) 0 (.ref it) (.ref D) (compEnvC scope (cellsFrom (s3.heap.objs.size + 1) scope.names (cloFrom X.env.cells scope.names [])) s3.heap.objs.size X.env)) (compPost (model X.prog X.w) X.A X.xe none (EP X pins σ Q) (.ref D) s3.heap.objs.size) { s3 with heap := pushCells (s3.heap.push { cls := .type "dict", data := .dict #[] }) scope.names }
  generalize hce : compEnvC scope (cellsFrom (s3.heap.objs.size + 1) scope.names (cloFrom X.env.cells scope.names [])) s3.heap.objs.size X.env = ce at I4 pg pe ⊢
  have cL : ce.locals = s3.heap.objs.size := by rw [← hce]; rfl
  generalize es4 : ({ s3 with heap := pushCells (s3.heap.push { cls := .type "dict", data := .dict #[] }) scope.names } : Shared) = s4 at I4 ⊢
  have st4 : tn 0 s4.heap := T.keep _ _ _ stb fun b _ o e => by
    rw [← es4]
    exact pushCells_keeps _ _ _ _ (Heap.get?_push_of_some _ (by rw [h3]; exact Heap.get?_push_of_some _ e))
  have still : ∀ {σ' : L2.St} {H' : Hp} {s' : Shared}, Inv (X.blk s3 H3 scope ce fp) [] σ' H' s' → (∀ b ∈ fp, H' b = none) → ∀ b ∈ fp, FpOk (X.blk s3 H3 scope ce fp) [] H' b := fun {σ' H' s'} I' hn b hbm =>
    ⟨hn b hbm, (I'.ok.exf b hbm).1, I'.ok.exfs b hbm, .inl hbm, fun x c e => (I'.ok.exf b hbm).2 x c e, fun p hp => absurd (show p ∈ ([] : List (Addr × Obj)) ++ [] from hp) (by simp)⟩
  have loop : codeAny (model X.prog X.w) X.A (.compLoop (.ListComp elt [⟨tg, iter, [], 0⟩] scope pos) 0 (.ref it) (.ref D) ce) (compPost (model X.prog X.w) X.A X.xe none (EP X pins σ Q) (.ref D) s3.heap.objs.size) s4 := by
    refine compLoop_any (fun n s' => ∃ i H', Inv (X.blk s3 H3 scope ce fp) [] (wipe σ (own.map (·.2))) H' s' ∧ tn i s'.heap ∧ (∀ b ∈ fp, H' b = none) ∧ W i n H') ?_ m0 ⟨0, H3, I4, st4, fun b hbm => (f3 b hbm).1.1, w0⟩
    rintro n s5 ⟨i, H5, I5, st5, n5, w5⟩
    rcases turn i n H5 w5 with ⟨stop, qq⟩ | ⟨go, Nx, hNx, step⟩
    · refine thnF (T.done (X.blk s3 H3 scope ce fp) rfl rfl rfl hc i [] s5 _ H5 (fun _ _ => False) I5 (still I5 n5) st5 stop) fun r s6 ⟨hr, I6⟩ => ?_
      subst hr
      have I7 : Inv X pins σ H5 s6 := I3.call' (ch := fp) I6.os I6.base I6.hok I6.bare fun b hbm => ⟨(f3 b hbm).1.2.2.2.1, (f3 b hbm).1.2.1, (f3 b hbm).1.2.2.2.2.1, (f3 b hbm).1.2.2.2.2.2⟩
      have nC : H5 s3.heap.objs.size = none := by
        rw [← cL]
        exact I6.free
      obtain ⟨m, hn, _⟩ := I6.loc
      have hn' : s6.heap.Ns s3.heap.objs.size m := by
        rw [← cL]
        exact hn
      obtain ⟨k0, k1, k3, k4, k5, k6⟩ := I3.fpOk (Nat.le_refl _) nC
      exact ⟨m, hn', fun h'' sbt => ⟨.ref D, H5, I7.turned (t' := s6.toks) (fun b o hbn e => (sbt.2 b hbn).trans e) k0 k1 k4 k5 k6, rfl, qq⟩⟩
    · refine thnF (T.item (X.blk s3 H3 scope ce fp) rfl rfl rfl hc i [] s5 _ H5 (fun _ _ => False) I5 (still I5 n5) st5 go) fun r s6 ⟨u, hr, h6⟩ => ?_
      subst hr
      refine thnF h6 fun _ s7 ⟨x, H7, I7, r7, y7, st7, n7⟩ => ?_
      refine thnF (pg.run _ s7 _ H7 x u _ (I7.pinned (still I7 n7) (T.obj _ _ st7)) r7 (step x H7 y7)) fun _ s8 ⟨σ8, H8, I8, hw8, q8⟩ => ?_
      refine thnF ((pts_nil (X := X.blk s3 H3 scope ce fp)).run _ s8 σ8 H8 _ I8 q8) fun b s9 ⟨H9, I9, q9⟩ => ?_
      have onward : ∀ {s' : Shared} {H' : Hp}, Inv (X.blk s3 H3 scope ce fp) ([] ++ pinsAt fp s7.heap) σ8 H' s' → Nx H' → ∃ m, m < n ∧ ∃ i H', Inv (X.blk s3 H3 scope ce fp) [] (wipe σ (own.map (·.2))) H' s' ∧ tn i s'.heap ∧ (∀ b ∈ fp, H' b = none) ∧ W i m H' := fun {s' H'} I' nx => by
        obtain ⟨m', hm, w'⟩ := hNx H' nx
        have fixed : ∀ b ∈ fp, ∀ o, s7.heap.get? b = some o → s'.heap.get? b = some o ∧ H' b = none := fun b hbm o e =>
          let z := I'.pin (b, o) (List.mem_append_right _ (List.mem_append_right _ (mem_pinsAt hbm e)))
          ⟨z.1, z.2.1⟩
        refine ⟨m', hm, i + 1, H', (I'.unpinned (pins := [])).weak (by rw [← hw8, wipe_length]) (fun j v e => ?_), T.keep _ _ _ st7 fun b hbm o e => (fixed b hbm o e).1, fun b hbm => ?_, w'⟩
        · rw [← hw8] at e
          exact (wipe_some e).1
        · obtain ⟨o, e, _⟩ := T.obj _ _ st7 b hbm
          exact (fixed b hbm o e).2
      cases b with
      | false =>
        simp only [Bool.false_eq_true, if_false] at q9 ⊢
        exact onward I9 q9
      | true =>
        simp only [if_true] at q9 ⊢
        refine thnF (pe.run _ s9 σ8 H9 _ I9 q9) fun z s10 ⟨yv, H10, I10, r10, acc, hD10, hz10, nx⟩ => ?_
        exact app_ok (X := X.blk s3 H3 scope ce fp) I10 hD10 hz10 r10 fun s11 I11 => onward I11 nx
  exact codeAny_compStart_list loop (T.self X.A 0 _ _ _ st4 loop)
end
end LD

set_option maxHeartbeats 4000000
namespace N4
open PySem PySem.Spec PyProof.Rows L2 Evl
open SX (S)
abbrev FnP (K : PySem.W.Frag) (x : Str) (st : Stmt) (f : Addr) (fd : FuncData) : Prop := FunD K x x (L2.defArgs st) (L2.defBody st) (L2.defScope st) [] [] f fd
structure Cl (P : Program) (w : World) (K : PySem.W.Frag) (mg : Str → Option Value) (base : Heap) (CX : CXT) (k : Nat) (x : Str) (ps : List Str) (sp : Sp) : Prop where
  ex : ∃ (f : Addr) (fd : FuncData), FnOk P w K mg base CX k f fd ps sp ∧ mg x = some (.ref f) ∧ PySem.W.keepIn K (.ref f) = true ∧ Binds K fd ps []
theorem pe_cl {X : Cx} {k j : Nat} {x : Str} {ps : List Str} {sp : Sp} {p pos : Pos} {e : Expr} {es : List Expr} {t : TA} (c : Cl X.prog X.w X.K X.mg X.base L2.CX0 k x ps sp) (hr : Room j X.A) (hk : k ≤ j) (hg : Gl X x) (ha : PA X (e :: es) t)
    (hdb : (x == ("__debug__" : Str)) = false := by decide) (he : starEach (e :: es) X.env = (false, eval e X.env) :: starEach es X.env := by rfl) (hpl : (backTo pos (starEach es X.env)).any (·.1) = false := by rfl) :
    PE X (.Call (.Name x p) (e :: es) [] pos) (tCall sp [] L2.E0 t) := by
  obtain ⟨f, fd, F, hm, hkp, hb⟩ := c.ex
  exact pe_call F (hr.mono hk) hg hm hkp hb .nil L2.pass0 ha hdb he hpl
structure Bt (mg : Str → Option Value) : Prop where
  isi : mg "isinstance" = none
  str : mg "str" = none
  len : mg "len" = none
  all : mg "all" = none
  sum : mg "sum" = none
  int : mg "int" = none
  range : mg "range" = none
  bool : mg "bool" = none
  list : mg "list" = none
  tuple : mg "tuple" = none
  set : mg "set" = none
  ord : mg "ord" = none
  sorted : mg "sorted" = none
  enumerate : mg "enumerate" = none
  any : mg "any" = none
  max : mg "max" = none
  zip : mg "zip" = none
section
variable {K : PySem.W.Frag} {σ : L2.St} {H H' : Hp} {ta tb tc te : TE} {t u : TT} {x y z v : V}
theorem ev_chain {r r' : R2} {a b : Bool} (ha : Ev ta σ H x) (hb : Ev tb σ H y) (h1 : RV r x y H (.bl a)) (h2 : a = true → Ev tc σ H z ∧ RV r' y z H (.bl b)) : Ev (tChain r r' ta tb tc) σ H (.bl (a && b)) := fun H1 e Q q =>
  ha H1 e _ fun H2 e2 => hb H2 (e.trans e2) _ fun H3 e3 => h1 H3 ((e.trans e2).trans e3) _ fun H4 e4 => ⟨a, rfl, by
    cases a with
    | true =>
      obtain ⟨hc, hr⟩ := h2 rfl
      have e5 := ((e.trans e2).trans e3).trans e4
      show tc σ H4 fun w' H5 => r' y w' H5 Q
      exact hc H4 e5 _ fun H5 e6 => hr H5 (e5.trans e6) _ fun H6 e7 => q H6 ((((e2.trans e3).trans e4).trans e6).trans e7)
    | false =>
      show Q (.bl false) H4
      exact q H4 ((e2.trans e3).trans e4)⟩
end
section
variable {K : PySem.W.Frag} {σ : L2.St} {H H' : Hp} {ta tb tc te : TE} {t u : TT} {x y z v : V}
def NoStr (K : PySem.W.Frag) (H : Hp) (x : V) : Prop := ∃ T : String, TyX K H x (.type T) ∧ kitB T "str" = some false
end
section
variable {K : PySem.W.Frag} {σ : L2.St} {H H' : Hp} {ta tb tc te : TE} {t u : TT} {x y z v : V}
theorem TyOf.ex {t : Value} (e : Ex H H') (h : TyOf K H x t) : TyOf K H' x t := by
  cases h with
  | non => exact .non
  | bl b => exact .bl b
  | int i => exact .int i
  | str z => exact .str z
  | flt b => exact .flt b
  | lst h => exact .lst (e _ _ h)
  | frz h => exact .frz (e _ _ h)
  | tup h => exact .tup (e _ _ h)
  | dK h => exact .dK (e _ _ h)
  | dT h => exact .dT (e _ _ h)
  | ins h a b c d f => exact .ins (e _ _ h) a b c d f
end
section
variable {K : PySem.W.Frag} {σ : L2.St} {H H' : Hp} {ta tb tc te : TE} {t u : TT} {x y z v : V}
theorem TyX.ex {t : Value} (e : Ex H H') (h : TyX K H x t) : TyX K H' x t := by
  cases h with
  | base h => exact .base (TyOf.ex e h)
  | byt b => exact .byt b
  | set h => exact .set (e _ _ h)
  | kList a b => exact .kList a b
  | kTuple a b => exact .kTuple a b
  | kDict a b => exact .kDict a b
  | fTuple h => exact .fTuple (e _ _ h)
  | fDict h => exact .fDict (e _ _ h)
end
section
variable {K : PySem.W.Frag} {σ : L2.St} {H H' : Hp} {ta tb tc te : TE} {t u : TT} {x y z v : V}
theorem NoStr.ex (e : Ex H H') (h : NoStr K H x) : NoStr K H' x := by
  obtain ⟨T, a, b⟩ := h
  exact ⟨T, TyX.ex e a, b⟩
end
section
variable {K : PySem.W.Frag} {σ : L2.St} {H H' : Hp} {ta tb tc te : TE} {t u : TT} {x y z v : V}
theorem ev_isi {T U : String} {b : Bool} (h : Ev te σ H x) (ty : TyX K H x (.type T)) (k : kitB T U = some b) : Ev (tCB (rIsi K) (tCons te (tCons (tC (.ty U)) tNil))) σ H (.bl b) := fun H1 e Q q =>
  h H1 e _ fun H2 e2 => ⟨x, .ty U, .type T, .type U, b, rfl, .ty U, TyX.ex (e.trans e2) ty, kit_ty k, q H2 e2⟩
end
section
variable {K : PySem.W.Frag} {σ : L2.St} {H H' : Hp} {ta tb tc te : TE} {t u : TT} {x y z v : V}
theorem ev_isStr {l : Str} (h : Ev te σ H (.str l)) : Ev (tCB (rIsi K) (tCons te (tCons (tC (.ty "str")) tNil))) σ H (.bl true) := ev_isi h (.base (.str l)) (by decide +kernel)
end
section
variable {K : PySem.W.Frag} {σ : L2.St} {H H' : Hp} {ta tb tc te : TE} {t u : TT} {x y z v : V}
theorem ev_noStr (h : Ev te σ H x) (n : NoStr K H x) : Ev (tCB (rIsi K) (tCons te (tCons (tC (.ty "str")) tNil))) σ H (.bl false) := by
  obtain ⟨T, a, b⟩ := n
  exact ev_isi h a b
end
section
variable {K : PySem.W.Frag} {σ : L2.St} {H H' : Hp} {ta tb tc te : TE} {t u : TT} {x y z v : V}
abbrev rLenT : List V → Hp → VK → Prop := fun xs H Q => ∃ z, xs = [.str z] ∧ z.length ≤ sizeLine ∧ Q (.int z.length) H
end
section
variable {K : PySem.W.Frag} {σ : L2.St} {H H' : Hp} {ta tb tc te : TE} {t u : TT} {x y z v : V}
theorem ev_lenS {l : List Nat} (h : Ev te σ H (.str (S l))) (hl : l.length ≤ 40000) : Ev (tCB rLenT (tCons te tNil)) σ H (.int (l.length : Int)) := fun H1 e Q q =>
  h H1 e _ fun H2 e2 => ⟨S l, rfl, by rw [SX.S_len]; exact sz_of (by omega), by rw [SX.S_len]; exact q H2 e2⟩
end
section
variable {K : PySem.W.Frag} {σ : L2.St} {H H' : Hp} {ta tb tc te : TE} {t u : TT} {x y z v : V}
theorem ev_all {bs : List Bool} (h : EvL te σ H (bs.map V.bl)) : Ev (tCB (rAll K) (tCons te tNil)) σ H (.bl (bs.all id)) := fun H1 e Q q =>
  h H1 e _ fun p H2 hp e2 h2 => ⟨p, bs, rfl, sq_of h2, q H2 e2⟩
end
section
variable {K : PySem.W.Frag} {σ : L2.St} {H H' : Hp} {ta tb tc te : TE} {t u : TT} {x y z v : V}
theorem el_lcS {l : List Nat} {tl : TE} {j : Nat} {vs : List Nat} (f : Nat → Bool) (v : Nat → V) (h : Ev tl σ H (.str (S l))) (hz : l.length ≤ 40000) (hw : ∀ x, wipe ((wipe σ vs).set j (some x)) vs = wipe σ vs)
    (ht : ∀ (i c : Nat) H1, Ex H H1 → l[i]? = some c → EvT t ((wipe σ vs).set j (some (.str (S [c])))) H1 (f i)) (he : ∀ (i c : Nat) H1, Ex H H1 → l[i]? = some c → f i = true → Ev te ((wipe σ vs).set j (some (.str (S [c])))) H1 (v i)) :
    EvL (tLc (iStr tl) (gName j) t te vs) σ H (given l.length f v) := fun H0 e Q q => h H0 e _ fun H1 e1 => ⟨S l, rfl, fun Dl hD =>
  lc_it (n := l.length) (walk_str (z := S l)) (Cw H1 f v Dl) ⟨hD, Ex.new hD, upd_same⟩ (fun _ _ _ _ => True.intro) (fun i x H' H2 hi p y => by
    obtain ⟨rfl, c, hc, rfl⟩ := y
    have hc2 : l[i]? = some c := by
      have : (S l).cps[i]? = l[i]? := by simp [S]
      rw [← this]
      exact hc
    exact ⟨hw _, cw_turn p (by omega) (ht i c H1 (e.trans e1) hc2) (fun hf => he i c H1 (e.trans e1) hc2 hf)⟩)
    (fun H' p => q Dl H' (fresh_back e1 p.1) (e1.trans p.2.1) p.2.2)⟩
end
section
variable {K : PySem.W.Frag} {σ : L2.St} {H H' : Hp} {ta tb tc te : TE} {t u : TT} {x y z v : V}
theorem given_all {α : Type} (l : List α) (g : α → V) (v : Nat → V) (h : ∀ i c, l[i]? = some c → v i = g c) : given l.length (fun _ => true) v = l.map g := by
  unfold given
  rw [List.filter_eq_self.mpr (fun _ _ => rfl)]
  refine List.ext_getElem? fun i => ?_
  rw [List.getElem?_map, List.getElem?_map]
  by_cases hi : i < l.length
  · rw [List.getElem?_range hi, List.getElem?_eq_getElem hi]
    exact congrArg some (h i _ (List.getElem?_eq_getElem hi))
  · rw [List.getElem?_eq_none (by rw [List.length_range]; omega), List.getElem?_eq_none (by omega)]
    rfl
end
section
variable {K : PySem.W.Frag} {σ : L2.St} {H H' : Hp} {ta tb tc te : TE} {t u : TT} {x y z v : V}
def Told (K : PySem.W.Frag) (H : Hp) (x : V) (f : List Nat → Bool) (b : Bool) : Prop := (∃ l, x = .str (S l) ∧ l.length ≤ 20000 ∧ b = f l) ∨ (NoStr K H x ∧ b = false)
end
section
variable {K : PySem.W.Frag} {σ : L2.St} {H H' : Hp} {ta tb tc te : TE} {t u : TT} {x y z v : V}
theorem Told.ex {f : List Nat → Bool} {b : Bool} (e : Ex H H') (h : Told K H x f b) : Told K H' x f b := by
  rcases h with h | ⟨h, e2⟩
  · exact .inl h
  · exact .inr ⟨NoStr.ex e h, e2⟩
end
section
variable {K : PySem.W.Frag} {σ : L2.St} {H H' : Hp} {ta tb tc te : TE} {t u : TT} {x y z v : V}
theorem rv_le {i j : Int} : RV (rI0 fun i j => .bl (decide (i ≤ j))) (.int i) (.int j) H (.bl (decide (i ≤ j))) := rv_I0
end
section
variable {K : PySem.W.Frag} {σ : L2.St} {H H' : Hp} {ta tb tc te : TE} {t u : TT} {x y z v : V}
theorem rv_is {r : R2} (h : RV r x y H z) (e : z = v) : RV r x y H v := e ▸ h
end
section
variable {K : PySem.W.Frag} {σ : L2.St} {H H' : Hp} {ta tb tc te : TE} {t u : TT} {x y z v : V}
theorem bl_iff {p q : Prop} [Decidable p] [Decidable q] (h : p ↔ q) : V.bl (decide p) = V.bl (decide q) := congrArg V.bl (decide_eq_decide.mpr h)
end
section
variable {K : PySem.W.Frag} {σ : L2.St} {H H' : Hp} {ta tb tc te : TE} {t u : TT} {x y z v : V}
theorem all_map {α : Type} (l : List α) (f : α → Bool) : (l.map f).all id = l.all f := by
  rw [List.all_map]; rfl
end
section
variable {K : PySem.W.Frag} {σ : L2.St} {H H' : Hp} {ta tb tc te : TE} {t u : TT} {x y z v : V}
theorem map_bl {α : Type} (l : List α) (f : α → Bool) : l.map (fun c => V.bl (f c)) = (l.map f).map V.bl := by
  rw [List.map_map]; rfl
end
section
variable {K : PySem.W.Frag} {σ : L2.St} {H H' : Hp} {ta tb tc te : TE} {t u : TT} {x y z v : V}
theorem getD_of {α : Type} {l : List α} {i : Nat} {c d : α} (h : l[i]? = some c) : l.getD i d = c := by
  rw [List.getD_eq_getElem?_getD, h]; rfl
end
section
variable {P : Program} {w : World} {K : PySem.W.Frag} {mg : Str → Option Value} {base : Heap}
def spName (K : PySem.W.Frag) (f : List Nat → Bool) : Sp := fun vs H Q _ => ∃ (x : V) (b : Bool), vs = [x] ∧ Told K H x f b ∧ RetV (.bl b) H Q
end
section
variable {K : PySem.W.Frag} {σ : L2.St} {H H' : Hp} {te ta tb : TE} {t : TA} {r : R2} {v x : V} {D : Ends} {tz tu : TS} {Q : VK}
theorem q_asgAny {i : Nat} (h : te σ H fun v H1 => tz D (σ.set i (some v)) H1) : tSeq (tAsg te (gName i)) tz D σ H := h
end
section
variable {K : PySem.W.Frag} {σ : L2.St} {H H' : Hp} {te ta tb : TE} {t : TA} {r : R2} {v x : V} {D : Ends} {tz tu : TS} {Q : VK}
def RowAt (K : PySem.W.Frag) (H : Hp) (p : Addr) (xs : List V) : Prop := H p = some (.lst xs) ∨ H p = some (.tup xs)
end
section
variable {K : PySem.W.Frag} {σ : L2.St} {H H' : Hp} {te ta tb : TE} {t : TA} {r : R2} {v x : V} {D : Ends} {tz tu : TS} {Q : VK}
theorem RowAt.ex {p : Addr} {xs : List V} (h : RowAt K H p xs) (e : Ex H H') : RowAt K H' p xs := h.elim (fun h => .inl (e _ _ h)) fun h => .inr (e _ _ h)
end
section
variable {K : PySem.W.Frag} {σ : L2.St} {H H' : Hp} {te ta tb : TE} {t : TA} {r : R2} {v x : V} {D : Ends} {tz tu : TS} {Q : VK}
theorem ev_isiRow {p : Addr} {xs : List V} (h : Ev te σ H (.ref p)) (hp : RowAt K H p xs) : Ev (tCB (rIsiT K) (tCons te (tCons (tTup (tCons (tC (.ty "list")) (tCons (tC (.ty "tuple")) tNil))) tNil))) σ H (.bl true) := fun H1 e Q q =>
  h H1 e _ fun H2 e2 => ⟨by show 2 ≤ sizeLine; decide, fun T hT => by
    rcases hp with hp | hp
    · exact ⟨.ref p, T, [.ty "list", .ty "tuple"], .type "list", [.type "list", .type "tuple"], true, rfl, upd_same, .cons (.ty "list") (.cons (.ty "tuple") .nil), .base (.lst (((e.trans e2).trans (Ex.new hT)) _ _ hp)), by kernel_rfl, q _ (e2.trans (Ex.new hT))⟩
    · exact ⟨.ref p, T, [.ty "list", .ty "tuple"], .type "tuple", [.type "list", .type "tuple"], true, rfl, upd_same, .cons (.ty "list") (.cons (.ty "tuple") .nil), .base (.tup (((e.trans e2).trans (Ex.new hT)) _ _ hp)), by kernel_rfl, q _ (e2.trans (Ex.new hT))⟩⟩
end
theorem ps_never {X : Cx} {st : Stmt} : PS X st (fun _ _ _ => False) := ⟨fun _ _ _ _ _ _ h => h.elim⟩
def signsL : List Nat := [32, 33, 34, 35, 36, 38, 39, 40, 41, 42, 43, 44, 45, 46, 47, 48, 49, 50, 51, 52, 53, 54, 55, 56, 57, 58, 59, 60, 61, 62, 63, 64, 65, 66, 67, 68, 69, 70, 71, 72, 73, 74, 75, 76, 77, 78, 79, 80, 81, 82, 83, 84, 85, 86, 87, 88, 89, 90, 91, 92, 93, 94, 95, 96, 97, 98, 99, 100, 101, 102, 103, 104, 105, 106, 107, 108, 109, 110, 111, 112, 113, 114, 115, 116, 117, 118, 119, 120, 121, 122, 123, 124, 125, 126]
def isTextSign (c : Nat) : Bool := decide (c ∈ signsL)
section
variable {K : PySem.W.Frag} {σ : L2.St} {H H' : Hp} {te ta tb tl : TE} {t : TT} {r : R2} {v x : V} {D : Ends} {tz tu : TS} {Q : VK}
theorem rv_inS {c : Nat} {l : List Nat} {z : Str} (ez : z = S l) : RV (fun x y H Q => ∃ (c : Nat) (z : Str), x = .str ⟨#[c]⟩ ∧ y = .str z ∧ Q (.bl (decide (c ∈ z.cps.toList))) H) (.str (S [c])) (.str z) H (.bl (decide (c ∈ l))) := fun H1 e Q q => by
  subst ez
  exact ⟨c, S l, rfl, rfl, q H1 (Ex.refl H1)⟩
end
def Exa (a : Addr) (H H' : Hp) : Prop := ∀ b o, b ≠ a → H b = some o → H' b = some o
theorem Exa.of {a : Addr} {H H' : Hp} (e : Ex H H') : Exa a H H' := fun b o _ h => e b o h
theorem Exa.trans {a : Addr} {H H1 H2 : Hp} (x : Exa a H H1) (y : Exa a H1 H2) : Exa a H H2 := fun b o n h => y b o n (x b o n h)
section
variable {K : PySem.W.Frag} {σ : L2.St} {H H' : Hp} {te ta tb tl : TE} {t : TT} {r : R2} {v x : V} {D : Ends} {tz tu : TS} {Q : VK}
theorem rd_ret (h : te σ H D.rt) : tRet te D σ H := h
end
section
variable {K : PySem.W.Frag} {σ : L2.St} {H H' : Hp} {te ta tb tl : TE} {t : TT} {r : R2} {v x : V} {D : Ends} {tz tu : TS} {Q : VK}
theorem rd_cb {r : List V → Hp → VK → Prop} {ta : TA} (h : ta σ H fun vs H1 => r vs H1 Q) : tCB r ta σ H Q := h
end
section
variable {K : PySem.W.Frag} {σ : L2.St} {H H' : Hp} {te ta tb tl : TE} {t : TT} {r : R2} {v x : V} {D : Ends} {tz tu : TS} {Q : VK}
theorem rd_cons {QL : List V → Hp → Prop} {ta : TA} (h : te σ H fun x H1 => ta σ H1 fun xs H2 => QL (x :: xs) H2) : tCons te ta σ H QL := h
end
section
variable {K : PySem.W.Frag} {σ : L2.St} {H H' : Hp} {te ta tb tl : TE} {t : TT} {r : R2} {v x : V} {D : Ends} {tz tu : TS} {Q : VK}
theorem rd_tup {ta : TA} (h : ta σ H fun xs H1 => xs.length ≤ sizeLine ∧ ∀ p, H1 p = none → Q (.ref p) (upd H1 p (.tup xs))) : tTup ta σ H Q := h
end
section
variable {K : PySem.W.Frag} {σ : L2.St} {H H' : Hp} {te ta tb tl : TE} {t : TT} {r : R2} {v x : V} {D : Ends} {tz tu : TS} {Q : VK}
theorem rd_ev (h : Ev te σ H v) (k : ∀ H1, Ex H H1 → Q v H1) : te σ H Q := h H (Ex.refl H) Q k
end
section
variable {K : PySem.W.Frag} {σ : L2.St} {H H' : Hp} {te ta tb tl : TE} {t : TT} {r : R2} {v x : V} {D : Ends} {tz tu : TS} {Q : VK}
theorem rd_call {sp : Sp} {ta : TA} (h : ta σ H fun vs H1 => sp (vs ++ []) H1 Q L2.E0) : tCall sp [] L2.E0 ta σ H Q := h
end
section
variable {K : PySem.W.Frag} {σ : L2.St} {H H' : Hp} {te ta tb tl : TE} {t : TT} {r : R2} {v x : V} {D : Ends} {tz tu : TS} {Q : VK}
theorem rd_nil {QL : List V → Hp → Prop} (h : QL [] H) : tNil σ H QL := h
end
section
variable {K : PySem.W.Frag} {σ : L2.St} {H H' : Hp} {te : TE}
abbrev rInt1 : List V → Hp → VK → Prop := fun xs H Q => (∃ i, xs = [.int i] ∧ Q (.int i) H) ∨ ∃ k, xs = [.bl k] ∧ Q (.int (if k then 1 else 0)) H
end
section
variable {K : PySem.W.Frag} {σ : L2.St} {H H' : Hp} {te : TE}
theorem ev_intB {k : Bool} (h : Ev te σ H (.bl k)) : Ev (tCB rInt1 (tCons te tNil)) σ H (.int (if k then 1 else 0)) := fun H1 e Q q => h H1 e _ fun H2 e2 => .inr ⟨k, rfl, q H2 e2⟩
end
section
variable {K : PySem.W.Frag} {σ : L2.St} {H H' : Hp} {te : TE}
theorem ev_intI {i : Int} (h : Ev te σ H (.int i)) : Ev (tCB rInt1 (tCons te tNil)) σ H (.int i) := fun H1 e Q q => h H1 e _ fun H2 e2 => .inl ⟨i, rfl, q H2 e2⟩
end
theorem Exa.refl (a : Addr) (H : Hp) : Exa a H H := fun _ _ _ h => h
theorem Exa.upd {a : Addr} {H : Hp} {o : HO} : Exa a H (upd H a o) := fun b o n h => by rw [upd_ne n]; exact h
theorem Exa.ex {a : Addr} {H H1 H2 : Hp} (h : H a = none) (e : Ex H H1) (x : Exa a H1 H2) : Ex H H2 := fun b o hb => x b o (fun q => by rw [q, h] at hb; cases hb) (e b o hb)
def WellAt (H : Hp) (a : Addr) (n : Nat) : Prop := ∃ x c : Int, H a = some (.lst [.int x, .int c]) ∧ 0 ≤ c ∧ c ≤ n
theorem WellAt.ex {H H' : Hp} {a : Addr} {n : Nat} (e : Ex H H') (h : WellAt H a n) : WellAt H' a n := by
  obtain ⟨x, c, h1, h2⟩ := h
  exact ⟨x, c, e _ _ h1, h2⟩
theorem WellAt.le {H : Hp} {a : Addr} {n m : Nat} (h : WellAt H a n) (e : n ≤ m) : WellAt H a m := by
  obtain ⟨x, c, h1, h2, h3⟩ := h
  exact ⟨x, c, h1, h2, by omega⟩
def spWell : Sp := fun vs H Q _ => ∃ i : Int, vs = [.int i] ∧ ∀ a H', H a = none → Ex H H' → WellAt H' a 0 → Q (.ref a) H'
def spDraw : Sp := fun vs H Q _ => ∃ (a : Addr) (m : Int) (n : Nat), vs = [.ref a, .int m] ∧ 0 < m ∧ m < 1000000 ∧ WellAt H a n ∧ n ≤ 1000000 ∧ ∀ d H', 0 ≤ d → d < m → Exa a H H' → WellAt H' a (n + 1) → Q (.int d) H'
section
variable {K : PySem.W.Frag} {σ : L2.St} {H H' : Hp} {ta tb tc te : TE} {tl th : TO} {t u : TT} {x y z v : V} {D : Ends}
theorem rv_mod {i j : Int} (h : 0 < j) : RV (rI (fun _ j => 0 < j) fun i j => .int (i % j)) (.int i) (.int j) H (.int (i % j)) := rv_I h
end
section
variable {K : PySem.W.Frag} {σ : L2.St} {H H' : Hp} {ta tb tc te : TE} {tl th : TO} {t u : TT} {x y z v : V} {D : Ends}
theorem rv_mulS {i j : Int} (h1 : i.natAbs < 2 ^ 64) (h2 : j.natAbs < 2 ^ 64) : RV (rI CMulW fun i j => .int (i * j)) (.int i) (.int j) H (.int (i * j)) := rv_I (wide_mul h1 h2 (by decide) (by decide) (by decide))
end
section
variable {K : PySem.W.Frag} {σ : L2.St} {H H' : Hp} {ta tb tc te : TE} {tl th : TO} {t u : TT} {x y z v : V} {D : Ends}
theorem rv_fdivS {i j : Int} (h0 : 0 < j) (h2 : j.natAbs < 2 ^ 64) : RV (rI CDivW fun i j => .int (i / j)) (.int i) (.int j) H (.int (i / j)) := rv_I (wide_div h0 h2 (by decide) (by decide))
end
section
variable {K : PySem.W.Frag} {σ : L2.St} {H H' : Hp} {ta tb tc te : TE} {tl th : TO} {t u : TT} {x y z v : V} {D : Ends}
theorem dr_draw {a : Addr} {m : Int} {n : Nat} {Q : VK} (ha : Ev ta σ H (.ref a)) (hm : Ev tb σ H (.int m)) (h0 : 0 < m) (h1 : m < 1000000) (hw : WellAt H a n) (hn : n ≤ 1000000)
    (k : ∀ d H', 0 ≤ d → d < m → Exa a H H' → WellAt H' a (n + 1) → Q (.int d) H') : tCall spDraw [] L2.E0 (tCons ta (tCons tb tNil)) σ H Q :=
  ea_cons ha (ea_cons hm ea_nil) H (Ex.refl H) _ fun H1 x1 => ⟨a, m, n, rfl, h0, h1, hw.ex x1, hn, fun d H' a1 a2 a3 a4 => k d H' a1 a2 ((Exa.of x1).trans a3) a4⟩
end
theorem pe_cl0 {X : Cx} {k j : Nat} {x : Str} {sp : Sp} {p pos : Pos} (c : Cl X.prog X.w X.K X.mg X.base L2.CX0 k x [] sp) (hr : Room j X.A) (hk : k ≤ j) (hg : Gl X x) (hdb : (x == ("__debug__" : Str)) = false := by decide) :
    PE X (.Call (.Name x p) [] [] pos) (tCall sp [] L2.E0 tNil) := by
  obtain ⟨f, fd, F, hm, hkp, hb⟩ := c.ex
  exact pe_call0 F (hr.mono hk) hg hm hkp hb .nil L2.pass0 hdb
def spOne : Sp := fun vs H Q _ => ∃ (a p : Addr) (xs : List V) (n : Nat), vs = [.ref a, .ref p] ∧ H p = some (.lst xs) ∧ p ≠ a ∧ xs ≠ [] ∧ xs.length ≤ 1000 ∧ WellAt H a n ∧ n ≤ 1000000 ∧ ∀ v H', v ∈ xs → Exa a H H' → WellAt H' a (n + 1) → Q v H'
theorem atI_some {α : Type} {xs : List α} {d : Int} (h0 : 0 ≤ d) (h1 : d < xs.length) : ∃ v, atI xs d = some v ∧ v ∈ xs := by
  have hi : d.toNat < xs.length := by omega
  refine ⟨xs[d.toNat], ?_, List.getElem_mem _⟩
  have := atI_nat (List.getElem?_eq_getElem hi)
  rwa [show ((d.toNat : Nat) : Int) = d by omega] at this
theorem well_ne {a p : Addr} {n : Nat} {H : Hp} (hw : WellAt H a n) (h : H p = none) : p ≠ a := by
  obtain ⟨y, c, h1, _⟩ := hw
  exact fun e => by rw [e, h1] at h; cases h
section
variable {K : PySem.W.Frag} {σ : L2.St} {H H' : Hp} {te ta : TE} {t : TA} {r : R2} {v x : V} {D : Ends} {tz tu : TS} {Q : VK}
theorem rd_seq (h : tu { D with nx := tz D } σ H) : tSeq tu tz D σ H := h
end
section
variable {K : PySem.W.Frag} {σ : L2.St} {H H' : Hp} {te ta : TE} {t : TA} {r : R2} {v x : V} {D : Ends} {tz tu : TS} {Q : VK}
theorem rd_lst (h : t σ H fun xs H1 => xs.length ≤ sizeLine ∧ ∀ p, H1 p = none → Q (.ref p) (upd H1 p (.lst xs))) : tLst t σ H Q := h
end
section
variable {K : PySem.W.Frag} {σ : L2.St} {H H' : Hp} {te ta : TE} {t : TA} {r : R2} {v x : V} {D : Ends} {tz tu : TS} {Q : VK}
theorem rd_op (h : ta σ H fun x H1 => te σ H1 fun y H2 => r x y H2 Q) : tOp r ta te σ H Q := h
end
section
variable {K : PySem.W.Frag} {σ : L2.St} {H H' : Hp} {te ta : TE} {t : TA} {r : R2} {v x : V} {D : Ends} {tz tu : TS} {Q : VK}
theorem rd_c (h : Q v H) : tC v σ H Q := h
end
section
variable {K : PySem.W.Frag} {σ : L2.St} {H H' : Hp} {te ta tb tl : TE} {tq tr : TA} {r : R2} {v x : V} {D : Ends} {tz tu : TS} {Q : VK}
inductive Objs (H1 H2 : Hp) : List V → List HO → Prop where
  | nil : Objs H1 H2 [] []
  | cons {q : Addr} {o : HO} {gs : List V} {os : List HO} : H1 q = none → H2 q = some o → Objs H1 H2 gs os → Objs H1 H2 (.ref q :: gs) (o :: os)
end
section
variable {K : PySem.W.Frag} {σ : L2.St} {H H' : Hp} {te ta tb tl : TE} {tq tr : TA} {r : R2} {v x : V} {D : Ends} {tz tu : TS} {Q : VK}
theorem Objs.ex {H1 H2 H3 : Hp} {gs : List V} {os : List HO} (h : Objs H1 H2 gs os) (e : Ex H2 H3) : Objs H1 H3 gs os := by
  induction h with
  | nil => exact .nil
  | cons a b _ ih => exact .cons a (e _ _ b) ih
end
section
variable {K : PySem.W.Frag} {σ : L2.St} {H H' : Hp} {te ta tb tl : TE} {tq tr : TA} {r : R2} {v x : V} {D : Ends} {tz tu : TS} {Q : VK}
theorem Objs.back {H0 H1 H2 : Hp} {gs : List V} {os : List HO} (h : Objs H1 H2 gs os) (e : Ex H0 H1) : Objs H0 H2 gs os := by
  induction h with
  | nil => exact .nil
  | cons a b _ ih => exact .cons (fresh_back e a) b ih
end
section
variable {K : PySem.W.Frag} {σ : L2.St} {H H' : Hp} {te ta tb tl : TE} {tq tr : TA} {r : R2} {v x : V} {D : Ends} {tz tu : TS} {Q : VK}
theorem Objs.len {H1 H2 : Hp} {gs : List V} {os : List HO} (h : Objs H1 H2 gs os) : gs.length = os.length := by
  induction h with
  | nil => rfl
  | cons _ _ _ ih => exact congrArg Nat.succ ih
end
section
variable {K : PySem.W.Frag} {σ : L2.St} {H H' : Hp} {te ta tb tl : TE} {tq tr : TA} {r : R2} {v x : V} {D : Ends} {tz tu : TS} {Q : VK}
theorem Objs.get {H1 H2 : Hp} {gs : List V} {os : List HO} (h : Objs H1 H2 gs os) {v : V} (hv : v ∈ gs) : ∃ q, v = .ref q ∧ H1 q = none ∧ ∃ o ∈ os, H2 q = some o := by
  induction h with
  | nil => cases hv
  | cons a b _ ih =>
    rcases List.mem_cons.mp hv with rfl | hv
    · exact ⟨_, rfl, a, _, List.mem_cons_self, b⟩
    · obtain ⟨q, e, n, o, ho, hq⟩ := ih hv
      exact ⟨q, e, n, o, List.mem_cons_of_mem _ ho, hq⟩
end
section
variable {K : PySem.W.Frag} {σ : L2.St} {H H' : Hp} {te ta tb tl : TE} {tq tr : TA} {r : R2} {v x : V} {D : Ends} {tz tu : TS} {Q : VK}
def EvOs (tq : TA) (σ : L2.St) (os : List HO) : Prop := ∀ H1, ∀ Q : List V → Hp → Prop, (∀ gs H2, Ex H1 H2 → Objs H1 H2 gs os → Q gs H2) → tq σ H1 Q
end
section
variable {K : PySem.W.Frag} {σ : L2.St} {H H' : Hp} {te ta tb tl : TE} {tq tr : TA} {r : R2} {v x : V} {D : Ends} {tz tu : TS} {Q : VK}
theorem eo_nil : EvOs tNil σ [] := fun H1 Q q => q [] H1 (Ex.refl H1) .nil
end
section
variable {K : PySem.W.Frag} {σ : L2.St} {H H' : Hp} {te ta tb tl : TE} {tq tr : TA} {r : R2} {v x : V} {D : Ends} {tz tu : TS} {Q : VK}
theorem eo_L {xs : List V} {os : List HO} (h : ∀ H, EvL te σ H xs) (hr : EvOs tr σ os) : EvOs (tCons te tr) σ (.lst xs :: os) := fun H1 Q q => h H1 H1 (Ex.refl H1) _ fun p H2 hp e2 h2 => hr H2 _ fun gs H3 e3 h3 => q _ H3 (e2.trans e3) (.cons hp (e3 _ _ h2) (h3.back e2))
end
section
variable {K : PySem.W.Frag} {σ : L2.St} {H H' : Hp} {te ta tb tl : TE} {tq tr : TA} {r : R2} {v x : V} {D : Ends} {tz tu : TS} {Q : VK}
theorem eo_U {xs : List V} {os : List HO} (h : ∀ H, EvU te σ H xs) (hr : EvOs tr σ os) : EvOs (tCons te tr) σ (.tup xs :: os) := fun H1 Q q => h H1 H1 (Ex.refl H1) _ fun p H2 hp e2 h2 => hr H2 _ fun gs H3 e3 h3 => q _ H3 (e2.trans e3) (.cons hp (e3 _ _ h2) (h3.back e2))
end
section
variable {K : PySem.W.Frag} {σ : L2.St} {H H' : Hp} {te ta tb tl : TE} {tq tr : TA} {r : R2} {v x : V} {D : Ends} {tz tu : TS} {Q : VK}
theorem rd_objs {os : List HO} (h : EvOs tq σ os) (hl : os.length ≤ 1000) (k : ∀ p gs H1, H p = none → Ex H H1 → H1 p = some (.lst gs) → Objs H H1 gs os → Q (.ref p) H1) : tLst tq σ H Q :=
  h H _ fun gs H1 e1 h1 => ⟨sz_of (by rw [h1.len]; omega), fun p hp => k p gs _ (fresh_back e1 hp) (e1.trans (Ex.new hp)) upd_same (h1.ex (Ex.new hp))⟩
end
section
variable {K : PySem.W.Frag} {σ : L2.St} {H H' : Hp} {te ta tb tl : TE} {tq tr : TA} {r : R2} {v x : V} {D : Ends} {tz tu : TS} {Q : VK}
theorem dr_one {a p : Addr} {xs : List V} {n : Nat} (h0 : Ev ta σ H (.ref a)) (h1 : Ev tb σ H (.ref p)) (hp : H p = some (.lst xs)) (hpa : p ≠ a) (hne : xs ≠ []) (hl : xs.length ≤ 1000) (hw : WellAt H a n) (hn : n ≤ 1000000) (k : ∀ v H', v ∈ xs → Exa a H H' → WellAt H' a (n + 1) → Q v H') :
    tCall spOne [] L2.E0 (tCons ta (tCons tb tNil)) σ H Q :=
  ea_cons h0 (ea_cons h1 ea_nil) H (Ex.refl H) _ fun H1 e1 => ⟨a, p, xs, n, rfl, e1 _ _ hp, hpa, hne, hl, hw.ex e1, hn, fun v H' hv xa hw' => k v H' hv ((Exa.of e1).trans xa) hw'⟩
end
section
variable {K : PySem.W.Frag} {σ : L2.St} {H H' : Hp} {te ta tb tl : TE} {tq tr : TA} {r : R2} {v x : V} {D : Ends} {tz tu : TS} {Q : VK}
theorem dr_oneL {a : Addr} {xs : List V} {n : Nat} (h0 : Ev ta σ H (.ref a)) (h1 : EvL tb σ H xs) (hne : xs ≠ []) (hl : xs.length ≤ 1000) (hw : WellAt H a n) (hn : n ≤ 1000000) (k : ∀ v H', v ∈ xs → Exa a H H' → WellAt H' a (n + 1) → Q v H') :
    tCall spOne [] L2.E0 (tCons ta (tCons tb tNil)) σ H Q :=
  rd_call (rd_cons (rd_ev h0 fun H1 e1 => rd_cons (h1 H1 e1 _ fun p H2 hp e2 h2 => rd_nil ⟨a, p, xs, n, rfl, h2, well_ne (hw.ex e1) hp, hne, hl, (hw.ex e1).ex e2, hn, fun v H' hv xa hw' => k v H' hv ((Exa.of (e1.trans e2)).trans xa) hw'⟩)))
end
section
variable {K : PySem.W.Frag} {σ : L2.St} {H H' : Hp} {te ta tb tl : TE} {tq tr : TA} {r : R2} {v x : V} {D : Ends} {tz tu : TS} {Q : VK}
theorem dr_oneO {a : Addr} {os : List HO} {n : Nat} (h0 : Ev ta σ H (.ref a)) (h1 : EvOs tq σ os) (hne : os ≠ []) (hl : os.length ≤ 1000) (hw : WellAt H a n) (hn : n ≤ 1000000) (k : ∀ q o H', o ∈ os → Exa a H H' → WellAt H' a (n + 1) → H' q = some o → q ≠ a → Q (.ref q) H') :
    tCall spOne [] L2.E0 (tCons ta (tCons (tLst tq) tNil)) σ H Q :=
  rd_call (rd_cons (rd_ev h0 fun H1 e1 => rd_cons (rd_objs h1 hl fun p gs H2 hp e2 h2 ho => rd_nil ⟨a, p, gs, n, rfl, h2, well_ne (hw.ex e1) hp, (fun z => by
      subst z
      have := ho.len
      cases os with
      | nil => exact hne rfl
      | cons => cases this), by rw [ho.len]; exact hl, (hw.ex e1).ex e2, hn, fun v H' hv xa hw' => by
    obtain ⟨q, rfl, hq, o, hm, hqo⟩ := ho.get hv
    have nqa := well_ne (hw.ex e1) hq
    exact k q o H' hm ((Exa.of (e1.trans e2)).trans xa) hw' (xa _ _ nqa hqo) nqa⟩)))
end
end N4

set_option maxHeartbeats 4000000
namespace N4
open PySem PySem.Spec PyProof.Rows L2 Evl
open SX (S)
def topS (i : Nat) : Stmt := PySem.Challenge.pw_typegate_k40_texts_as_bytes.main.body.getD i (.Pass ⟨0, 0, 0, 0⟩)
abbrev sIsInteger : Stmt := topS 5
theorem scIsInteger : FnScope ["thing"] ["thing"] (L2.defScope sIsInteger) := ⟨rfl, rfl, rfl, by decide +kernel, rfl, by decide +kernel, by decide +kernel⟩
abbrev sIsWithin : Stmt := topS 6
theorem scIsWithin : FnScope ["thing", "low", "high"] ["thing", "low", "high"] (L2.defScope sIsWithin) := ⟨rfl, rfl, rfl, by decide +kernel, rfl, by decide +kernel, by decide +kernel⟩
abbrev sIsRow : Stmt := topS 7
theorem scIsRow : FnScope ["thing"] ["thing"] (L2.defScope sIsRow) := ⟨rfl, rfl, rfl, by decide +kernel, rfl, by decide +kernel, by decide +kernel⟩
abbrev sIsText : Stmt := topS 11
theorem scIsText : FnScope ["thing", "sign"] ["thing"] (L2.defScope sIsText) := ⟨rfl, rfl, rfl, by decide +kernel, rfl, by decide +kernel, by decide +kernel⟩
abbrev sIsRowOfBytes : Stmt := topS 14
theorem scIsRowOfBytes : FnScope ["thing", "byte"] ["thing"] (L2.defScope sIsRowOfBytes) := ⟨rfl, rfl, rfl, by decide +kernel, rfl, by decide +kernel, by decide +kernel⟩
abbrev sLawWell : Stmt := topS 16
theorem scLawWell : FnScope ["cell"] ["cell"] (L2.defScope sLawWell) := ⟨rfl, rfl, rfl, by decide +kernel, rfl, by decide +kernel, by decide +kernel⟩
abbrev sLawDraw : Stmt := topS 17
theorem scLawDraw : FnScope ["well", "many", "digit", "number", "more"] ["well", "many"] (L2.defScope sLawDraw) := ⟨rfl, rfl, rfl, by decide +kernel, rfl, by decide +kernel, by decide +kernel⟩
abbrev sLawOne : Stmt := topS 18
theorem scLawOne : FnScope ["well", "some"] ["well", "some"] (L2.defScope sLawOne) := ⟨rfl, rfl, rfl, by decide +kernel, rfl, by decide +kernel, by decide +kernel⟩
abbrev sLawSigns : Stmt := topS 19
theorem scLawSigns : FnScope ["signs"] [] (L2.defScope sLawSigns) := ⟨rfl, rfl, rfl, by decide +kernel, rfl, by decide +kernel, by decide +kernel⟩

/-! ### numbers, and what is none -/
def NoInt (K : PySem.W.Frag) (H : Hp) (x : V) : Prop := ∃ T : String, TyX K H x (.type T) ∧ kitB T "int" = some false
theorem NoInt.ex {K : PySem.W.Frag} {H H' : Hp} {x : V} (e : Ex H H') (h : NoInt K H x) : NoInt K H' x := by
  obtain ⟨T, a, b⟩ := h
  exact ⟨T, TyX.ex e a, b⟩
/-- a number, a truth value, or something else -/
inductive NumOk (K : PySem.W.Frag) (H : Hp) : V → Option Int → Prop where
  | int (i : Int) : NumOk K H (.int i) (some i)
  | bl (b : Bool) : NumOk K H (.bl b) none
  | no {x : V} : NoInt K H x → NumOk K H x none
theorem NumOk.ex {K : PySem.W.Frag} {H H' : Hp} {x : V} {o : Option Int} (e : Ex H H') (h : NumOk K H x o) : NumOk K H' x o := by
  cases h with
  | int i => exact .int i
  | bl b => exact .bl b
  | no h => exact .no (h.ex e)
def inO (lo hi : Int) : Option Int → Bool
  | some i => decide (lo ≤ i) && decide (i ≤ hi)
  | none => false
def NoRow (K : PySem.W.Frag) (H : Hp) (x : V) : Prop := ∃ T : String, TyX K H x (.type T) ∧ (kitB T "list" = some false ∧ kitB T "tuple" = some false)
theorem NoRow.ex {K : PySem.W.Frag} {H H' : Hp} {x : V} (e : Ex H H') (h : NoRow K H x) : NoRow K H' x := by
  obtain ⟨T, a, b⟩ := h
  exact ⟨T, TyX.ex e a, b⟩
/-- a row of things, of each of which its number is known; or no row -/
def RowOf (K : PySem.W.Frag) (H : Hp) (x : V) (o : Option (List (Option Int))) : Prop := (∃ (p : Addr) (xs : List V) (os : List (Option Int)), x = .ref p ∧ RowAt K H p xs ∧ xs.length ≤ 20000 ∧ xs.length = os.length ∧ (∀ (i : Nat) y z, xs[i]? = some y → os[i]? = some z → NumOk K H y z) ∧ o = some os) ∨ (NoRow K H x ∧ o = none)
theorem RowOf.ex {K : PySem.W.Frag} {H H' : Hp} {x : V} {o : Option (List (Option Int))} (e : Ex H H') (h : RowOf K H x o) : RowOf K H' x o := by
  rcases h with ⟨p, xs, os, h1, h2, h3, h4, h5, h6⟩ | ⟨h, h6⟩
  · exact .inl ⟨p, xs, os, h1, h2.ex e, h3, h4, fun i y z a b => (h5 i y z a b).ex e, h6⟩
  · exact .inr ⟨h.ex e, h6⟩
def robB : Option (List (Option Int)) → Bool
  | some os => os.all (inO 0 255)
  | none => false
def spInt (K : PySem.W.Frag) : Sp := fun vs H Q _ => ∃ (x : V) (o : Option Int), vs = [x] ∧ NumOk K H x o ∧ RetV (.bl o.isSome) H Q
def spWithin (K : PySem.W.Frag) : Sp := fun vs H Q _ => ∃ (x : V) (lo hi : Int) (o : Option Int), vs = [x, .int lo, .int hi] ∧ NumOk K H x o ∧ RetV (.bl (inO lo hi o)) H Q
def spRow (K : PySem.W.Frag) : Sp := fun vs H Q _ => ∃ (x : V) (o : Option (List (Option Int))), vs = [x] ∧ RowOf K H x o ∧ RetV (.bl o.isSome) H Q
def spRob (K : PySem.W.Frag) : Sp := fun vs H Q _ => ∃ (x : V) (o : Option (List (Option Int))), vs = [x] ∧ RowOf K H x o ∧ RetV (.bl (robB o)) H Q
def isTextL (l : List Nat) : Bool := l.all isTextSign
section
variable {K : PySem.W.Frag} {σ : L2.St} {H H' : Hp} {te ta tb tl : TE} {t : TT} {x : V}
theorem ev_isiNo (h : Ev te σ H x) (hx : NoRow K H x) : Ev (tCB (rIsiT K) (tCons te (tCons (tTup (tCons (tC (.ty "list")) (tCons (tC (.ty "tuple")) tNil))) tNil))) σ H (.bl false) := fun H1 e Q q =>
  h H1 e _ fun H2 e2 => ⟨by show 2 ≤ sizeLine; decide, fun T hT => by
    obtain ⟨T0, ty, k1, k2⟩ := hx
    exact ⟨x, T, [.ty "list", .ty "tuple"], .type T0, [.type "list", .type "tuple"], false, rfl, upd_same, .cons (.ty "list") (.cons (.ty "tuple") .nil), TyX.ex ((e.trans e2).trans (Ex.new hT)) ty, kitAny_cons (kit_ty k1) (fun _ => kitAny_cons (kit_ty k2) (fun _ => rfl) (fun e => by cases e)) (fun e => by cases e), q _ (e2.trans (Ex.new hT))⟩⟩
end
section
variable {P : Program} {w : World} {K : PySem.W.Frag} {mg : Str → Option Value} {base : Heap}
theorem ok_isInteger {f : Addr} {fd : FuncData} (F : FnP K "is_integer" sIsInteger f fd) (B : Bt mg) : FnOk P w K mg base L2.CX0 1 f fd ["thing"] (spInt K) := by
  refine F.ok scIsInteger (fun vs H Q E h => ?_) (fun cdv A outer s H vs Q E hr h => ?_)
  · obtain ⟨x, o, rfl, _⟩ := h
    rfl
  · obtain ⟨x, o, rfl, hx, q⟩ := h
    refine ⟨_, PSs.nox (pss_one (ps_ret (pe_and (pe_callB call_isi (by rfl) B.isi (by decide +kernel) (pa_cons (pv 0) (pa_cons (pe_bltn (v := .ty "int") (by rfl) B.int (by decide +kernel) rfl) pa_nil))) (pe_one (pe_not (pe_callB call_isi (by rfl) B.isi (by decide +kernel) (pa_cons (pv 0) (pa_cons (pe_bltn (v := .ty "bool") (by rfl) B.bool (by decide +kernel) rfl) pa_nil)))))))), ?_⟩
    cases hx with
    | int i => exact s_ret (ev_is (ev_andV (a := true) (b := true) (ev_isi (ev_var rfl) (.base (.int i)) (by decide +kernel)) fun _ => ev_is (ev_notV (a := false) (ev_isi (b := false) (ev_var rfl) (.base (.int i)) (by decide +kernel))) rfl) rfl) q
    | bl b => exact s_ret (ev_is (ev_andV (a := true) (b := false) (ev_isi (ev_var rfl) (.base (.bl b)) (by decide +kernel)) fun _ => ev_is (ev_notV (a := true) (ev_isi (b := true) (ev_var rfl) (.base (.bl b)) (by decide +kernel))) rfl) rfl) q
    | no h =>
      obtain ⟨T, ty, k⟩ := h
      exact s_ret (ev_is (ev_andV (a := false) (b := false) (ev_isi (ev_var rfl) ty k) fun e => by cases e) rfl) q
theorem ok_isWithin {f : Addr} {fd : FuncData} (F : FnP K "is_within" sIsWithin f fd) (B : Bt mg) (c_is_integer : Cl P w K mg base L2.CX0 1 "is_integer" ["thing"] (spInt K)) : FnOk P w K mg base L2.CX0 2 f fd ["thing", "low", "high"] (spWithin K) := by
  refine F.ok scIsWithin (fun vs H Q E h => ?_) (fun cdv A outer s H vs Q E hr h => ?_)
  · obtain ⟨x, lo, hi, o, rfl, _⟩ := h
    rfl
  · obtain ⟨x, lo, hi, o, rfl, hx, q⟩ := h
    refine ⟨_, PSs.nox (pss_one (ps_ret (pe_and (pe_cl c_is_integer hr (by decide) (by rfl) (pa_cons (pv 0) pa_nil)) (pe_one (pe_chain op_le op_le (pv 1) (pv 0) (pv 2)))))), ?_⟩
    refine s_ret (ev_is (ev_andV (a := o.isSome) (b := inO lo hi o) (ev_call (ea_cons (ev_var rfl) ea_nil) fun H1 e Q' q' E' => ⟨x, o, rfl, hx.ex e, q'⟩) fun e => ?_) ?_) q
    · cases hx with
      | int i => exact ev_chain (a := decide (lo ≤ i)) (b := decide (i ≤ hi)) (ev_var rfl) (ev_var rfl) rv_le fun _ => ⟨ev_var rfl, rv_le⟩
      | bl b => cases e
      | no h => cases e
    · cases o with
      | none => rfl
      | some i => rfl
theorem ok_isRow {f : Addr} {fd : FuncData} (F : FnP K "is_row" sIsRow f fd) (B : Bt mg) : FnOk P w K mg base L2.CX0 1 f fd ["thing"] (spRow K) := by
  refine F.ok scIsRow (fun vs H Q E h => ?_) (fun cdv A outer s H vs Q E hr h => ?_)
  · obtain ⟨x, o, rfl, _⟩ := h
    rfl
  · obtain ⟨x, o, rfl, hx, q⟩ := h
    refine ⟨_, PSs.nox (pss_one (ps_ret (pe_callB call_isiT (by rfl) B.isi (by decide +kernel) (pa_cons (pv 0) (pa_cons (pe_tup (pa_cons (pe_bltn (v := .ty "list") (by rfl) B.list (by decide +kernel) rfl) (pa_cons (pe_bltn (v := .ty "tuple") (by rfl) B.tuple (by decide +kernel) rfl) pa_nil))) pa_nil))))), ?_⟩
    rcases hx with ⟨p, xs, os, rfl, hp, _, _, _, rfl⟩ | ⟨hn, rfl⟩
    · exact s_ret (ev_isiRow (ev_var rfl) hp) q
    · exact s_ret (ev_isiNo (ev_var rfl) hn) q
theorem ok_isText {f : Addr} {fd : FuncData} (F : FnP K "is_text" sIsText f fd) (B : Bt mg) (gS : ∃ z t, z = S signsL ∧ mg "SIGNS" = some (.str z t)) : FnOk P w K mg base L2.CX0 2 f fd ["thing"] (spName K isTextL) := by
  obtain ⟨zS, tS, eS, g_SIGNS⟩ := gS
  refine F.ok scIsText (fun vs H Q E h => ?_) (fun cdv A outer s H vs Q E hr h => ?_)
  · obtain ⟨x, b, rfl, _⟩ := h
    rfl
  · obtain ⟨x, b, rfl, hx, q⟩ := h
    refine ⟨_, PSs.nox (pss_one (ps_ret (pe_and (pe_callB call_isi (by rfl) B.isi (by decide +kernel) (pa_cons (pv 0) (pa_cons (pe_bltn (v := .ty "str") (by rfl) B.str (by decide +kernel) rfl) pa_nil))) (pe_one (pe_callB (cr_all rfl) (by rfl) B.all (by decide +kernel) (pa_cons (pe_lc (own := [("sign", 1)]) (g := gName 1) (tt := tYes) rfl scIsText.nd (pi_str (pv 0)) (blkOk_by (N := ["thing", "sign"]) (sc := L2.defScope sIsText) (by decide +kernel)) (fun _ _ _ _ _ => pg_name (i := 1) scIsText.nd rfl (Or.inl rfl)) (fun _ _ _ _ _ => pts_nil) (fun _ _ _ _ _ => (pe_cmpR op_in_sign (pv 1) (pe_glob (v := .str zS) (by rfl) g_SIGNS ⟨_, rfl⟩) rfl))) pa_nil)))))), ?_⟩
    rcases hx with ⟨l, rfl, hl, rfl⟩ | ⟨hn, rfl⟩
    · refine s_ret (ev_is (ev_andV (a := true) (b := (l.map isTextSign).all id) (ev_isStr (ev_var rfl)) fun _ => ev_all (bs := l.map isTextSign) ?_) ?_) q
      · rw [← map_bl, ← given_all l (fun c => V.bl (isTextSign c)) (fun i => .bl (isTextSign (l.getD i 0))) (fun i c h => by rw [getD_of h])]
        refine el_lcS (fun _ => true) _ (ev_var rfl) (by omega) (fun _ => rfl) (fun i c H2 _ hc => fun H3 e3 Q q => q H3 (Ex.refl H3)) (fun i c H2 _ hc _ => ?_)
        rw [getD_of hc]
        exact ev_op (ev_var rfl) ev_c (rv_inS eS)
      · rw [all_map]; rfl
    · exact s_ret (ev_is (ev_andV (a := false) (b := false) (ev_noStr (ev_var rfl) hn) fun e => by cases e) rfl) q
end
end N4

set_option maxHeartbeats 4000000
namespace N4
open PySem PySem.Spec PyProof.Rows L2 Evl
open SX (S)
abbrev sTextBytes : Stmt := topS 12
theorem scTextBytes : FnScope ["text", "sign"] ["text"] (L2.defScope sTextBytes) := ⟨rfl, rfl, rfl, by decide +kernel, rfl, by decide +kernel, by decide +kernel⟩
abbrev sBytesText : Stmt := topS 13
theorem scBytesText : FnScope ["data", "signs", "sign", "byte"] ["data"] (L2.defScope sBytesText) := ⟨rfl, rfl, rfl, by decide +kernel, rfl, by decide +kernel, by decide +kernel⟩

section
variable {K : PySem.W.Frag} {σ : L2.St} {H H' : Hp} {te ta tb tl : TE} {t : TT} {r : R2} {v x : V} {D : Ends} {tz tu : TS} {Q : VK}
theorem el_lcT {a : Addr} {xs : List V} {j : Nat} {vs : List Nat} (f : Nat → Bool) (v : Nat → V) (h : Ev tl σ H (.ref a)) (hx : ∀ H1, Ex H H1 → SqT K H1 a xs) (hz : xs.length ≤ 40000) (hw : ∀ x, wipe ((wipe σ vs).set j (some x)) vs = wipe σ vs)
    (ht : ∀ (i : Nat) (x : V) H1, Ex H H1 → xs[i]? = some x → EvT t ((wipe σ vs).set j (some x)) H1 (f i)) (he : ∀ (i : Nat) (x : V) H1, Ex H H1 → xs[i]? = some x → f i = true → Ev te ((wipe σ vs).set j (some x)) H1 (v i)) :
    EvL (tLc (iTup K tl) (gName j) t te vs) σ H (given xs.length f v) := fun H0 e Q q => h H0 e _ fun H1 e1 => ⟨a, rfl, ⟨xs, hx _ (e.trans e1)⟩, fun Dl hD =>
  lc_tup (xs := xs) (Cw H1 f v Dl) ⟨hD, Ex.new hD, upd_same⟩ (fun i H' _ p => hx _ ((e.trans e1).trans p.2.1)) (fun i x H' hi p => ⟨hw x, cw_turn p (by have := (List.getElem?_eq_some_iff.mp hi).1; omega) (ht i x H1 (e.trans e1) hi) (fun hf => he i x H1 (e.trans e1) hi hf)⟩)
    (fun H' p => q Dl H' (fresh_back e1 p.1) (e1.trans p.2.1) p.2.2)⟩
end

section
variable {X : Cx} {C : Addr} {bmB : List Value} {B newId initId : String}
theorem pmk_own0 {x : Str} {p pos : Pos} (F : ExcBaseFacts B newId initId bmB) (q : PySem.W.excIn X.K C bmB newId = true) (gC : X.mg x = some (.ref C)) (kC : PySem.W.keepIn X.K (.ref C) = true) (r : Raises X (.ref C)) (hg : Gl X x)
    (hdb : (x == ("__debug__" : Str)) = false := by decide) : PMk X (.Call (.Name x p) [] [] pos) (fun _ H Q => Q (.ref C) none H) := by
  intro pins s σ H Q I h
  refine wpAny_Call_Name_kw (ld_glob I hg gC ?_ hdb)
  refine PySem.W.callWith_K0 I.kIn kC ?_
  show wpAny _ _ (call (.ref C) []) _ _ _
  obtain ⟨bm, N, nm, qn, bs, hdct, sn, sub, ab, col, dd, k0, k1, k2, k3, k5, mN, hC, hN, hni, T⟩ := exc_obj I.kIn q
  refine wpAny_call_exc_subT F T hC hN hni (fun h' e hm => ?_) (Nat.zero_le _)
  exact mk_of I hm r h (I.hok.gone hm.new)
end
/-- an error class of the program, x, at C -/
structure ErrC (K : PySem.W.Frag) (mg : Str → Option Value) (x : Str) (C : Addr) : Prop where
  gC : mg x = some (.ref C)
  xP : PySem.W.excIn K C He.veBase "ValueError.__new__" = true
  kC : PySem.W.keepIn K (.ref C) = true
  bP : PySem.W.subIn K (.ref C) (.type "BaseException") = some true
  tP : PySem.W.typeIn K (.ref C) = some (.type "type")
  eP : PySem.W.exmOne K (.ref C) (.ref C) = some true
/-! ### promises -/
def spTB : Sp := fun vs H Q _ => ∃ l, vs = [.str (S l)] ∧ l.length ≤ 20000 ∧ isTextL l = true ∧ RetL (l.map fun c : Nat => V.int (c : Int)) H Q
def spTBX (K : PySem.W.Frag) (CT : Addr) : Sp := fun vs H Q E => ∃ x, vs = [x] ∧ Told K H x isTextL false ∧ ∀ H', Ex H H' → E (.ref CT) none H'
def ofL (l : List Nat) : List V := l.map fun c : Nat => V.int (c : Int)
def spBT (K : PySem.W.Frag) : Sp := fun vs H Q _ => ∃ (p : Addr) (l : List Nat), vs = [.ref p] ∧ RowAt K H p (ofL l) ∧ l.length ≤ 20000 ∧ isTextL l = true ∧ RetV (.str (S l)) H Q
def spBTX (K : PySem.W.Frag) (CB CT : Addr) : Sp := fun vs H Q E => (∃ (x : V) (o : Option (List (Option Int))), vs = [x] ∧ RowOf K H x o ∧ robB o = false ∧ ∀ H', Ex H H' → E (.ref CB) none H') ∨
  (∃ (p : Addr) (l : List Nat), vs = [.ref p] ∧ RowAt K H p (ofL l) ∧ l.length ≤ 20000 ∧ (∀ c ∈ l, c < 256) ∧ isTextL l = false ∧ ∀ H', Ex H H' → E (.ref CT) none H')
theorem sign_lt {c : Nat} (h : isTextSign c = true) : c < 127 := by
  unfold isTextSign signsL at h
  have := of_decide_eq_true h
  simp only [List.mem_cons, List.not_mem_nil, or_false] at this
  omega
theorem nums_of (K : PySem.W.Frag) (H : Hp) (l : List Nat) : ∀ (i : Nat) y z, (ofL l)[i]? = some y → (l.map fun c : Nat => some (c : Int))[i]? = some z → NumOk K H y z := fun i y z h1 h2 => by
  unfold ofL at h1
  rw [List.getElem?_map] at h1 h2
  cases h : l[i]? with
  | none => rw [h] at h1; cases h1
  | some c =>
    rw [h] at h1 h2
    cases h1
    cases h2
    exact .int _
theorem rob_of {l : List Nat} (h : ∀ c ∈ l, c < 256) : robB (some (l.map fun c : Nat => some (c : Int))) = true := by
  show (l.map fun c : Nat => some (c : Int)).all (inO 0 255) = true
  rw [List.all_map, List.all_eq_true]
  intro c hc
  have := h c hc
  show (decide ((0 : Int) ≤ (c : Int)) && decide ((c : Int) ≤ 255)) = true
  rw [decide_eq_true (by omega), decide_eq_true (by omega)]
  rfl
theorem rowOf_nums {K : PySem.W.Frag} {H : Hp} {p : Addr} {l : List Nat} (h : RowAt K H p (ofL l)) (hl : l.length ≤ 20000) : RowOf K H (.ref p) (some (l.map fun c : Nat => some (c : Int))) :=
  .inl ⟨p, ofL l, _, rfl, h, by unfold ofL; rw [List.length_map]; exact hl, by unfold ofL; rw [List.length_map, List.length_map], nums_of K H l, rfl⟩
section
variable {K : PySem.W.Frag} {σ : L2.St} {H H' : Hp} {te ta tb tl tz : TE} {t : TT} {x : V}
abbrev rOrd : List V → Hp → VK → Prop := fun xs H Q => ∃ x, xs = [.str x] ∧ x.length = 1 ∧ Q (.int (x.cps.getD 0 0 : Nat)) H
theorem ev_ord {c : Nat} (h : Ev te σ H (.str (S [c]))) : Ev (tCB rOrd (tCons te tNil)) σ H (.int (c : Int)) := fun H1 e Q q =>
  h H1 e _ fun H2 e2 => ⟨S [c], rfl, rfl, q H2 e2⟩
theorem el_ords {l : List Nat} {j : Nat} {vs : List Nat} (h : Ev tl σ H (.str (S l))) (hz : l.length ≤ 40000) (hw : ∀ x, wipe ((wipe σ vs).set j (some x)) vs = wipe σ vs) (hj : ∀ x, ((wipe σ vs).set j (some x))[j]? = some (some x)) :
    EvL (tLc (iStr tl) (gName j) tYes (tCB rOrd (tCons (tVar j) tNil)) vs) σ H (ofL l) := by
  unfold ofL
  rw [← given_all l (fun c : Nat => V.int (c : Int)) (fun i => .int ((l.getD i 0 : Nat) : Int)) (fun i c h => by rw [getD_of h])]
  refine el_lcS (fun _ => true) _ h hz hw (fun i c H2 _ hc => fun H3 e3 Q q => q H3 (Ex.refl H3)) (fun i c H2 _ hc _ => ?_)
  rw [getD_of hc]
  exact ev_ord (ev_var (hj _))
end
section
variable {P : Program} {w : World} {K : PySem.W.Frag} {mg : Str → Option Value} {base : Heap} {CB CT : Addr}
theorem ok_rob {f : Addr} {fd : FuncData} (F : FnP K "is_row_of_bytes" sIsRowOfBytes f fd) (B : Bt mg) (gG : ∃ t, mg "GREATEST_BYTE" = some (.int 255 t)) (c_is_row : Cl P w K mg base L2.CX0 1 "is_row" ["thing"] (spRow K)) (c_is_within : Cl P w K mg base L2.CX0 2 "is_within" ["thing", "low", "high"] (spWithin K)) :
    FnOk P w K mg base L2.CX0 3 f fd ["thing"] (spRob K) := by
  obtain ⟨tG, g_GREATEST_BYTE⟩ := gG
  refine F.ok scIsRowOfBytes (fun vs H Q E h => ?_) (fun cdv A outer s H vs Q E hr h => ?_)
  · obtain ⟨x, o, rfl, _⟩ := h
    rfl
  · obtain ⟨x, o, rfl, hx, q⟩ := h
    have hrow : Ev (tCall (spRow K) [] L2.E0 (tCons (tVar 0) tNil)) (start ["thing", "byte"] [x]) H (.bl o.isSome) := ev_call (ea_cons (ev_var rfl) ea_nil) fun H1 e Q' q' E' => ⟨x, o, rfl, hx.ex e, q'⟩
    rcases id hx with ⟨p, xs, os, rfl, hp, hl, hlen, hn, rfl⟩ | ⟨hn, rfl⟩
    · have turn : ∀ (i : Nat) (y : V) (H1 : Hp), Ex H H1 → xs[i]? = some y → Ev (tCall (spWithin K) [] L2.E0 (tCons (tVar 1) (tCons (tC (.int 0)) (tCons (tC (.int 255)) tNil)))) ((wipe (start ["thing", "byte"] [V.ref p]) [1]).set 1 (some y)) H1 (.bl (inO 0 255 (os.getD i none))) := fun i y H1 x1 hy => by
        have hi : i < os.length := by
          rw [← hlen]
          exact (List.getElem?_eq_some_iff.mp hy).1
        have ho : os[i]? = some os[i] := List.getElem?_eq_getElem hi
        rw [getD_of ho]
        exact ev_call (ea_cons (ev_var rfl) (ea_cons ev_c (ea_cons ev_c ea_nil))) fun H2 e2 Q' q' E' => ⟨y, 0, 255, _, rfl, ((hn i y _ hy ho).ex x1).ex e2, q'⟩
      have eg : given xs.length (fun _ => true) (fun i => V.bl (inO 0 255 (os.getD i none))) = (os.map (inO 0 255)).map V.bl := by
        rw [hlen, ← map_bl]
        exact given_all os (fun z => V.bl (inO 0 255 z)) _ (fun i c h => by rw [getD_of h])
      have er : V.bl (true && (os.map (inO 0 255)).all id) = V.bl (robB (some os)) := by rw [all_map]; rfl
      rcases hp with hp | hp
      · refine ⟨_, PSs.nox (pss_one (ps_ret (pe_and (pe_cl c_is_row hr (by decide) (by rfl) (pa_cons (pv 0) pa_nil)) (pe_one (pe_callB (cr_all rfl) (by rfl) B.all (by decide +kernel) (pa_cons (pe_lc (own := [("byte", 1)]) (g := gName 1) (tt := tYes) rfl scIsRowOfBytes.nd (pi_list (pv 0)) (blkOk_by (N := ["thing", "byte"]) (sc := L2.defScope sIsRowOfBytes) (by decide +kernel)) (fun _ _ _ _ _ => pg_name (i := 1) scIsRowOfBytes.nd rfl (Or.inl rfl)) (fun _ _ _ _ _ => pts_nil) (fun _ _ _ _ _ => (pe_cl c_is_within hr (by decide) (by rfl) (pa_cons (pv 1) (pa_cons pe_int (pa_cons (pe_glob (v := .int 255) (by rfl) g_GREATEST_BYTE ⟨_, rfl⟩) pa_nil)))))) pa_nil)))))), ?_⟩
        refine s_ret (ev_is (ev_andV (a := true) (b := (os.map (inO 0 255)).all id) hrow fun _ => ev_all (bs := os.map (inO 0 255)) ?_) er) q
        rw [← eg]
        exact el_lcL (fun _ => true) _ (ev_var rfl) (sq_of hp) (by omega) (fun _ => rfl) (fun i y H2 _ hy => fun H3 e3 Q q => q H3 (Ex.refl H3)) (fun i y H2 x2 hy _ => turn i y H2 x2 hy)
      · refine ⟨_, PSs.nox (pss_one (ps_ret (pe_and (pe_cl c_is_row hr (by decide) (by rfl) (pa_cons (pv 0) pa_nil)) (pe_one (pe_callB (cr_all rfl) (by rfl) B.all (by decide +kernel) (pa_cons (pe_lc (own := [("byte", 1)]) (g := gName 1) (tt := tYes) rfl scIsRowOfBytes.nd (pi_tup (pv 0)) (blkOk_by (N := ["thing", "byte"]) (sc := L2.defScope sIsRowOfBytes) (by decide +kernel)) (fun _ _ _ _ _ => pg_name (i := 1) scIsRowOfBytes.nd rfl (Or.inl rfl)) (fun _ _ _ _ _ => pts_nil) (fun _ _ _ _ _ => (pe_cl c_is_within hr (by decide) (by rfl) (pa_cons (pv 1) (pa_cons pe_int (pa_cons (pe_glob (v := .int 255) (by rfl) g_GREATEST_BYTE ⟨_, rfl⟩) pa_nil)))))) pa_nil)))))), ?_⟩
        refine s_ret (ev_is (ev_andV (a := true) (b := (os.map (inO 0 255)).all id) hrow fun _ => ev_all (bs := os.map (inO 0 255)) ?_) er) q
        rw [← eg]
        exact el_lcT (fun _ => true) _ (ev_var rfl) (fun H1 x1 => st_of (x1 _ _ hp)) (by omega) (fun _ => rfl) (fun i y H2 _ hy => fun H3 e3 Q q => q H3 (Ex.refl H3)) (fun i y H2 x2 hy _ => turn i y H2 x2 hy)
    · refine ⟨_, PSs.nox (pss_one (ps_ret (pe_and (pe_cl c_is_row hr (by decide) (by rfl) (pa_cons (pv 0) pa_nil)) (pe_one (pe_callB (cr_all rfl) (by rfl) B.all (by decide +kernel) (pa_cons (pe_lc (own := [("byte", 1)]) (g := gName 1) (tt := tYes) rfl scIsRowOfBytes.nd (pi_list (pv 0)) (blkOk_by (N := ["thing", "byte"]) (sc := L2.defScope sIsRowOfBytes) (by decide +kernel)) (fun _ _ _ _ _ => pg_name (i := 1) scIsRowOfBytes.nd rfl (Or.inl rfl)) (fun _ _ _ _ _ => pts_nil) (fun _ _ _ _ _ => (pe_cl c_is_within hr (by decide) (by rfl) (pa_cons (pv 1) (pa_cons pe_int (pa_cons (pe_glob (v := .int 255) (by rfl) g_GREATEST_BYTE ⟨_, rfl⟩) pa_nil)))))) pa_nil)))))), ?_⟩
      exact s_ret (ev_is (ev_andV (a := false) (b := false) hrow fun e => by cases e) rfl) q
theorem ok_textBytes {f : Addr} {fd : FuncData} (F : FnP K "text_bytes" sTextBytes f fd) (B : Bt mg) (c_is_text : Cl P w K mg base L2.CX0 2 "is_text" ["thing"] (spName K isTextL)) : FnOk P w K mg base L2.CX0 3 f fd ["text"] spTB := by
  refine F.ok scTextBytes (fun vs H Q E h => ?_) (fun cdv A outer s H vs Q E hr h => ?_)
  · obtain ⟨l, rfl, _⟩ := h
    rfl
  · obtain ⟨l, rfl, hl, ht, q⟩ := h
    refine ⟨_, PSs.nox (pss_cons (ps_if (pt_not (pt_val (pe_cl c_is_text hr (by decide) (by rfl) (pa_cons (pv 0) pa_nil)))) (pss_one ps_never) pss_nil)
      (pss_one (ps_ret (pe_lc (own := [("sign", 1)]) (g := gName 1) (tt := tYes) rfl scTextBytes.nd (pi_str (pv 0)) (blkOk_by (N := ["text", "sign"]) (sc := L2.defScope sTextBytes) (by decide +kernel)) (fun _ _ _ _ _ => pg_name (i := 1) scTextBytes.nd rfl (Or.inl rfl)) (fun _ _ _ _ _ => pts_nil) (fun _ _ _ _ _ => (pe_callB call_ord (by rfl) B.ord (by decide +kernel) (pa_cons (pv 1) pa_nil))))))), ?_⟩
    refine q_when (b := false) (et_is (et_not (et_test (ev_call (ea_cons (ev_var rfl) ea_nil) fun H1 e Q' q' E' => ⟨_, true, rfl, .inl ⟨l, rfl, hl, ht.symm⟩, q'⟩))) rfl) (fun e => by cases e) fun _ H1 x1 => ?_
    exact s_retL (el_ords (ev_var rfl) (by omega) (fun _ => rfl) (fun _ => rfl)) fun p H2 hp x2 h2 => q p H2 (fresh_back x1 hp) (x1.trans x2) h2
theorem ok_textBytesX {f : Addr} {fd : FuncData} (F : FnP K "text_bytes" sTextBytes f fd) (B : Bt mg) (NT : ErrC K mg "NoText" CT) (c_is_text : Cl P w K mg base L2.CX0 2 "is_text" ["thing"] (spName K isTextL)) : FnOk P w K mg base (L2.CX P w) 3 f fd ["text"] (spTBX K CT) := by
  refine F.ok scTextBytes (fun vs H Q E h => ?_) (fun cdv A outer s H vs Q E hr h => ?_)
  · obtain ⟨x, rfl, _⟩ := h
    rfl
  · obtain ⟨x, rfl, hx, q⟩ := h
    refine ⟨_, (pss_cons (ps_if (pt_not (pt_val (pe_cl c_is_text hr (by decide) (by rfl) (pa_cons (pv 0) pa_nil)))) (pss_one (ps_raise rfl (takes_of rfl rfl rfl rfl) (pmk_own0 PySem.F.excBase_ValueError NT.xP NT.gC NT.kC (raises_own NT.bP NT.tP) (by rfl)))) pss_nil)
      (pss_one (ps_ret (pe_lc (own := [("sign", 1)]) (g := gName 1) (tt := tYes) rfl scTextBytes.nd (pi_str (pv 0)) (blkOk_by (N := ["text", "sign"]) (sc := L2.defScope sTextBytes) (by decide +kernel)) (fun _ _ _ _ _ => pg_name (i := 1) scTextBytes.nd rfl (Or.inl rfl)) (fun _ _ _ _ _ => pts_nil) (fun _ _ _ _ _ => (pe_callB call_ord (by rfl) B.ord (by decide +kernel) (pa_cons (pv 1) pa_nil))))))), ?_⟩
    refine q_when (b := true) (et_is (et_not (et_test (ev_call (ea_cons (ev_var rfl) ea_nil) fun H1 e Q' q' E' => ⟨_, false, rfl, hx.ex e, q'⟩))) rfl) (fun _ H1 x1 => ?_) (fun e => by cases e)
    exact q H1 x1
end
end N4

set_option maxHeartbeats 4000000
namespace N4
open PySem PySem.Spec PyProof.Rows L2 Evl L2
open SX (S)
/-! ### the table of signs -/
def sgnAt (l : List Nat) (n : Int) : Option V := if 0 ≤ n ∧ n.toNat ∈ l then some (.str (S [n.toNat])) else none
def SgD (kvs : List (Key × V)) : Prop := ∀ n : Int, valV kvs (Sum.inl n) = sgnAt signsL n
theorem sgn_nat {c : Nat} : sgnAt signsL (c : Int) = if isTextSign c = true then some (.str (S [c])) else none := by
  unfold sgnAt isTextSign
  rw [Int.toNat_natCast]
  by_cases h : c ∈ signsL
  · rw [if_pos ⟨by omega, h⟩, if_pos (decide_eq_true h)]
  · rw [if_neg (fun q => h q.2), if_neg (fun q => h (of_decide_eq_true q))]
section
variable {K : PySem.W.Frag} {σ : L2.St} {H H' : Hp} {te ta tb tl : TE} {t : TT} {x : V} {D : Ends} {tz : TS}
theorem q_signs {zS : Str} {i j : Nat} {vs : List Nat} (eS : zS = S signsL) (hw : ∀ x, wipe ((wipe σ vs).set j (some x)) vs = wipe σ vs) (hj : ∀ x, ((wipe σ vs).set j (some x))[j]? = some (some x))
    (k : ∀ p kvs H1, H p = none → Ex H H1 → H1 p = some (.dK kvs) → SgD kvs → tz D (σ.set i (some (.ref p))) H1) :
    tSeq (tAsg (tDc (iStr (tC (.str zS))) (gName j) tYes (tCB rOrd (tCons (tVar j) tNil)) (tVar j) vs) (gName i)) tz D σ H := by
  subst eS
  refine ⟨S signsL, rfl, fun Dl hD => ?_⟩
  let Pv : Nat → Hp → Prop := fun n H2 => Ex H H2 ∧ ∃ kvs : List (Key × V), H2 Dl = some (.dK kvs) ∧ kvs.length ≤ n ∧ ∀ m : Int, valV kvs (Sum.inl m) = sgnAt (signsL.take n) m
  have w := walk_str (z := S signsL)
  have sz : (S signsL).cps.size = 94 := by decide +kernel
  have wd : ∀ (n : Nat) (x : V) (H2 : Hp), n < 94 → Pv n H2 → (∃ c, (S signsL).cps[n]? = some c ∧ x = .str ⟨#[c]⟩) → gName j x (wipe σ vs) H2 fun σ2 H3 => wipe σ2 vs = wipe σ vs ∧ tYes σ2 H3 fun b H4 =>
      if b = true then tCB rOrd (tCons (tVar j) tNil) σ2 H4 fun y H5 => tVar j σ2 H5 fun z H6 => ∃ kvs k, y = kV k ∧ H6 Dl = some (.dK kvs) ∧ kvs.length < sizeLine ∧ Pv (n + 1) (upd H6 Dl (.dK (putK kvs k z))) else Pv (n + 1) H4 := by
    intro n x H2 hn hP hx
    obtain ⟨x1, kvs, h1, h2, h3⟩ := hP
    obtain ⟨c, hc, rfl⟩ := hx
    have hc2 : signsL[n]? = some c := by
      rw [← hc]
      simp [S]
    have hcm : c < 127 := sign_lt (decide_eq_true (List.mem_of_getElem? hc2))
    refine ⟨hw _, ⟨.str (S [c]), hj _, S [c], rfl, rfl, .str (S [c]), hj _, kvs, Sum.inl (c : Int), rfl, h1, sz_lt (by omega), x1.mut hD, _, upd_same, ?_, fun m => ?_⟩⟩
    · have := length_putK kvs (Sum.inl (c : Int) : Key) (V.str (S [c]))
      omega
    · rw [valV_put]
      by_cases e : (Sum.inl m : Key) = Sum.inl (c : Int)
      · rw [if_pos e]
        have e2 : m = (c : Int) := by injection e
        subst e2
        unfold sgnAt
        rw [if_pos ⟨by omega, by
          rw [Int.toNat_natCast, List.take_succ, hc2]
          exact List.mem_append_right _ (by simp)⟩, Int.toNat_natCast]
      · rw [if_neg e, h3 m]
        unfold sgnAt
        have e3 : ¬ m = (c : Int) := fun q => e (by rw [q])
        have e4 : (0 ≤ m ∧ m.toNat ∈ signsL.take n) ↔ (0 ≤ m ∧ m.toNat ∈ signsL.take (n + 1)) := by
          rw [List.take_succ, hc2]
          constructor
          · rintro ⟨a, b⟩
            exact ⟨a, List.mem_append_left _ b⟩
          · rintro ⟨a, b⟩
            refine ⟨a, ?_⟩
            rcases List.mem_append.mp b with b | b
            · exact b
            · have b : m.toNat = c := by simpa using b
              exact absurd (by omega) e3
        by_cases h : 0 ≤ m ∧ m.toNat ∈ signsL.take n
        · rw [if_pos h, if_pos (e4.mp h)]
        · rw [if_neg h, if_neg (fun q => h (e4.mpr q))]
  refine ⟨fun n m H2 => m = 94 - n ∧ n ≤ 94 ∧ Pv n H2, ⟨94, rfl, by omega, Ex.new hD, [], upd_same, Nat.le_refl _, fun m => by
    unfold sgnAt
    rw [if_neg (by simp)]
    rfl⟩, ?_⟩
  rintro n m H2 ⟨rfl, hn, p⟩
  by_cases hlt : n < 94
  · refine .inr ⟨w.goes n H2 (by rw [sz]; exact hlt) True.intro, Pv (n + 1), fun H3 p' => ⟨94 - (n + 1), by omega, rfl, hlt, p'⟩, fun x H3 y => ?_⟩
    obtain ⟨e, hx⟩ := w.yields n H2 x H3 (by rw [sz]; exact hlt) True.intro y
    subst e
    exact wd n x _ hlt p hx
  · obtain rfl : n = 94 := by omega
    obtain ⟨x1, kvs, h1, h2, h3⟩ := p
    refine .inl ⟨by have := w.stops H2 True.intro; rw [sz] at this; exact this, ?_⟩
    refine k Dl kvs H2 hD x1 h1 fun m => ?_
    rw [h3 m]
    rfl
theorem ev_in {kvs : List (Key × V)} {d : Addr} {c : Nat} (hd : H d = some (.dK kvs)) (hs : SgD kvs) (h : Ev te σ H (.int (c : Int))) (ho : Ev ta σ H (.ref d)) : Ev (tDIn te ta) σ H (.bl (isTextSign c)) := fun H1 e Q q =>
  h H1 e _ fun H2 e2 => ho H2 (e.trans e2) _ fun H3 e3 => ⟨d, sgnAt signsL (c : Int), rfl, by rw [← hs]; exact DGet.k (k := Sum.inl (c : Int)) ((e.trans (e2.trans e3)) _ _ hd), by
    rw [sgn_nat]
    have e5 : (if isTextSign c = true then some (V.str (S [c])) else none).isSome = isTextSign c := by cases isTextSign c <;> rfl
    rw [e5]
    exact q H3 (e2.trans e3)⟩
theorem ev_sgn {kvs : List (Key × V)} {d : Addr} {c : Nat} (hd : H d = some (.dK kvs)) (hs : SgD kvs) (hc : isTextSign c = true) (ho : Ev ta σ H (.ref d)) (h : Ev te σ H (.int (c : Int))) : Ev (tDGet ta te) σ H (.str (S [c])) := fun H1 e Q q =>
  ho H1 e _ fun H2 e2 => h H2 (e.trans e2) _ fun H3 e3 => ⟨d, .str (S [c]), rfl, by
    have e4 : some (V.str (S [c])) = valV kvs (Sum.inl (c : Int)) := by rw [hs, sgn_nat, if_pos hc]
    rw [e4]
    exact DGet.k (k := Sum.inl (c : Int)) ((e.trans (e2.trans e3)) _ _ hd), q H3 (e2.trans e3)⟩
end
theorem ofL_get {l : List Nat} {i : Nat} {y : V} (h : (ofL l)[i]? = some y) : ∃ c, l[i]? = some c ∧ y = .int (c : Int) := by
  unfold ofL at h
  rw [List.getElem?_map] at h
  obtain ⟨c, h1, h2⟩ := Option.map_eq_some_iff.mp h
  exact ⟨c, h1, h2.symm⟩
theorem ofL_len (l : List Nat) : (ofL l).length = l.length := by unfold ofL; rw [List.length_map]
abbrev rJoin (K : PySem.W.Frag) : V → List V → Hp → VK → Prop := fun x xs H Q => ∃ a p, ∃ ys : List Str, x = .str a ∧ xs = [.ref p] ∧ (SqL K H p (ys.map V.str) ∨ SqT K H p (ys.map V.str)) ∧ (ys.map (·.length)).sum + ys.length * a.length ≤ 16777216 ∧ Q (.str (Txt.join a ys)) H
theorem sum_ones : ∀ l : List Nat, ((l.map fun c => S [c]).map (·.length)).sum = l.length
  | [] => rfl
  | c :: r => by
    show (S [c]).length + ((r.map fun c => S [c]).map (·.length)).sum = r.length + 1
    rw [sum_ones r, SX.S_len]
    show 1 + r.length = r.length + 1
    omega
theorem joinL_nil : ∀ ys : List (List Nat), TL.joinL [] ys = ys.flatten
  | [] => rfl
  | [p] => by simp [TL.joinL]
  | p :: q :: r => by
    show p ++ ([] ++ TL.joinL [] (q :: r)) = _
    rw [joinL_nil (q :: r)]
    simp
theorem flat1 : ∀ l : List Nat, (l.map fun c => [c]).flatten = l
  | [] => rfl
  | c :: r => by
    show [c] ++ (r.map fun c => [c]).flatten = _
    rw [flat1 r]; rfl
theorem join_ones (l : List Nat) : Txt.join (S []) (l.map fun c => S [c]) = S l := by
  have e : (l.map fun c => S [c]) = (l.map fun c => [c]).map S := by rw [List.map_map]; rfl
  rw [e, SX.join_S, joinL_nil, flat1]
section
variable {K : PySem.W.Frag} {σ : L2.St} {H H' : Hp} {te ta tb tl : TE} {t : TT} {x : V} {D : Ends} {tz : TS}
/-- ''.join of a new list of signs -/
theorem ev_joinN {z : Str} {l : List Nat} (ez : z = S []) (h : EvL te σ H (l.map fun c => V.str (S [c]))) (hl : l.length ≤ 20000) : Ev (tM1 (rJoin K) (tC (.str z)) te) σ H (.str (S l)) := fun H1 e Q q => by
  subst ez
  refine ⟨⟨_, rfl⟩, h H1 e _ fun p H2 hp e2 h2 => ⟨S [], p, l.map fun c => S [c], rfl, rfl, .inl (by rw [List.map_map]; exact sq_of h2), ?_, ?_⟩⟩
  · rw [sum_ones, List.length_map]
    show l.length + l.length * 0 ≤ 16777216
    omega
  · rw [join_ones]
    exact q H2 e2
end
section
variable {P : Program} {w : World} {K : PySem.W.Frag} {mg : Str → Option Value} {base : Heap} {CB CT : Addr}
/-- what the two comprehensions over the bytes come to, of a list or a tuple -/
structure Turns (K : PySem.W.Frag) (σ : L2.St) (H : Hp) (wi : TI) (l : List Nat) (d : Addr) : Prop where
  isin : EvL (tLc wi (gName 3) tYes (tDIn (tVar 3) (tVar 1)) [3]) σ H ((l.map isTextSign).map V.bl)
  sgns : isTextL l = true → EvL (tLc wi (gName 3) tYes (tDGet (tVar 1) (tVar 3)) [3]) σ H (l.map fun c => V.str (S [c]))
theorem turns_of {l : List Nat} {p d : Addr} {kvs : List (Key × V)} {σ : L2.St} {H : Hp} {wi : TI} (hs : SgD kvs) (hd : H d = some (.dK kvs)) (h1 : ∀ x, ((wipe σ [3]).set 3 (some x))[1]? = some (some (.ref d))) (h3 : ∀ x, ((wipe σ [3]).set 3 (some x))[3]? = some (some x))
    (hw : ∀ (te : TE) (v : Nat → V), (∀ (i : Nat) (y : V) (H1 : Hp), Ex H H1 → (ofL l)[i]? = some y → Ev te ((wipe σ [3]).set 3 (some y)) H1 (v i)) → EvL (tLc wi (gName 3) tYes te [3]) σ H (given (ofL l).length (fun _ => true) v)) : Turns K σ H wi l d := by
  refine ⟨?_, fun ht => ?_⟩
  · rw [← map_bl, ← given_all l (fun c => V.bl (isTextSign c)) (fun i => .bl (isTextSign (l.getD i 0))) (fun i c h => by rw [getD_of h]), ← ofL_len]
    refine hw _ _ fun i y H1 x1 hy => ?_
    obtain ⟨c, hc, rfl⟩ := ofL_get hy
    rw [getD_of hc]
    exact ev_in (x1 _ _ hd) hs (ev_var (h3 _)) (ev_var (h1 _))
  · rw [← given_all l (fun c => V.str (S [c])) (fun i => .str (S [l.getD i 0])) (fun i c h => by rw [getD_of h]), ← ofL_len]
    refine hw _ _ fun i y H1 x1 hy => ?_
    obtain ⟨c, hc, rfl⟩ := ofL_get hy
    rw [getD_of hc]
    exact ev_sgn (x1 _ _ hd) hs (List.all_eq_true.mp ht c (List.mem_of_getElem? hc)) (ev_var (h1 _)) (ev_var (h3 _))
theorem turnsL {l : List Nat} {p d : Addr} {kvs : List (Key × V)} {σ : L2.St} {H : Hp} (hs : SgD kvs) (hd : H d = some (.dK kvs)) (hp : H p = some (.lst (ofL l))) (hl : l.length ≤ 20000) (e : σ = [some (.ref p), some (.ref d), none, none]) : Turns K σ H (iList K (tVar 0)) l d := by
  subst e
  refine turns_of (K := K) (p := p) hs hd (fun _ => rfl) (fun _ => rfl) fun te v h => ?_
  exact el_lcL (fun _ => true) v (ev_var rfl) (sq_of hp) (by rw [ofL_len]; omega) (fun _ => rfl) (fun i y H2 _ hy => fun H3 e3 Q q => q H3 (Ex.refl H3)) (fun i y H2 x2 hy _ => h i y H2 x2 hy)
theorem turnsT {l : List Nat} {p d : Addr} {kvs : List (Key × V)} {σ : L2.St} {H : Hp} (hs : SgD kvs) (hd : H d = some (.dK kvs)) (hp : H p = some (.tup (ofL l))) (hl : l.length ≤ 20000) (e : σ = [some (.ref p), some (.ref d), none, none]) : Turns K σ H (iTup K (tVar 0)) l d := by
  subst e
  refine turns_of (K := K) (p := p) hs hd (fun _ => rfl) (fun _ => rfl) fun te v h => ?_
  exact el_lcT (fun _ => true) v (ev_var rfl) (fun H1 x1 => st_of (x1 _ _ hp)) (by rw [ofL_len]; omega) (fun _ => rfl) (fun i y H2 _ hy => fun H3 e3 Q q => q H3 (Ex.refl H3)) (fun i y H2 x2 hy _ => h i y H2 x2 hy)
theorem all_id (l : List Nat) : (l.map isTextSign).all id = isTextL l := by rw [all_map]; rfl
theorem ok_bytesText {f : Addr} {fd : FuncData} (F : FnP K "bytes_text" sBytesText f fd) (B : Bt mg) (gS : ∃ z t, z = S signsL ∧ mg "SIGNS" = some (.str z t)) (c_is_row_of_bytes : Cl P w K mg base L2.CX0 3 "is_row_of_bytes" ["thing"] (spRob K)) : FnOk P w K mg base L2.CX0 4 f fd ["data"] (spBT K) := by
  obtain ⟨zS, tS, eS, g_SIGNS⟩ := gS
  refine F.ok scBytesText (fun vs H Q E h => ?_) (fun cdv A outer s H vs Q E hr h => ?_)
  · obtain ⟨p, l, rfl, _⟩ := h
    rfl
  · obtain ⟨p, l, rfl, hp, hl, ht, q⟩ := h
    have hu := hu_of hr
    have hlt : ∀ c ∈ l, c < 256 := fun c hc => by have := sign_lt (List.all_eq_true.mp ht c hc); omega
    have hrob : Ev (tCall (spRob K) [] L2.E0 (tCons (tVar 0) tNil)) (start ["data", "signs", "sign", "byte"] [V.ref p]) H (.bl true) := ev_call (ea_cons (ev_var rfl) ea_nil) fun H1 e Q' q' E' => ⟨.ref p, _, rfl, rowOf_nums (hp.ex e) (by omega), by rw [rob_of hlt]; exact q'⟩
    rcases hp with hp | hp
    · refine ⟨_, PSs.nox (pss_cons (ps_if (pt_not (pt_val (pe_cl c_is_row_of_bytes hr (by decide) (by rfl) (pa_cons (pv 0) pa_nil)))) (pss_one ps_never) pss_nil)
      (pss_cons (ps_set (i := 1) scBytesText.nd rfl (.inr rfl) (pe_dc (own := [("sign", 2)]) (g := gName 2) (tt := tYes) rfl scBytesText.nd (pi_str (pe_glob (v := .str zS) (by rfl) g_SIGNS ⟨_, rfl⟩)) (blkOk_by (N := ["data", "signs", "sign", "byte"]) (sc := L2.defScope sBytesText) (by decide +kernel)) (fun _ _ _ _ _ => pg_name (i := 2) scBytesText.nd rfl (Or.inl rfl)) (fun _ _ _ _ _ => pts_nil) (fun _ _ _ _ _ => (pe_callB call_ord (by rfl) B.ord (by decide +kernel) (pa_cons (pv 2) pa_nil))) (fun _ _ _ _ _ => (pv 2))))
      (pss_cons (ps_if (pt_not (pt_val (pe_callB (cr_all rfl) (by rfl) B.all (by decide +kernel) (pa_cons (pe_lc (own := [("byte", 3)]) (g := gName 3) (tt := tYes) rfl scBytesText.nd (pi_list (pv 0)) (blkOk_by (N := ["data", "signs", "sign", "byte"]) (sc := L2.defScope sBytesText) (by decide +kernel)) (fun _ _ _ _ _ => pg_name (i := 3) scBytesText.nd rfl (Or.inl rfl)) (fun _ _ _ _ _ => pts_nil) (fun _ _ _ _ _ => (pe_cmp (pc_din hu (pv 3) (pv 1)) rfl))) pa_nil)))) (pss_one ps_never) pss_nil)
      (pss_one (ps_ret (pe_join pe_str (pe_lc (own := [("byte", 3)]) (g := gName 3) (tt := tYes) rfl scBytesText.nd (pi_list (pv 0)) (blkOk_by (N := ["data", "signs", "sign", "byte"]) (sc := L2.defScope sBytesText) (by decide +kernel)) (fun _ _ _ _ _ => pg_name (i := 3) scBytesText.nd rfl (Or.inl rfl)) (fun _ _ _ _ _ => pts_nil) (fun _ _ _ _ _ => (pe_dget hu (pv 1) (pv 3) (fun _ _ => rfl)))))))))), ?_⟩
      refine q_when (b := false) (et_is (et_not (et_test hrob)) rfl) (fun e => by cases e) fun _ H1 x1 => ?_
      refine q_signs eS (fun _ => rfl) (fun _ => rfl) fun d kvs H2 hd x2 h2 hs => ?_
      have T := turnsL (K := K) (p := p) (σ := [some (.ref p), some (.ref d), none, none]) hs h2 (x2 _ _ (x1 _ _ hp)) (by omega) rfl
      refine q_when (b := false) (et_is (et_not (et_test (ev_all T.isin))) (by rw [all_id, ht]; rfl)) (fun e => by cases e) fun _ H3 x3 => ?_
      exact s_ret (ev_joinN (by decide +kernel) ((T.sgns ht).mono x3) (by omega)) fun H4 x4 => q H4 (((x1.trans x2).trans x3).trans x4)
    · refine ⟨_, PSs.nox (pss_cons (ps_if (pt_not (pt_val (pe_cl c_is_row_of_bytes hr (by decide) (by rfl) (pa_cons (pv 0) pa_nil)))) (pss_one ps_never) pss_nil)
      (pss_cons (ps_set (i := 1) scBytesText.nd rfl (.inr rfl) (pe_dc (own := [("sign", 2)]) (g := gName 2) (tt := tYes) rfl scBytesText.nd (pi_str (pe_glob (v := .str zS) (by rfl) g_SIGNS ⟨_, rfl⟩)) (blkOk_by (N := ["data", "signs", "sign", "byte"]) (sc := L2.defScope sBytesText) (by decide +kernel)) (fun _ _ _ _ _ => pg_name (i := 2) scBytesText.nd rfl (Or.inl rfl)) (fun _ _ _ _ _ => pts_nil) (fun _ _ _ _ _ => (pe_callB call_ord (by rfl) B.ord (by decide +kernel) (pa_cons (pv 2) pa_nil))) (fun _ _ _ _ _ => (pv 2))))
      (pss_cons (ps_if (pt_not (pt_val (pe_callB (cr_all rfl) (by rfl) B.all (by decide +kernel) (pa_cons (pe_lc (own := [("byte", 3)]) (g := gName 3) (tt := tYes) rfl scBytesText.nd (pi_tup (pv 0)) (blkOk_by (N := ["data", "signs", "sign", "byte"]) (sc := L2.defScope sBytesText) (by decide +kernel)) (fun _ _ _ _ _ => pg_name (i := 3) scBytesText.nd rfl (Or.inl rfl)) (fun _ _ _ _ _ => pts_nil) (fun _ _ _ _ _ => (pe_cmp (pc_din hu (pv 3) (pv 1)) rfl))) pa_nil)))) (pss_one ps_never) pss_nil)
      (pss_one (ps_ret (pe_join pe_str (pe_lc (own := [("byte", 3)]) (g := gName 3) (tt := tYes) rfl scBytesText.nd (pi_tup (pv 0)) (blkOk_by (N := ["data", "signs", "sign", "byte"]) (sc := L2.defScope sBytesText) (by decide +kernel)) (fun _ _ _ _ _ => pg_name (i := 3) scBytesText.nd rfl (Or.inl rfl)) (fun _ _ _ _ _ => pts_nil) (fun _ _ _ _ _ => (pe_dget hu (pv 1) (pv 3) (fun _ _ => rfl)))))))))), ?_⟩
      refine q_when (b := false) (et_is (et_not (et_test hrob)) rfl) (fun e => by cases e) fun _ H1 x1 => ?_
      refine q_signs eS (fun _ => rfl) (fun _ => rfl) fun d kvs H2 hd x2 h2 hs => ?_
      have T := turnsT (K := K) (p := p) (σ := [some (.ref p), some (.ref d), none, none]) hs h2 (x2 _ _ (x1 _ _ hp)) (by omega) rfl
      refine q_when (b := false) (et_is (et_not (et_test (ev_all T.isin))) (by rw [all_id, ht]; rfl)) (fun e => by cases e) fun _ H3 x3 => ?_
      exact s_ret (ev_joinN (by decide +kernel) ((T.sgns ht).mono x3) (by omega)) fun H4 x4 => q H4 (((x1.trans x2).trans x3).trans x4)
theorem ok_bytesTextX {f : Addr} {fd : FuncData} (F : FnP K "bytes_text" sBytesText f fd) (B : Bt mg) (NB : ErrC K mg "NoBytes" CB) (NT : ErrC K mg "NoText" CT) (gS : ∃ z t, z = S signsL ∧ mg "SIGNS" = some (.str z t)) (c_is_row_of_bytes : Cl P w K mg base L2.CX0 3 "is_row_of_bytes" ["thing"] (spRob K)) : FnOk P w K mg base (L2.CX P w) 4 f fd ["data"] (spBTX K CB CT) := by
  obtain ⟨zS, tS, eS, g_SIGNS⟩ := gS
  refine F.ok scBytesText (fun vs H Q E h => ?_) (fun cdv A outer s H vs Q E hr h => ?_)
  · rcases h with ⟨x, o, rfl, _⟩ | ⟨p, l, rfl, _⟩ <;> rfl
  · have hu := hu_of hr
    rcases h with ⟨x, o, rfl, hx, hb, q⟩ | ⟨p, l, rfl, hp, hl, hlt, ht, q⟩
    · refine ⟨_, (pss_cons (ps_if (pt_not (pt_val (pe_cl c_is_row_of_bytes hr (by decide) (by rfl) (pa_cons (pv 0) pa_nil)))) (pss_one (ps_raise rfl (takes_of rfl rfl rfl rfl) (pmk_own0 PySem.F.excBase_ValueError NB.xP NB.gC NB.kC (raises_own NB.bP NB.tP) (by rfl)))) pss_nil)
      (pss_cons (ps_set (i := 1) scBytesText.nd rfl (.inr rfl) (pe_dc (own := [("sign", 2)]) (g := gName 2) (tt := tYes) rfl scBytesText.nd (pi_str (pe_glob (v := .str zS) (by rfl) g_SIGNS ⟨_, rfl⟩)) (blkOk_by (N := ["data", "signs", "sign", "byte"]) (sc := L2.defScope sBytesText) (by decide +kernel)) (fun _ _ _ _ _ => pg_name (i := 2) scBytesText.nd rfl (Or.inl rfl)) (fun _ _ _ _ _ => pts_nil) (fun _ _ _ _ _ => (pe_callB call_ord (by rfl) B.ord (by decide +kernel) (pa_cons (pv 2) pa_nil))) (fun _ _ _ _ _ => (pv 2))))
      (pss_cons (ps_if (pt_not (pt_val (pe_callB (cr_all rfl) (by rfl) B.all (by decide +kernel) (pa_cons (pe_lc (own := [("byte", 3)]) (g := gName 3) (tt := tYes) rfl scBytesText.nd (pi_list (pv 0)) (blkOk_by (N := ["data", "signs", "sign", "byte"]) (sc := L2.defScope sBytesText) (by decide +kernel)) (fun _ _ _ _ _ => pg_name (i := 3) scBytesText.nd rfl (Or.inl rfl)) (fun _ _ _ _ _ => pts_nil) (fun _ _ _ _ _ => (pe_cmp (pc_din hu (pv 3) (pv 1)) rfl))) pa_nil)))) (pss_one (ps_raise rfl (takes_of rfl rfl rfl rfl) (pmk_own0 PySem.F.excBase_ValueError NT.xP NT.gC NT.kC (raises_own NT.bP NT.tP) (by rfl)))) pss_nil)
      (pss_one (ps_ret (pe_join pe_str (pe_lc (own := [("byte", 3)]) (g := gName 3) (tt := tYes) rfl scBytesText.nd (pi_list (pv 0)) (blkOk_by (N := ["data", "signs", "sign", "byte"]) (sc := L2.defScope sBytesText) (by decide +kernel)) (fun _ _ _ _ _ => pg_name (i := 3) scBytesText.nd rfl (Or.inl rfl)) (fun _ _ _ _ _ => pts_nil) (fun _ _ _ _ _ => (pe_dget hu (pv 1) (pv 3) (fun _ _ => rfl)))))))))), ?_⟩
      refine q_when (b := true) (et_is (et_not (et_test (ev_call (ea_cons (ev_var rfl) ea_nil) fun H1 e Q' q' E' => ⟨x, o, rfl, hx.ex e, by rw [hb]; exact q'⟩))) rfl) (fun _ H1 x1 => ?_) (fun e => by cases e)
      exact q H1 x1
    · have hrob : Ev (tCall (spRob K) [] L2.E0 (tCons (tVar 0) tNil)) (start ["data", "signs", "sign", "byte"] [V.ref p]) H (.bl true) := ev_call (ea_cons (ev_var rfl) ea_nil) fun H1 e Q' q' E' => ⟨.ref p, _, rfl, rowOf_nums (hp.ex e) hl, by rw [rob_of hlt]; exact q'⟩
      rcases hp with hp | hp
      · refine ⟨_, (pss_cons (ps_if (pt_not (pt_val (pe_cl c_is_row_of_bytes hr (by decide) (by rfl) (pa_cons (pv 0) pa_nil)))) (pss_one (ps_raise rfl (takes_of rfl rfl rfl rfl) (pmk_own0 PySem.F.excBase_ValueError NB.xP NB.gC NB.kC (raises_own NB.bP NB.tP) (by rfl)))) pss_nil)
      (pss_cons (ps_set (i := 1) scBytesText.nd rfl (.inr rfl) (pe_dc (own := [("sign", 2)]) (g := gName 2) (tt := tYes) rfl scBytesText.nd (pi_str (pe_glob (v := .str zS) (by rfl) g_SIGNS ⟨_, rfl⟩)) (blkOk_by (N := ["data", "signs", "sign", "byte"]) (sc := L2.defScope sBytesText) (by decide +kernel)) (fun _ _ _ _ _ => pg_name (i := 2) scBytesText.nd rfl (Or.inl rfl)) (fun _ _ _ _ _ => pts_nil) (fun _ _ _ _ _ => (pe_callB call_ord (by rfl) B.ord (by decide +kernel) (pa_cons (pv 2) pa_nil))) (fun _ _ _ _ _ => (pv 2))))
      (pss_cons (ps_if (pt_not (pt_val (pe_callB (cr_all rfl) (by rfl) B.all (by decide +kernel) (pa_cons (pe_lc (own := [("byte", 3)]) (g := gName 3) (tt := tYes) rfl scBytesText.nd (pi_list (pv 0)) (blkOk_by (N := ["data", "signs", "sign", "byte"]) (sc := L2.defScope sBytesText) (by decide +kernel)) (fun _ _ _ _ _ => pg_name (i := 3) scBytesText.nd rfl (Or.inl rfl)) (fun _ _ _ _ _ => pts_nil) (fun _ _ _ _ _ => (pe_cmp (pc_din hu (pv 3) (pv 1)) rfl))) pa_nil)))) (pss_one (ps_raise rfl (takes_of rfl rfl rfl rfl) (pmk_own0 PySem.F.excBase_ValueError NT.xP NT.gC NT.kC (raises_own NT.bP NT.tP) (by rfl)))) pss_nil)
      (pss_one (ps_ret (pe_join pe_str (pe_lc (own := [("byte", 3)]) (g := gName 3) (tt := tYes) rfl scBytesText.nd (pi_list (pv 0)) (blkOk_by (N := ["data", "signs", "sign", "byte"]) (sc := L2.defScope sBytesText) (by decide +kernel)) (fun _ _ _ _ _ => pg_name (i := 3) scBytesText.nd rfl (Or.inl rfl)) (fun _ _ _ _ _ => pts_nil) (fun _ _ _ _ _ => (pe_dget hu (pv 1) (pv 3) (fun _ _ => rfl)))))))))), ?_⟩
        refine q_when (b := false) (et_is (et_not (et_test hrob)) rfl) (fun e => by cases e) fun _ H1 x1 => ?_
        refine q_signs eS (fun _ => rfl) (fun _ => rfl) fun d kvs H2 hd x2 h2 hs => ?_
        have T := turnsL (K := K) (p := p) (σ := [some (.ref p), some (.ref d), none, none]) hs h2 (x2 _ _ (x1 _ _ hp)) hl rfl
        refine q_when (b := true) (et_is (et_not (et_test (ev_all T.isin))) (by rw [all_id, ht]; rfl)) (fun _ H3 x3 => ?_) (fun e => by cases e)
        exact q H3 ((x1.trans x2).trans x3)
      · refine ⟨_, (pss_cons (ps_if (pt_not (pt_val (pe_cl c_is_row_of_bytes hr (by decide) (by rfl) (pa_cons (pv 0) pa_nil)))) (pss_one (ps_raise rfl (takes_of rfl rfl rfl rfl) (pmk_own0 PySem.F.excBase_ValueError NB.xP NB.gC NB.kC (raises_own NB.bP NB.tP) (by rfl)))) pss_nil)
      (pss_cons (ps_set (i := 1) scBytesText.nd rfl (.inr rfl) (pe_dc (own := [("sign", 2)]) (g := gName 2) (tt := tYes) rfl scBytesText.nd (pi_str (pe_glob (v := .str zS) (by rfl) g_SIGNS ⟨_, rfl⟩)) (blkOk_by (N := ["data", "signs", "sign", "byte"]) (sc := L2.defScope sBytesText) (by decide +kernel)) (fun _ _ _ _ _ => pg_name (i := 2) scBytesText.nd rfl (Or.inl rfl)) (fun _ _ _ _ _ => pts_nil) (fun _ _ _ _ _ => (pe_callB call_ord (by rfl) B.ord (by decide +kernel) (pa_cons (pv 2) pa_nil))) (fun _ _ _ _ _ => (pv 2))))
      (pss_cons (ps_if (pt_not (pt_val (pe_callB (cr_all rfl) (by rfl) B.all (by decide +kernel) (pa_cons (pe_lc (own := [("byte", 3)]) (g := gName 3) (tt := tYes) rfl scBytesText.nd (pi_tup (pv 0)) (blkOk_by (N := ["data", "signs", "sign", "byte"]) (sc := L2.defScope sBytesText) (by decide +kernel)) (fun _ _ _ _ _ => pg_name (i := 3) scBytesText.nd rfl (Or.inl rfl)) (fun _ _ _ _ _ => pts_nil) (fun _ _ _ _ _ => (pe_cmp (pc_din hu (pv 3) (pv 1)) rfl))) pa_nil)))) (pss_one (ps_raise rfl (takes_of rfl rfl rfl rfl) (pmk_own0 PySem.F.excBase_ValueError NT.xP NT.gC NT.kC (raises_own NT.bP NT.tP) (by rfl)))) pss_nil)
      (pss_one (ps_ret (pe_join pe_str (pe_lc (own := [("byte", 3)]) (g := gName 3) (tt := tYes) rfl scBytesText.nd (pi_tup (pv 0)) (blkOk_by (N := ["data", "signs", "sign", "byte"]) (sc := L2.defScope sBytesText) (by decide +kernel)) (fun _ _ _ _ _ => pg_name (i := 3) scBytesText.nd rfl (Or.inl rfl)) (fun _ _ _ _ _ => pts_nil) (fun _ _ _ _ _ => (pe_dget hu (pv 1) (pv 3) (fun _ _ => rfl)))))))))), ?_⟩
        refine q_when (b := false) (et_is (et_not (et_test hrob)) rfl) (fun e => by cases e) fun _ H1 x1 => ?_
        refine q_signs eS (fun _ => rfl) (fun _ => rfl) fun d kvs H2 hd x2 h2 hs => ?_
        have T := turnsT (K := K) (p := p) (σ := [some (.ref p), some (.ref d), none, none]) hs h2 (x2 _ _ (x1 _ _ hp)) hl rfl
        refine q_when (b := true) (et_is (et_not (et_test (ev_all T.isin))) (by rw [all_id, ht]; rfl)) (fun _ H3 x3 => ?_) (fun e => by cases e)
        exact q H3 ((x1.trans x2).trans x3)
end
end N4

set_option maxHeartbeats 4000000
namespace N4
open PySem PySem.Spec PyProof.Rows L2 Evl
open SX (S)
abbrev sLawDrawn : Stmt := topS 20
theorem scLawDrawn : FnScope ["well", "most", "lap"] ["well", "most"] (L2.defScope sLawDrawn) := ⟨rfl, rfl, rfl, by decide +kernel, rfl, by decide +kernel, by decide +kernel⟩

section
variable {P : Program} {w : World} {K : PySem.W.Frag} {mg : Str → Option Value} {base : Heap} {C : Addr}
theorem ok_lawWell {f : Addr} {fd : FuncData} (F : FnP K "_law_well" sLawWell f fd) (B : Bt mg) : FnOk P w K mg base L2.CX0 1 f fd ["cell"] spWell := by
  refine F.ok scLawWell (fun vs H Q E h => ?_) (fun cdv A outer s H vs Q E hr h => ?_)
  · obtain ⟨x, rfl, _⟩ := h
    rfl
  · obtain ⟨i, rfl, q⟩ := h
    refine ⟨_, PSs.nox (pss_one (ps_ret (pe_lst (pa_cons (pe_callTy call_int1 (by rfl) B.int (by decide +kernel) (pa_cons (pv 0) pa_nil)) (pa_cons pe_int pa_nil))))), ?_⟩
    exact s_retL (el_lst (ea_cons (ev_intI (ev_var rfl)) (ea_cons ev_c ea_nil)) (by show 2 ≤ 100000; decide)) fun p H1 hp x1 h1 => q p H1 hp x1 ⟨i, 0, h1, by omega, by omega⟩
end
section
variable {P : Program} {w : World} {K : PySem.W.Frag} {mg : Str → Option Value} {base : Heap} {C : Addr}
theorem ok_lawDraw {f : Addr} {fd : FuncData} (F : FnP K "_law_draw" sLawDraw f fd) (B : Bt mg) : FnOk P w K mg base L2.CX0 1 f fd ["well", "many"] spDraw := by
  refine F.ok scLawDraw (fun vs H Q E h => ?_) (fun cdv A outer s H vs Q E hr h => ?_)
  · obtain ⟨a, m, n, rfl, _⟩ := h
    rfl
  · obtain ⟨a, m, n, rfl, m0, m1, ⟨x, c, hx, c0, c1⟩, hn, q⟩ := h
    refine ⟨_, PSs.nox (pss_cons (ps_if (pt_cmpR op_ge (pe_ix ix_list (pv 0) pe_int (fun _ _ => rfl)) (pe_op op_pow pe_int pe_int) (nomark _)) (pss_cons (ps_set (i := 2) scLawDraw.nd rfl (.inl rfl) (pe_op op_mod (pe_callTy call_int1 (by rfl) B.int (by decide +kernel) (pa_cons (pe_ix ix_list (pv 0) pe_int (fun _ _ => rfl)) pa_nil)) (pv 1)))
      (pss_cons (ps_asg (pe_op op_fdivW (pe_ix ix_list (pv 0) pe_int (fun _ _ => rfl)) (pv 1)) (pg_sub (pv 0) pe_int set_list))
      (pss_one (ps_ret (pv 2))))) pss_nil)
      (pss_cons (ps_asg (pe_op op_add (pe_ix ix_list (pv 0) pe_int (fun _ _ => rfl)) pe_int) (pg_sub (pv 0) pe_int set_list))
      (pss_cons (ps_set (i := 3) scLawDraw.nd rfl (.inl rfl) (pe_op op_mod (pe_callTy call_int1 (by rfl) B.int (by decide +kernel) (pa_cons (pe_op op_mulW (pe_callTy call_int1 (by rfl) B.int (by decide +kernel) (pa_cons (pe_op op_add (pe_op op_add (pe_op op_mod (pe_callTy call_int1 (by rfl) B.int (by decide +kernel) (pa_cons (pe_ix ix_list (pv 0) pe_int (fun _ _ => rfl)) pa_nil)) pe_int) (pe_op op_mulW pe_int (pe_ix ix_list (pv 0) pe_int (fun _ _ => rfl)))) pe_int) pa_nil)) pe_int) pa_nil)) pe_int))
      (pss_cons (ps_set (i := 4) scLawDraw.nd rfl (.inl rfl) (pe_op op_mod (pe_callTy call_int1 (by rfl) B.int (by decide +kernel) (pa_cons (pe_op op_fdivW (pe_ix ix_list (pv 0) pe_int (fun _ _ => rfl)) pe_int) pa_nil)) pe_int))
      (pss_cons (ps_set (i := 3) scLawDraw.nd rfl (.inl rfl) (pe_op op_mod (pe_callTy call_int1 (by rfl) B.int (by decide +kernel) (pa_cons (pe_op op_mulW (pv 3) (pe_op op_add (pe_op op_add (pe_op op_fdivW (pv 3) pe_int) pe_int) (pv 4))) pa_nil)) pe_int))
      (pss_one (ps_ret (pe_op op_mod (pe_callTy call_int1 (by rfl) B.int (by decide +kernel) (pa_cons (pe_op op_fdivW (pe_op op_mod (pe_callTy call_int1 (by rfl) B.int (by decide +kernel) (pa_cons (pe_op op_mulW (pv 3) (pe_op op_add (pe_op op_fdivW (pv 3) pe_int) pe_int)) pa_nil)) pe_int) pe_int) pa_nil)) (pv 1))))))))), ?_⟩
    have hix : ∀ (i : Int) (v : V) (σ' : L2.St) (H5 : Hp) (xs : List V), σ'[0]? = some (some (.ref a)) → H5 a = some (.lst xs) → atI xs i = some v → Ev (tOp (rIxL K) (tVar 0) (tC (.int i))) σ' H5 v :=
      fun i v σ' H5 xs h0 h1 h2 => ev_op (ev_var h0) ev_c (rv_ixL (sq_of h1) h2)
    refine q_when (b := decide ((10 : Int) ^ 18 ≤ x)) (et_test (ev_op (hix 0 (.int x) _ _ _ rfl hx rfl) (ev_op ev_c ev_c (rv_I ⟨by decide, by decide, by decide⟩)) (rv_is rv_I0 ?_))) (fun e H1 x1 => ?_) (fun e H1 x1 => ?_)
    · rfl
    · refine q_asg (ev_op (ev_intI (hix 0 (.int x) _ _ _ rfl (x1 _ _ hx) rfl)) (ev_var rfl) (rv_mod m0)) fun H2 x2 => ?_
      refine q_setL (l := a) (xs := [.int x, .int c]) (j := 0) (x2 _ _ (x1 _ _ hx)) (ev_op (hix 0 (.int x) _ _ _ rfl (x2 _ _ (x1 _ _ hx)) rfl) (ev_var rfl) (rv_fdivS m0 (by omega))) (ev_var rfl) ev_c (by show 0 < 2; decide) fun H3 x3 => ?_
      refine s_ret (ev_var rfl) fun H4 x4 => q _ H4 (Int.emod_nonneg _ (by omega)) (Int.emod_lt_of_pos _ m0) ?_ ⟨x / m, c, x4 _ _ upd_same, c0, by omega⟩
      exact (Exa.of ((x1.trans x2).trans x3)).trans (Exa.upd.trans (Exa.of x4))
    · refine q_setL (l := a) (xs := [.int x, .int c]) (j := 1) (x1 _ _ hx) (ev_op (hix 1 (.int c) _ _ _ rfl (x1 _ _ hx) rfl) ev_c rv_I0) (ev_var rfl) ev_c (by show 1 < 2; decide) fun H2 x2 => ?_
      have h2 : (upd H2 a (.lst ([V.int x, V.int c].set 1 (V.int (c + 1))))) a = some (.lst [.int x, .int (c + 1)]) := upd_same
      generalize hH : upd H2 a (.lst ([V.int x, V.int c].set 1 (V.int (c + 1)))) = H3 at h2
      have xa : Exa a H H3 := by
        rw [← hH]
        exact (Exa.of (x1.trans x2)).trans Exa.upd
      clear hH
      have e1 := Int.emod_nonneg x (show (2147483629 : Int) ≠ 0 by decide)
      have e2 := Int.emod_lt_of_pos x (show (0 : Int) < 2147483629 by decide)
      refine q_asg (v := .int (((x % 2147483629 + 60013 * (c + 1) + 11) * 48271) % 2147483647)) (ev_op (ev_intI (ev_op (ev_intI (ev_op (ev_op (ev_op (ev_intI (hix 0 (.int x) _ _ _ rfl h2 rfl)) ev_c (rv_mod (by decide))) (ev_op ev_c (hix 1 (.int (c + 1)) _ _ _ rfl h2 rfl) (rv_mulS (by decide) (by omega))) rv_I0) ev_c rv_I0)) ev_c (rv_mulS (by omega) (by decide)))) ev_c (rv_mod (by decide))) fun H4 x4 => ?_
      have e3 := Int.emod_nonneg ((x % 2147483629 + 60013 * (c + 1) + 11) * 48271) (show (2147483647 : Int) ≠ 0 by decide)
      have e4 := Int.emod_lt_of_pos ((x % 2147483629 + 60013 * (c + 1) + 11) * 48271) (show (0 : Int) < 2147483647 by decide)
      generalize ((x % 2147483629 + 60013 * (c + 1) + 11) * 48271) % 2147483647 = nr at e3 e4 ⊢
      refine q_asg (v := .int ((x / 2147483629) % 9973)) (ev_op (ev_intI (ev_op (hix 0 (.int x) _ _ _ rfl (x4 _ _ h2) rfl) ev_c (rv_fdivS (by decide) (by decide)))) ev_c (rv_mod (by decide))) fun H5 x5 => ?_
      have e5 := Int.emod_nonneg (x / 2147483629) (show (9973 : Int) ≠ 0 by decide)
      have e6 := Int.emod_lt_of_pos (x / 2147483629) (show (0 : Int) < 9973 by decide)
      generalize (x / 2147483629) % 9973 = mo at e5 e6 ⊢
      refine q_asg (v := .int ((nr * (nr / 1013 + 40692 + mo)) % 2147483587)) (ev_op (ev_intI (ev_op (ev_var rfl) (ev_op (ev_op (ev_op (ev_var rfl) ev_c (rv_fdivS (by decide) (by decide))) ev_c rv_I0) (ev_var rfl) rv_I0) (rv_mulS (by omega) (by omega)))) ev_c (rv_mod (by decide))) fun H6 x6 => ?_
      have e7 := Int.emod_nonneg (nr * (nr / 1013 + 40692 + mo)) (show (2147483587 : Int) ≠ 0 by decide)
      have e8 := Int.emod_lt_of_pos (nr * (nr / 1013 + 40692 + mo)) (show (0 : Int) < 2147483587 by decide)
      generalize (nr * (nr / 1013 + 40692 + mo)) % 2147483587 = n2 at e7 e8 ⊢
      refine s_ret (v := .int (((n2 * (n2 / 2003 + 69621)) % 2147483563 / 5) % m)) (ev_op (ev_intI (ev_op (ev_op (ev_intI (ev_op (ev_var rfl) (ev_op (ev_op (ev_var rfl) ev_c (rv_fdivS (by decide) (by decide))) ev_c rv_I0) (rv_mulS (by omega) (by omega)))) ev_c (rv_mod (by decide))) ev_c (rv_fdivS (by decide) (by decide)))) (ev_var rfl) (rv_mod m0)) fun H7 x7 => ?_
      exact q _ H7 (Int.emod_nonneg _ (by omega)) (Int.emod_lt_of_pos _ m0) (xa.trans (Exa.of (((x4.trans x5).trans x6).trans x7))) ⟨x, c + 1, x7 _ _ (x6 _ _ (x5 _ _ (x4 _ _ h2))), by omega, by omega⟩
end
section
variable {P : Program} {w : World} {K : PySem.W.Frag} {mg : Str → Option Value} {base : Heap} {C : Addr}
theorem ok_lawOne {f : Addr} {fd : FuncData} (F : FnP K "_law_one" sLawOne f fd) (B : Bt mg) (c_law_draw : Cl P w K mg base L2.CX0 1 "_law_draw" ["well", "many"] spDraw) : FnOk P w K mg base L2.CX0 2 f fd ["well", "some"] spOne := by
  refine F.ok scLawOne (fun vs H Q E h => ?_) (fun cdv A outer s H vs Q E hr h => ?_)
  · obtain ⟨a, p, xs, n, rfl, _⟩ := h
    rfl
  · obtain ⟨a, p, xs, n, rfl, hp, hpa, hne, hx, hw, hn, q⟩ := h
    refine ⟨_, PSs.nox (pss_one (ps_ret (pe_ix ix_list (pv 1) (pe_cl c_law_draw hr (by decide) (by rfl) (pa_cons (pv 0) (pa_cons (pe_callB call_len_seq (by rfl) B.len PySem.boot_len (pa_cons (pv 1) pa_nil)) pa_nil))) (fun _ _ => rfl)))), ?_⟩
    refine ⟨_, rfl, ?_⟩
    refine dr_draw (a := a) (m := (xs.length : Int)) (n := n) (ev_var rfl) (ev_len (ev_var rfl) (sq_of hp)) ?_ (by omega) hw hn fun d H' h0 h1 hxa hw' => ?_
    · cases xs with
      | nil => exact absurd rfl hne
      | cons x r => simp only [List.length_cons]; omega
    · obtain ⟨v, hv, hm⟩ := atI_some h0 h1
      exact ⟨p, xs, d, v, rfl, rfl, sq_of (hxa _ _ hpa hp), hv, q v H' hm hxa hw'⟩
end

/-! ### drawn texts -/
def lawL : List Nat := [32, 33, 34, 35, 36, 38, 39, 40, 41, 42, 43, 44, 45, 46, 47, 48, 49, 50, 51, 52, 53, 54, 55, 56, 57, 58, 59, 60, 61, 62, 63, 64, 65, 66, 67, 68, 69, 70, 71, 72, 73, 74, 75, 76, 77, 78, 79, 80, 81, 82, 83, 84, 85, 86, 87, 88, 89, 90, 91, 93, 94, 95, 96, 97, 98, 99, 100, 101, 102, 103, 104, 105, 106, 107, 108, 109, 110, 111, 112, 113, 114, 115, 116, 117, 118, 119, 120, 121, 122, 123, 124, 125, 126]
theorem law_text : ∀ c ∈ lawL, isTextSign c = true := by decide +kernel
def spSigns : Sp := fun vs H Q _ => vs = [] ∧ RetV (.str (S lawL)) H Q
def spOneS : Sp := fun vs H Q _ => ∃ (a : Addr) (l : List Nat) (n : Nat), vs = [.ref a, .str (S l)] ∧ l ≠ [] ∧ l.length ≤ 1000 ∧ WellAt H a n ∧ n ≤ 1000000 ∧ ∀ c H', c ∈ l → Exa a H H' → WellAt H' a (n + 1) → Q (.str (S [c])) H'
def spDrawn : Sp := fun vs H Q _ => ∃ (a : Addr) (m n : Nat), vs = [.ref a, .int (m : Int)] ∧ m ≤ 2000 ∧ WellAt H a n ∧ n ≤ 600000 ∧ ∀ l H', (∀ c ∈ l, c ∈ lawL) → l.length ≤ m → Exa a H H' → WellAt H' a (n + 2001) → Q (.str (S l)) H'
theorem Exa.back {a D : Addr} {n : Nat} {H H1 : Hp} (x : Exa a H H1) (hw : WellAt H1 a n) (h : H1 D = none) : H D = none := by
  obtain ⟨y, c, h1, _⟩ := hw
  cases e : H D with
  | none => rfl
  | some o =>
    by_cases q : D = a
    · rw [q, h1] at h
      cases h
    · rw [x D o q e] at h
      cases h
section
variable {K : PySem.W.Frag} {σ : L2.St} {H H' : Hp} {ta : TA} {te tb : TE} {Q : VK}
abbrev rAddS : R2 := fun x y H Q => ∃ i j, x = .str i ∧ y = .str j ∧ i.length + j.length ≤ sizeLine ∧ Q (.str (i ++ j)) H
theorem S_app (a b : List Nat) : S a ++ S b = S (a ++ b) := by
  show (⟨a.toArray ++ b.toArray⟩ : Str) = ⟨(a ++ b).toArray⟩
  simp
theorem rv_addS {a b : List Nat} (h : a.length + b.length ≤ 100000) : RV rAddS (.str (S a)) (.str (S b)) H (.str (S (a ++ b))) := fun H1 _ Q q => ⟨S a, S b, rfl, rfl, by rw [SX.S_len, SX.S_len]; exact sz_of h, by rw [S_app]; exact q H1 (Ex.refl H1)⟩
theorem lc_drawnS {a : Addr} {n m j : Nat} {vs : List Nat} (hm : m ≤ 2000)
    (hta : ∀ R : List V → Hp → Prop, (∀ (N : Nat) H1, N ≤ m → WellAt H1 a (n + 1) → Exa a H H1 → R [.int (N : Int)] H1) → ta σ H R)
    (hw : ∀ x, wipe ((wipe σ vs).set j (some x)) vs = wipe σ vs)
    (he : ∀ (i : Nat) H2, i < 2000 → WellAt H2 a (n + 1 + i) → ∀ Q : VK, (∀ c H', c ∈ lawL → Exa a H2 H' → WellAt H' a (n + 1 + (i + 1)) → Q (.str (S [c])) H') → te ((wipe σ vs).set j (some (.int ((0 : Int) + (i : Int))))) H2 Q)
    (hd : ∀ (D : Addr) (l : List Nat) H', H D = none → l.length ≤ m → (∀ c ∈ l, c ∈ lawL) → Exa a H H' → WellAt H' a (n + 2001) → H' D = some (.lst (l.map fun c => V.str (S [c]))) → Q (.ref D) H') :
    tLc (iRng1 ta) (gName j) tYes te vs σ H Q := by
  refine hta _ fun N H1 hN hw1 x1 => ⟨(N : Int), rfl, by omega, by omega, fun D hD => ?_⟩
  have hDa : D ≠ a := well_ne hw1 hD
  refine lc_range (lo := 0) (n := (N : Int).toNat) (fun i H2 => ∃ l : List Nat, l.length = i ∧ (∀ c ∈ l, c ∈ lawL) ∧ Exa a H1 H2 ∧ WellAt H2 a (n + 1 + i) ∧ H2 D = some (.lst (l.map fun c => V.str (S [c])))) ⟨[], rfl, (fun c hc => by cases hc), Exa.of (Ex.new hD), hw1.ex (Ex.new hD), upd_same⟩ (fun i H2 hi hP => ?_) fun H2 hP => ?_
  · rw [Int.toNat_natCast] at hi
    obtain ⟨l, h1, h2, h3, h4, h5⟩ := hP
    refine ⟨hw _, ?_⟩
    show te _ H2 _
    refine he i H2 (by omega) h4 _ fun c H3 hc x3 hw3 => ⟨_, x3 D _ hDa h5, by rw [List.length_map]; exact sz_lt (by omega), l ++ [c], by rw [List.length_append, h1]; rfl, fun y hy => ?_, fun b o hb ho => ?_, ?_, by rw [upd_same, List.map_append]; rfl⟩
    · rcases List.mem_append.mp hy with h | h
      · exact h2 y h
      · rw [List.mem_singleton.mp h]
        exact hc
    · rw [upd_ne (ne_of_none ho hD)]
      exact x3 b o hb (h3 b o hb ho)
    · obtain ⟨y, c, w1, w2⟩ := hw3
      exact ⟨y, c, by rw [upd_ne hDa.symm]; exact w1, w2⟩
  · rw [Int.toNat_natCast] at hP
    obtain ⟨l, h1, h2, h3, h4, h5⟩ := hP
    exact hd D l H2 (x1.back hw1 hD) (by omega) h2 (x1.trans h3) (h4.le (by omega)) h5
end
section
variable {P : Program} {w : World} {K : PySem.W.Frag} {mg : Str → Option Value} {base : Heap}
theorem ok_lawSigns {f : Addr} {fd : FuncData} (F : FnP K "_law_signs" sLawSigns f fd) : FnOk P w K mg base L2.CX0 1 f fd [] spSigns := by
  refine F.ok scLawSigns (fun vs H Q E h => ?_) (fun cdv A outer s H vs Q E hr h => ?_)
  · rw [h.1]
    rfl
  · obtain ⟨rfl, q⟩ := h
    refine ⟨_, PSs.nox (pss_cons (ps_set (i := 0) scLawSigns.nd rfl (.inl rfl) (pe_op op_add_str (pe_op op_add_str pe_str pe_str) pe_str))
      (pss_one (ps_ret (pe_op op_add_str (pv 0) pe_str)))), ?_⟩
    refine q_asg (v := .str (S (lawL.take 62))) (ev_is (ev_op (ev_op (ev_is ev_c (congrArg V.str (show _ = S [32, 33] by decide +kernel))) (ev_is ev_c (congrArg V.str (show _ = S [34] by decide +kernel))) (rv_addS (by decide))) (ev_is ev_c (congrArg V.str (show _ = S ((lawL.take 62).drop 3) by decide +kernel))) (rv_addS (by decide))) ?_) fun H1 x1 => ?_
    · exact congrArg (fun l => V.str (S l)) (by decide +kernel)
    · refine s_ret (ev_is (ev_op (ev_var rfl) (ev_is ev_c (congrArg V.str (show _ = S (lawL.drop 62) by decide +kernel))) (rv_addS (by decide))) ?_) fun H2 x2 => q H2 (x1.trans x2)
      rw [List.take_append_drop]
theorem ok_lawOneS {f : Addr} {fd : FuncData} (F : FnP K "_law_one" sLawOne f fd) (B : Bt mg) (c_law_draw : Cl P w K mg base L2.CX0 1 "_law_draw" ["well", "many"] spDraw) : FnOk P w K mg base L2.CX0 2 f fd ["well", "some"] spOneS := by
  refine F.ok scLawOne (fun vs H Q E h => ?_) (fun cdv A outer s H vs Q E hr h => ?_)
  · obtain ⟨a, l, n, rfl, _⟩ := h
    rfl
  · obtain ⟨a, l, n, rfl, hne, hl, hw, hn, q⟩ := h
    refine ⟨_, PSs.nox (pss_one (ps_ret (pe_ix ix_str (pv 1) (pe_cl c_law_draw hr (by decide) (by rfl) (pa_cons (pv 0) (pa_cons (pe_callB call_len_str (by rfl) B.len PySem.boot_len (pa_cons (pv 1) pa_nil)) pa_nil))) (fun _ _ => rfl)))), ?_⟩
    refine ⟨_, rfl, ?_⟩
    refine dr_draw (a := a) (m := (l.length : Int)) (n := n) (ev_var rfl) (ev_lenS (ev_var rfl) (by omega)) ?_ (by omega) hw hn fun d H' h0 h1 hxa hw' => ?_
    · cases l with
      | nil => exact absurd rfl hne
      | cons x r => simp only [List.length_cons]; omega
    · obtain ⟨c, hc, hm⟩ := atI_some h0 h1
      exact ⟨S l, d, c, rfl, rfl, by rw [SX.S_len]; exact sz_of (by omega), by simpa [S] using hc, q c H' hm hxa hw'⟩
theorem ok_lawDrawn {f : Addr} {fd : FuncData} (F : FnP K "_law_drawn" sLawDrawn f fd) (B : Bt mg) (c_law_draw : Cl P w K mg base L2.CX0 1 "_law_draw" ["well", "many"] spDraw) (c_law_one : Cl P w K mg base L2.CX0 2 "_law_one" ["well", "some"] spOneS) (c_law_signs : Cl P w K mg base L2.CX0 1 "_law_signs" [] spSigns) :
    FnOk P w K mg base L2.CX0 3 f fd ["well", "most"] spDrawn := by
  refine F.ok scLawDrawn (fun vs H Q E h => ?_) (fun cdv A outer s H vs Q E hr h => ?_)
  · obtain ⟨a, m, n, rfl, _⟩ := h
    rfl
  · obtain ⟨a, m, n, rfl, hm, hw, hn, q⟩ := h
    refine ⟨_, PSs.nox (pss_one (ps_ret (pe_join pe_str (pe_lc (own := [("lap", 2)]) (g := gName 2) (tt := tYes) rfl scLawDrawn.nd (pi_range1 (by rfl) B.range (pa_cons (pe_cl c_law_draw hr (by decide) (by rfl) (pa_cons (pv 0) (pa_cons (pe_op op_add (pv 1) pe_int) pa_nil))) pa_nil)) (blkOk_by (N := ["well", "most", "lap"]) (sc := L2.defScope sLawDrawn) (by decide +kernel)) (fun _ _ _ _ _ => pg_name (i := 2) scLawDrawn.nd rfl (Or.inl rfl)) (fun _ _ _ _ _ => pts_nil) (fun _ _ _ _ _ => (pe_cl c_law_one hr (by decide) (by rfl) (pa_cons (pv 0) (pa_cons (pe_cl0 c_law_signs hr (by decide) (by rfl)) pa_nil)))))))), ?_⟩
    refine ⟨⟨_, rfl⟩, ?_⟩
    refine lc_drawnS (a := a) (n := n) (m := m) (j := 2) hm (fun R hR => ?_) (fun _ => rfl) (fun i H2 hi hw2 Q' hQ' => ?_) (fun D l H2 hD hl hls x2 hw2 h2 => ?_)
    · refine rd_cons (dr_draw (a := a) (m := (m : Int) + 1) (n := n) (ev_var rfl) (ev_op (ev_var rfl) ev_c rv_I0) (by omega) (by omega) hw (by omega) fun d H2 d0 d1 x2 hw2 => rd_nil ?_)
      have := hR d.toNat H2 (by omega) hw2 x2
      rw [show ((d.toNat : Nat) : Int) = d by omega] at this
      exact this
    · refine rd_call (rd_cons (rd_ev (ev_var rfl) fun H3 x3 => rd_cons (rd_ev (ev_call (vs := []) ea_nil fun H4 e4 Q q E => ⟨rfl, q⟩) fun H4 x4 => rd_nil ⟨a, lawL, n + 1 + i, rfl, by decide, by decide, (hw2.ex x3).ex x4, by omega, fun c H5 hc x5 hw5 => hQ' c H5 hc ((Exa.of (x3.trans x4)).trans x5) hw5⟩)))
    · have := ev_joinN (K := K) (σ := start ["well", "most", "lap"] [V.ref a, V.int (m : Int)]) (H := H2) (te := tC (.ref D)) (z := S []) (l := l) rfl
      refine ⟨S [], D, l.map fun c => S [c], by decide +kernel, rfl, .inl (by rw [List.map_map]; exact sq_of h2), ?_, ?_⟩
      · rw [sum_ones, List.length_map]
        show l.length + l.length * 0 ≤ 16777216
        omega
      · rw [join_ones]
        exact q l H2 hls hl x2 hw2
end
end N4

set_option maxHeartbeats 4000000
namespace N4
open PySem PySem.Spec PyProof.Rows L2 Evl
open SX (S)
abbrev sLawToldRight : Stmt := topS 22
theorem scLawToldRight : FnScope ["well", "words_so", "codes_so", "got", "same_so", "sign"] ["well"] (L2.defScope sLawToldRight) := ⟨rfl, rfl, rfl, by decide +kernel, rfl, by decide +kernel, by decide +kernel⟩

structure ClK (P : Program) (w : World) (K : PySem.W.Frag) (mg : Str → Option Value) (base : Heap) (k : Nat) (x p1 : Str) (sp : Sp) : Prop where
  ex : ∃ (f : Addr) (fd : FuncData), FnOk P w K mg base L2.CX0 k f fd [p1] sp ∧ mg x = some (.ref f) ∧ PySem.W.keepIn K (.ref f) = true ∧ ∀ (s : Shared) (v : Value), K.In s.heap → BindsTo s fd ⟨[], [(p1, v)]⟩ [(p1, v)]
def gK {α : Type} : List α → List α → List α
  | [], ws => ws
  | _ :: _, _ => []
theorem kb_of {K : PySem.W.Frag} {fd : FuncData} {p1 : Str} (h : ∀ (s : Shared) (v : Value), K.In s.heap → BindsTo s fd ⟨[], [(p1, v)]⟩ [(p1, v)]) : KBinds K fd [p1] [p1] gK gK := by
  refine ⟨fun s us ws X hl => ?_, fun r rz => ?_⟩
  · cases us with
    | cons u us => cases hl
    | nil =>
      match ws, hl with
      | [v], _ => exact h s v X
  · cases r with
    | nil => exact rz
    | cons _ _ => exact .nil
theorem pe_clK {X : Cx} {k j : Nat} {x p1 : Str} {sp : Sp} {p pos : Pos} {kws : List Keyword} {tk : TA} (c : ClK X.prog X.w X.K X.mg X.base k x p1 sp) (hr : Room j X.A) (hk : k ≤ j) (hg : Gl X x) (hkw : PK X kws tk)
    (hall : (backToKw pos (keywordEach kws X.env)).all (·.1.isSome) = true := by rfl) (hks : (backToKw pos (keywordEach kws X.env)).filterMap (·.1) = [p1] := by rfl) (hdb : (x == ("__debug__" : Str)) = false := by decide)
    (hpl : ((backTo pos (starEach [] X.env)).any (·.1) || (backToKw pos (keywordEach kws X.env)).any (·.1.isNone)) = false := by rfl) : PE X (.Call (.Name x p) [] kws pos) (tCall sp [] L2.E0 tk) := by
  obtain ⟨f, fd, F, hm, hkp, hb⟩ := c.ex
  refine ⟨fun pins s σ H Q I h => ?_⟩
  refine wpAny_Call_Name_kw (ld_glob I hg hm ?_ hdb)
  refine PySem.W.callWith_KW0 (h₀ := X.base) I.ok.mod.kin hkp hall ?_ hpl
  refine thn (hkw.run pos pins s σ H _ I h) fun ws s2 ⟨zs, H2, I2, rz, q2⟩ => ⟨I2.kIn, ?_⟩
  rw [hks]
  refine run_fnk F (hr.mono hk) (kb_of hb) L2.pass0 I2 .nil rz ?_
  have e : gK [] zs = zs ++ [] := (List.append_nil zs).symm
  rw [e]
  exact q2
section
variable {K : PySem.W.Frag} {σ : L2.St} {H H' : Hp} {te ta tb tl : TE} {t : TT} {r : R2} {v x : V} {D : Ends} {tz tu : TS} {Q : VK}
abbrev rTupOf (K : PySem.W.Frag) : List V → Hp → VK → Prop := fun xs H Q => ∃ p ys, xs = [.ref p] ∧ ((SqL K H p ys ∧ ∀ l, H l = none → Q (.ref l) (upd H l (.tup ys))) ∨ (SqT K H p ys ∧ Q (.ref p) H))
end
section
variable {K : PySem.W.Frag} {σ : L2.St} {H H' : Hp} {te ta tb tl : TE} {t : TT} {r : R2} {v x : V} {D : Ends} {tz tu : TS} {Q : VK}
theorem eu_tupleV {p : Addr} {xs : List V} (h : Ev te σ H (.ref p)) (hp : H p = some (.lst xs)) : EvU (tCB (rTupOf K) (tCons te tNil)) σ H xs := fun H1 e Q q =>
  h H1 e _ fun H2 e2 => ⟨p, xs, rfl, .inl ⟨sq_of ((e.trans e2) _ _ hp), fun l hl => q l _ (fresh_back e2 hl) (e2.trans (Ex.new hl)) upd_same⟩⟩
end
theorem shaped_of {d : PyData} (h1 : d.canLay0 = true) (h2 : d.depth ≤ 64) : SeqAt.shaped d = true := by
  show (d.canLay0 && decide (d.depth ≤ 64)) = true
  rw [h1, decide_eq_true h2]; rfl

/-! ### lists of numbers compared -/
def dI (l : List Nat) : PyData := .list (l.map fun c : Nat => PyData.int (c : Int))
theorem dIs_lay : ∀ l : List Nat, PyData.canLayAll0 (l.map fun c : Nat => PyData.int (c : Int)) = true
  | [] => rfl
  | x :: a => by
    have e := dIs_lay a
    simp only [List.map_cons, PyData.canLayAll0, PyData.canLay0, e]
    rfl
theorem dIs_depth : ∀ l : List Nat, PyData.depthAll (l.map fun c : Nat => PyData.int (c : Int)) ≤ 1
  | [] => by simp [PyData.depthAll]
  | x :: a => by
    have e := dIs_depth a
    have e2 : PyData.depth (.int (x : Int)) ≤ 1 := by simp [PyData.depth]
    simp only [List.map_cons, PyData.depthAll]
    omega
theorem dI_lay (l : List Nat) : (dI l).canLay0 = true := by
  simp only [dI, PyData.canLay0]
  exact dIs_lay l
theorem dI_shaped (l : List Nat) : SeqAt.shaped (dI l) = true := shaped_of (dI_lay l) (by
  have e := dIs_depth l
  simp only [dI, PyData.depth]
  omega)
section
variable {K : PySem.W.Frag} {σ : L2.St} {H H' : Hp} {te ta tb tl : TE} {t : TT} {v x : V} {D : Ends} {tz tu : TS} {Q : VK}
theorem dIs_dp : ∀ l : List Nat, DpAll K H (ofL l) (l.map fun c : Nat => PyData.int (c : Int))
  | [] => .nil
  | x :: a => .cons (.int (x : Int)) (dIs_dp a)
theorem dI_dp {p : Addr} {l : List Nat} (h : SqL K H p (ofL l)) : Dp K H (.ref p) (dI l) := .lst h (dIs_dp l)
theorem rv_neSame {p q : Addr} {l : List Nat} (hp : H p = some (.lst (ofL l))) (hq : H q = some (.lst (ofL l))) : RV (rNeD K) (.ref p) (.ref q) H (.bl false) := fun H2 e2 Q k =>
  ⟨dI l, dI l, dI_dp (sq_of (e2 _ _ hp)), dI_dp (sq_of (e2 _ _ hq)), dI_shaped l, dI_shaped l, by rw [SeqAt.eqv_refl _ (dI_lay l)]; exact k H2 (Ex.refl H2)⟩
theorem rv_eqSame {p q : Addr} {l : List Nat} (hp : H p = some (.lst (ofL l))) (hq : H q = some (.lst (ofL l))) : RV (rEqD K) (.ref p) (.ref q) H (.bl true) := fun H2 e2 Q k =>
  ⟨dI l, dI l, dI_dp (sq_of (e2 _ _ hp)), dI_dp (sq_of (e2 _ _ hq)), dI_shaped l, dI_shaped l, by rw [SeqAt.eqv_refl _ (dI_lay l)]; exact k H2 (Ex.refl H2)⟩
theorem el_tb {l : List Nat} (h : Ev te σ H (.str (S l))) (hl : l.length ≤ 20000) (ht : isTextL l = true) : EvL (tCall spTB [] L2.E0 (tCons te tNil)) σ H (ofL l) :=
  el_call (vs := [.str (S l)]) (ea_cons h ea_nil) fun H1 e Q q E => ⟨l, rfl, hl, ht, q⟩
theorem ev_bt {l : List Nat} {p : Addr} (h : Ev te σ H (.ref p)) (hp : RowAt K H p (ofL l)) (hl : l.length ≤ 20000) (ht : isTextL l = true) : Ev (tCall (spBT K) [] L2.E0 (tCons te tNil)) σ H (.str (S l)) :=
  ev_call (vs := [.ref p]) (ea_cons h ea_nil) fun H1 e Q q E => ⟨p, l, rfl, hp.ex e, hl, ht, q⟩
theorem ev_btU {l : List Nat} (h : EvU te σ H (ofL l)) (hl : l.length ≤ 20000) (ht : isTextL l = true) : Ev (tCall (spBT K) [] L2.E0 (tCons te tNil)) σ H (.str (S l)) := fun H1 e Q q =>
  h H1 e _ fun p H2 hp e2 h2 => ⟨p, l, rfl, .inr h2, hl, ht, fun H3 e3 => q H3 (e2.trans e3)⟩
theorem ev_neStr {z : Str} (h1 : Ev ta σ H (.str z)) (h2 : Ev tb σ H (.str z)) : Ev (tOp rNe ta tb) σ H (.bl false) := ev_op h1 h2 (rv_is (rv_ne rfl) (by rw [decide_eq_true rfl]; rfl))
end
/-- what each of the law's looks promises -/
def spToldR : Sp := fun vs H Q _ => ∃ (a : Addr) (n : Nat), vs = [.ref a] ∧ WellAt H a n ∧ n ≤ 500000 ∧ ∀ H', Exa a H H' → WellAt H' a (n + 2100) → Q (.bl true) H'
section
variable {P : Program} {w : World} {K : PySem.W.Frag} {mg : Str → Option Value} {base : Heap}
theorem ok_lawTold {f : Addr} {fd : FuncData} (F : FnP K "_law_told_right" sLawToldRight f fd) (B : Bt mg) (c_law_one : Cl P w K mg base L2.CX0 2 "_law_one" ["well", "some"] spOne) (c_law_drawn : Cl P w K mg base L2.CX0 3 "_law_drawn" ["well", "most"] spDrawn)
    (c_text_bytes : Cl P w K mg base L2.CX0 3 "text_bytes" ["text"] spTB) (ck_text_bytes : ClK P w K mg base 3 "text_bytes" "text" spTB) (c_bytes_text : Cl P w K mg base L2.CX0 4 "bytes_text" ["data"] (spBT K)) (ck_bytes_text : ClK P w K mg base 4 "bytes_text" "data" (spBT K)) :
    FnOk P w K mg base L2.CX0 5 f fd ["well"] spToldR := by
  refine F.ok scLawToldRight (fun vs H Q E h => ?_) (fun cdv A outer s H vs Q E hr h => ?_)
  · obtain ⟨a, n, rfl, _⟩ := h
    rfl
  · obtain ⟨a, n, rfl, hw, hn, q⟩ := h
    refine ⟨_, PSs.nox (pss_cons (ps_set (i := 1) scLawToldRight.nd rfl (.inl rfl) (pe_cl c_law_drawn hr (by decide) (by rfl) (pa_cons (pv 0) (pa_cons (pe_cl c_law_one hr (by decide) (by rfl) (pa_cons (pv 0) (pa_cons (pe_lst (pa_cons pe_int (pa_cons pe_int (pa_cons pe_int (pa_cons pe_int pa_nil))))) pa_nil))) pa_nil))))
      (pss_cons (ps_setLc (i := 2) (own := [("sign", 5)]) (g := gName 5) (tt := tYes) rfl scLawToldRight.nd rfl rfl (sw_true rfl rfl rfl (by decide +kernel)) (pi_str (pv 1)) (blkOk_by (N := ["well", "words_so", "codes_so", "got", "same_so", "sign"]) (sc := L2.defScope sLawToldRight) (by decide +kernel)) (fun _ _ _ _ _ => pg_name (i := 5) scLawToldRight.nd rfl (Or.inl rfl)) (fun _ _ _ _ _ => pts_nil) (fun _ _ _ _ _ => (pe_callB call_ord (by rfl) B.ord (by decide +kernel) (pa_cons (pv 5) pa_nil))))
      (pss_cons (ps_set (i := 3) scLawToldRight.nd rfl (.inl rfl) (pe_cl c_text_bytes hr (by decide) (by rfl) (pa_cons (pv 1) pa_nil)))
      (pss_cons (ps_if (PW.pt (pw_or (pt_cmpR (op_neD hr.units) (pv 3) (pv 2) (nomark _)) (pw_or (pt_not (pt_val (pe_callB call_isi (by rfl) B.isi (by decide +kernel) (pa_cons (pv 3) (pa_cons (pe_bltn (v := .ty "list") (by rfl) B.list (by decide +kernel) rfl) pa_nil))))) (pw_or1 (pt_cmpR (op_neD hr.units) (pe_clK ck_text_bytes hr (by decide) (by rfl) (pk_cons (pv 1) pk_nil)) (pv 2) (nomark _)))))) (pss_one (ps_ret pe_bl)) pss_nil)
      (pss_cons (ps_set (i := 4) scLawToldRight.nd rfl (.inl rfl) (pe_callTy call_list_of (by rfl) B.list (by decide +kernel) (pa_cons (pv 2) pa_nil)))
      (pss_cons (ps_expr (pe_bm PySem.F.plainAttrs_list PySem.F.slot_list_append PySem.F.type_list_append mt_append (pv 3) (pa_cons pe_int pa_nil)))
      (pss_cons (ps_if (PW.pt (pw_or (pt_cmpR op_ne (pe_cl c_bytes_text hr (by decide) (by rfl) (pa_cons (pv 2) pa_nil)) (pv 1) (nomark _)) (pw_or (pt_cmpR op_ne (pe_clK ck_bytes_text hr (by decide) (by rfl) (pk_cons (pe_callTy call_tuple_of (by rfl) B.tuple (by decide +kernel) (pa_cons (pv 2) pa_nil)) pk_nil)) (pv 1) (nomark _)) (pw_or1 (pt_cmpR (op_neD hr.units) (pv 2) (pv 4) (nomark _)))))) (pss_one (ps_ret pe_bl)) pss_nil)
      (pss_one (ps_ret (pe_cmpR (op_eqD hr.units) (pe_cl c_text_bytes hr (by decide) (by rfl) (pa_cons (pv 1) pa_nil)) (pv 4) (nomark _))))))))))), ?_⟩
    refine q_asgAny (rd_call (rd_cons (rd_ev (ev_var rfl) fun H1 x1 => rd_cons (dr_oneL (a := a) (n := n) (xs := [.int 3, .int 30, .int 300, .int 2000]) (ev_var rfl) (el_lst (ea_cons ev_c (ea_cons ev_c (ea_cons ev_c (ea_cons ev_c ea_nil)))) (by decide)) (by simp) (by decide) (hw.ex x1) (by omega) fun v H2 hv xa2 hw2 => rd_nil ?_))))
    have hm : ∃ m : Nat, v = .int (m : Int) ∧ m ≤ 2000 := by
      simp only [List.mem_cons, List.not_mem_nil, or_false] at hv
      rcases hv with rfl | rfl | rfl | rfl
      · exact ⟨3, rfl, by decide⟩
      · exact ⟨30, rfl, by decide⟩
      · exact ⟨300, rfl, by decide⟩
      · exact ⟨2000, rfl, by decide⟩
    obtain ⟨m, rfl, hm⟩ := hm
    refine ⟨a, m, n + 1, rfl, hm, hw2, by omega, fun l H3 hls hll xa3 hw3 => ?_⟩
    have ht : isTextL l = true := List.all_eq_true.mpr fun c hc => law_text c (hls c hc)
    have xa13 := ((Exa.of x1).trans xa2).trans xa3
    refine q_asgL (el_ords (ev_var rfl) (by omega) (fun _ => rfl) (fun _ => rfl)) fun p H4 hp x4 h4 => ?_
    refine q_asgL (el_tb (ev_var rfl) (by omega) ht) fun g H5 hg x5 h5 => ?_
    have hpg : g ≠ p := fun z => by rw [z, h4] at hg; cases hg
    have hpa : p ≠ a := well_ne hw3 hp
    have hga : g ≠ a := well_ne (hw3.ex x4) hg
    refine q_when (b := false) (et_is (et_or (a := false) (b := false) (et_test (ev_op (ev_var rfl) (ev_var rfl) (rv_neSame h5 (x5 _ _ h4)))) fun _ => et_is (et_or (a := false) (b := false) (et_is (et_not (et_test (ev_isi (b := true) (ev_var rfl) (.base (.lst h5)) (by decide +kernel)))) rfl) fun _ =>
      et_test (ev_opL1 (el_tb (ev_var rfl) (by omega) ht) (fun H6 x6 => ev_var rfl) fun p2 H6 h6 x6 => rv_neSame h6 (x6 _ _ (x5 _ _ h4)))) rfl) rfl) (fun e => by cases e) fun _ H6 x6 => ?_
    refine q_asgL (el_list (ev_var rfl) (sq_of (x6 _ _ (x5 _ _ h4)))) fun s2 H7 hs2 x7 h7 => ?_
    have hs2p : s2 ≠ g := fun z => by rw [z, x6 _ _ h5] at hs2; cases hs2
    refine q_app (l := g) (xs := ofL l) (x7 _ _ (x6 _ _ h5)) (ev_var rfl) ev_c (by rw [ofL_len]; omega) fun H8 x8 => ?_
    have at8 : ∀ {b : Addr} {o : HO}, b ≠ g → H7 b = some o → (upd H8 g (.lst (ofL l ++ [V.int 37]))) b = some o := fun {b o} hb ho => by
      rw [upd_ne hb]
      exact x8 _ _ ho
    have h8p := at8 (Ne.symm hpg) (x7 _ _ (x6 _ _ (x5 _ _ h4)))
    have h8s := at8 hs2p h7
    have w8 : WellAt (upd H8 g (.lst (ofL l ++ [V.int 37]))) a (n + 1 + 2001) := by
      obtain ⟨y, c, k1, k2⟩ := ((((hw3.ex x4).ex x5).ex x6).ex x7).ex x8
      exact ⟨y, c, by rw [upd_ne (Ne.symm hga)]; exact k1, k2⟩
    have xa8 : Exa a H (upd H8 g (.lst (ofL l ++ [V.int 37]))) := fun b o hb ho => by
      have h3 := xa13 b o hb ho
      have hbg : b ≠ g := fun z => by rw [z] at h3; rw [x4 _ _ h3] at hg; cases hg
      exact at8 hbg (x7 _ _ (x6 _ _ (x5 _ _ (x4 _ _ h3))))
    generalize upd H8 g (.lst (ofL l ++ [V.int 37])) = H9 at h8p h8s w8 xa8 ⊢
    refine q_when (b := false) (et_is (et_or (a := false) (b := false) (et_test (ev_neStr (ev_bt (ev_var rfl) (.inl h8p) (by omega) ht) (ev_var rfl))) fun _ => et_is (et_or (a := false) (b := false) (et_test (ev_neStr (ev_btU (eu_tupleV (ev_var rfl) h8p) (by omega) ht) (ev_var rfl))) fun _ =>
      et_test (ev_op (ev_var rfl) (ev_var rfl) (rv_neSame h8p h8s))) rfl) rfl) (fun e => by cases e) fun _ H10 x10 => ?_
    exact s_ret (ev_opL1 (el_tb (ev_var rfl) (by omega) ht) (fun H6 x6 => ev_var rfl) fun p2 H11 h11 x11 => rv_eqSame h11 (x11 _ _ (x10 _ _ h8s))) fun H11 x11 => q H11 (xa8.trans (Exa.of (x10.trans x11))) (((w8.ex x10).ex x11).le (by omega))
end
end N4

set_option maxHeartbeats 4000000
namespace N4
open PySem PySem.Spec PyProof.Rows L2 Evl LD LamX
open SX (S)
abbrev sLawSaid : Stmt := topS 21
theorem scLawSaid : FnScope ["doing", "e"] ["doing"] (L2.defScope sLawSaid) := ⟨rfl, rfl, rfl, by decide +kernel, rfl, by decide +kernel, by decide +kernel⟩

theorem pss_if {X : Cx} {b : List Stmt} {t : TS} {p : Prop} (h : p → PSs X b t) : PSs X b (fun D σ H => p ∧ t D σ H) := ⟨fun pins s σ H D I hh => (h hh.1).run pins s σ H D I hh.2⟩
/-- what _law_said makes of what it calls -/
def TTs (CB CT : Addr) : (XK → Hp → VK → Prop) → Hp → VK → Prop := fun tl H Q =>
  tl (fun cls d H' => d = none ∧ ((cls = .ref CB ∧ ∀ H2, Ex H' H2 → Q (.str "bytes") H2) ∨ (cls = .ref CT ∧ ∀ H2, Ex H' H2 → Q (.str "text") H2))) H (fun _ H' => Q .non H')
/-- the two errors, told apart -/
structure Two (K : PySem.W.Frag) (mg : Str → Option Value) (CB CT : Addr) : Prop where
  NB : ErrC K mg "NoBytes" CB
  NT : ErrC K mg "NoText" CT
  gE : ∃ T, mg "TypegateError" = some (.ref T)
  EC : ExcC K CB
  n1 : PySem.W.exmOne K (.ref CT) (.ref CB) = some false
  n2 : PySem.W.kitOne K (.ref CB) (.ref CT) = some false
theorem said_gives {X : Cx} {A0 : Around} {stk : List Env} {g CB CT : Addr} {cdg : Value} (W2 : Two X.K X.mg CB CT) (isi : X.mg "isinstance" = none) :
    GivesK X A0 stk ["doing", "e"] "_law_said" (L2.defScope sLawSaid) g cdg (L2.defBody sLawSaid) "doing" (TTs CB CT) := by
  obtain ⟨NB, NT, ⟨T, gE⟩, EC, n1, n2⟩ := W2
  intro f M s H Q tl act hM hT
  refine ⟨_, pss_cons (ps_try_mix (X := (cxOf L2.CX0 X.prog X.w X.K X.mg X.base ["doing", "e"] "_law_said" (L2.defScope sLawSaid) g cdg A0 stk s H L2.E0).nox) (Wout := fun _ _ _ _ => False)
      (tb := fun W D σ H => ∃ Ech : XK, (∀ cls d σ' H', σ'.length = 2 → Ech cls d H' → W cls d σ' H') ∧ σ[0]? = some (some (.ref f)) ∧ M H ∧ tl Ech H (fun _ H1 => D.nx σ H1))
      rfl rfl scLawSaid.nd L2.takes0 (fun W pn xe tk _ => ?_)
      (.cons (o := some 1) (ts := fun a cls d D σ H => (cls = .ref CB ∧ d = none) ∧ tRet (tIf (tTest (tCB (rIsE X.K CB a) (tCons (tVar 1) (tCons (tC (.ref CT)) tNil)))) (tC (.str "several")) (tC (.str "bytes"))) D σ H) ⟨rfl, by decide, Or.inl NB.gC⟩ ⟨rfl, rfl⟩ (fun a oe cls d pn hz hf => pss_if fun hc => ?_)
        (.cons (o := none) (ts := fun _ _ _ => tRet (tC (.str "text"))) ⟨rfl, by decide, Or.inl NT.gC⟩ True.intro (fun a oe cls d pn hz hf => pss_one (ps_ret (by exact pe_str)))
          (.cons (o := none) (ts := fun _ _ _ => tRet (tC (.str "other"))) ⟨rfl, by decide, Or.inl gE⟩ True.intro (fun a oe cls d pn hz hf => pss_one (ps_ret (by exact pe_str))) .nil)))) (pss_one (ps_ret pe_non)), ?_⟩
  · refine ⟨fun pins s' σ H' D I h' => ?_⟩
    obtain ⟨Ech, hW, h1, h2, h3⟩ := h'
    have hp := act W pn xe Ech
    exact (pss_one (ps_expr (hp _ _ tk hW))).run pins s' σ H' D I ⟨h1, h2, h3⟩
  · obtain ⟨rfl, rfl⟩ := hc
    exact pss_one (ps_ret (pe_ifExp (pt_val (pe_callB (call_isE EC hz hf) (by rfl) isi (by decide +kernel) (pa_cons (pv 1) (pa_cons (pe_glob (v := .ref CT) (by rfl) NT.gC rfl) pa_nil)))) pe_str pe_str))
  · refine rd_seq ⟨_, ?_, rfl, hM, hT⟩
    rintro cls d σ' H' hlen ⟨rfl, ⟨rfl, q⟩ | ⟨rfl, q⟩⟩
    · refine ⟨true, NB.eP, fun _ a ha => ?_, fun e => by cases e⟩
      refine ⟨⟨rfl, rfl⟩, s_ret (v := .str "bytes") (ev_if (b := false) (et_test fun H1 e Q' q' => ⟨.ref a, List.getElem?_set_self (by rw [hlen]; decide), .ref CT, .ref CT, false, rfl, fun u r => r, n2, q' H1 (Ex.refl H1)⟩) (fun e => by cases e) fun _ => ev_c) fun H2 x2 => q H2 x2⟩
    · exact ⟨false, n1, (fun e => by cases e), fun _ => ⟨true, NT.eP, fun _ a ha => q H' (Ex.refl _), fun e => by cases e⟩⟩
end N4

set_option maxHeartbeats 4000000
namespace N4
open PySem PySem.Spec PyProof.Rows L2 Evl LD LamX
open SX (S)
abbrev sLawOtherSignsRight : Stmt := topS 23
theorem scLawOtherSignsRight : FnScope ["well", "words_so", "codes_so", "at", "code", "row", "sign"] ["well"] (L2.defScope sLawOtherSignsRight) := ⟨rfl, rfl, rfl, by decide +kernel, rfl, by decide +kernel, by decide +kernel⟩

def sub (l : List Nat) (i j : Nat) : List Nat := (l.drop i).take (j - i)
theorem cut_core (l : List Nat) (i j : Nat) : (l.drop (min i l.length)).take (min j l.length - min i l.length) = sub l i j := by
  unfold sub
  refine List.ext_getElem? fun k => ?_
  rw [List.getElem?_take, List.getElem?_take, List.getElem?_drop, List.getElem?_drop]
  by_cases hi : i ≤ l.length
  · rw [Nat.min_eq_left hi]
    by_cases hj : j ≤ l.length
    · rw [Nat.min_eq_left hj]
    · rw [Nat.min_eq_right (by omega)]
      by_cases hk : i + k < l.length
      · rw [if_pos (by omega), if_pos (by omega)]
      · rw [List.getElem?_eq_none (l := l) (i := i + k) (by omega)]
        simp
  · rw [show min i l.length = l.length by omega]
    rw [if_neg (by omega), List.getElem?_eq_none (l := l) (i := i + k) (by omega)]
    simp
theorem cut_nat (l : List Nat) (i j : Nat) : cutS (S l) (some (i : Int)) (some (j : Int)) = S (sub l i j) := by
  unfold cutS
  rw [SX.S_len, HT.sIx_nat, HT.sIx_nat]
  show (⟨((l.drop (min i l.length)).take (min j l.length - min i l.length)).toArray⟩ : Str) = _
  rw [cut_core]
theorem cut_to (l : List Nat) (j : Nat) : cutS (S l) none (some (j : Int)) = S (l.take j) := by
  unfold cutS
  rw [SX.S_len, HT.sIx_nat, HT.sIx_none]
  show (⟨((l.drop 0).take (min j l.length - 0)).toArray⟩ : Str) = _
  have e : (l.drop 0).take (min j l.length - 0) = l.take j := by
    rw [List.drop_zero, Nat.sub_zero]
    by_cases hj : j ≤ l.length
    · rw [Nat.min_eq_left hj]
    · rw [Nat.min_eq_right (by omega), List.take_length, List.take_of_length_le (by omega)]
  rw [e]
theorem cut_from (l : List Nat) (i : Nat) : cutS (S l) (some (i : Int)) none = S (l.drop i) := by
  unfold cutS
  rw [SX.S_len, HT.sIx_nat, HT.sIx_none]
  show (⟨((l.drop (min i l.length)).take (l.length - min i l.length)).toArray⟩ : Str) = _
  have e : (l.drop (min i l.length)).take (l.length - min i l.length) = l.drop i := by
    by_cases hi : i ≤ l.length
    · rw [Nat.min_eq_left hi, List.take_of_length_le (by rw [List.length_drop]; omega)]
    · rw [Nat.min_eq_right (by omega), Nat.sub_self, List.take_zero, List.drop_of_length_le (by omega)]
  rw [e]
theorem cutV_to (xs : List V) (i : Nat) : cutV xs none (some (i : Int)) = xs.take i := by
  unfold cutV
  rw [HT.sIx_none, HT.sIx_nat, List.drop_zero, Nat.sub_zero]
  by_cases h : i ≤ xs.length
  · rw [Nat.min_eq_left h]
  · rw [Nat.min_eq_right (by omega), List.take_length, List.take_of_length_le (by omega)]
section
variable {K : PySem.W.Frag} {σ : L2.St} {H H' : Hp} {te ta tb tl : TE} {t : TT} {r : R2} {v x : V} {D : Ends} {tz tu : TS} {Q : VK}
theorem ev_lenLst {p : Addr} {xs : List V} (h : Ev te σ H (.ref p)) (hp : H p = some (.lst xs)) : Ev (tCB (rLenS K) (tCons te tNil)) σ H (.int (xs.length : Int)) := fun H1 e Q q =>
  h H1 e _ fun H2 e2 => ⟨p, xs, rfl, .inl (sq_of (e2 _ _ (e _ _ hp))), q H2 e2⟩
end

section
variable {P : Program} {w : World} {K : PySem.W.Frag} {mg : Str → Option Value} {base : Heap} {CB CT : Addr}
/-- a def whose code object is known -/
theorem okC {CX : CXT} {x qual : Str} {params : Arguments} {body : List Stmt} {scope : Scope} {dvs : List V} {kws : List (Str × V)} {f c : Addr} {fd : FuncData} {N ps : List Str} {k : Nat} {sp : Sp} (F : FunD K x qual params body scope dvs kws f fd) (hc : fd.code = .ref c) (Sc : FnScope N ps scope)
    (len : ∀ vs H Q E, sp vs H Q E → vs.length = ps.length)
    (hbody : ∀ (A : Around) (outer : List Env) (s : Shared) (H : Hp) (vs : List V) (Q : VK) (E : XK), Room k (A.deeper (envOfC qual scope s.heap.objs.size f (.ref c))) → sp vs H Q E →
      ∃ t, PSs (cxOf CX P w K mg base N qual scope f (.ref c) A outer s H E) body t ∧ t { nx := fun _ H' => Q .non H', rt := Q } (start N vs) H) : FnOk P w K mg base CX (k + 1) f fd ps sp := by
  obtain ⟨oc, od, dV, kV, doc, pm, an, cdv, ct, osl, rfl, lk, hcd, _, _⟩ := F.ex
  obtain rfl : cdv = .ref c := hc
  exact fn_of lk hcd Sc len fun A outer s H vs Q E hr hsp => hbody A outer s H vs Q E hr hsp
theorem taker_of {X : Cx} {A0 : Around} {stk : List Env} {g : Addr} {fds : FuncData} (F : FnP X.K "_law_said" sLawSaid g fds) (hm : X.mg "_law_said" = some (.ref g)) (hb : Binds X.K fds ["doing"] []) (W2 : Two X.K X.mg CB CT) (isi : X.mg "isinstance" = none) : Taker X A0 stk "_law_said" g (TTs CB CT) := by
  have kp := F.kp
  obtain ⟨oc, od, dV, kV, doc, pm, an, cdv, ct, osl, rfl, lk, hcd, _, _⟩ := F.ex
  exact ⟨hm, kp, _, _, _, dV, kV, doc, pm, cdv, ct, oc, an, od, osl, ["doing", "e"], "doing", lk, hcd, hb, scLawSaid, rfl, .inl rfl, by decide, by decide, said_gives W2 isi⟩
end
/-- _law_said, as it stands -/
structure SaidT (K : PySem.W.Frag) (mg : Str → Option Value) (CB CT : Addr) : Prop where
  ex : ∃ (g : Addr) (fds : FuncData), FnP K "_law_said" sLawSaid g fds ∧ mg "_law_said" = some (.ref g) ∧ Binds K fds ["doing"] []
  W2 : Two K mg CB CT
/-- all but the well and the tables is as it was -/
def ExaN (a : Addr) (H H' : Hp) : Prop := ∀ b o, b ≠ a → H b = some o → (∀ ps, o ≠ .tbl ps) → H' b = some o
theorem ExaN.of {a : Addr} {H H' : Hp} (e : Exa a H H') : ExaN a H H' := fun b o n h _ => e b o n h
theorem ExaN.ofN {a : Addr} {H H' : Hp} (e : ExtN H H') : ExaN a H H' := fun b o _ h t => e b o h t
theorem ExaN.trans {a : Addr} {H H1 H2 : Hp} (x : ExaN a H H1) (y : ExaN a H1 H2) : ExaN a H H2 := fun b o n h t => y b o n (x b o n h t) t
theorem WellAt.exN {H H' : Hp} {a : Addr} {n : Nat} (e : ExtN H H') (h : WellAt H a n) : WellAt H' a n := by
  obtain ⟨x, c, h1, h2⟩ := h
  exact ⟨x, c, e _ _ h1 (fun ps z => by cases z), h2⟩
theorem Tabs.exa {T : List (Addr × Str)} {a : Addr} {n : Nat} {H H' : Hp} (hT : Tabs T H) (hw : WellAt H a n) (e : Exa a H H') : Tabs T H' := fun p hp => by
  obtain ⟨x, c, hx, _⟩ := hw
  obtain ⟨ps, h1, h2, h3⟩ := hT p hp
  refine ⟨ps, e _ _ (fun z => by rw [z, hx] at h1; cases h1) h1, h2, fun pos cv hc => ?_⟩
  obtain ⟨c', e1, e2⟩ := h3 pos cv hc
  exact ⟨c', e1, e _ _ (fun z => by
    rw [z, hx] at e2
    unfold CodeO at e2
    cases e2) e2⟩
theorem lst_tbl {xs : List V} : ∀ ps, HO.lst xs ≠ .tbl ps := fun ps z => by cases z
section
variable {K : PySem.W.Frag} {σ : L2.St} {H H' : Hp} {te ta tb tl : TE} {tt : TT} {v x : V} {D : Ends} {tz tu : TS} {Q : VK} {CB CT : Addr} {T : List (Addr × Str)} {t : XK → TE}
/-- what the reading of _law_said(lambda ..) is -/
abbrev tSaid (T : List (Addr × Str)) (CB CT : Addr) (t : XK → TE) : TE := fun σ H Q => Tabs T H ∧ ∀ H1, ExtN H H1 → Tabs T H1 → TTs CB CT (fun E H' Q' => t E σ H' Q') H1 Q
/-- it raises the error C, whatever may be -/
def Rai (t : XK → TE) (σ : L2.St) (H : Hp) (C : Addr) : Prop := ∀ H1, ExtN H H1 → ∀ E : XK, (∀ H2, Ex H1 H2 → E (.ref C) none H2) → ∀ Q, t E σ H1 Q
theorem rd_said {C : Addr} {z : Str} (hT : Tabs T H) (h : Rai t σ H C) (hc : (C = CB ∧ z = "bytes") ∨ (C = CT ∧ z = "text")) (k : ∀ H2, ExtN H H2 → Tabs T H2 → Q (.str z) H2) : tSaid T CB CT t σ H Q :=
  ⟨hT, fun H1 e1 T1 => h H1 e1 _ (fun H2 e2 => ⟨rfl, by
    rcases hc with ⟨rfl, rfl⟩ | ⟨rfl, rfl⟩
    · exact .inl ⟨rfl, fun H3 e3 => k H3 (e1.trans (.of (e2.trans e3))) (T1.ext (e2.trans e3))⟩
    · exact .inr ⟨rfl, fun H3 e3 => k H3 (e1.trans (.of (e2.trans e3))) (T1.ext (e2.trans e3))⟩⟩) _⟩
theorem rd_when {b : Bool} (h : tt σ H fun c H1 => c = false ∧ tz D σ H1) : True := True.intro
end
end N4

set_option maxHeartbeats 4000000
namespace N4
open PySem PySem.Spec PyProof.Rows L2 Evl LD LamX
open SX (S)
section
variable {K : PySem.W.Frag} {σ : L2.St} {H H' : Hp} {ta tb tc te : TE} {tl th : TO} {t u : TT} {x y z v : V}
theorem ev_slS {l : List Nat} {lo hi : Option Int} {r : List Nat} (h : Ev te σ H (.str (S l))) (h1 : EvO tl σ H lo) (h2 : EvO th σ H hi) (hl : l.length ≤ 40000) (er : cutS (S l) lo hi = S r) : Ev (tSl rSlS te tl th) σ H (.str (S r)) := fun H1 e Q q =>
  h H1 e _ fun H2 e2 => h1 H2 (e.trans e2) _ fun H3 e3 => h2 H3 ((e.trans e2).trans e3) _ fun H4 e4 => ⟨S l, rfl, by rw [SX.S_len]; exact sz_of (by omega), by rw [er]; exact q H4 ((e2.trans e3).trans e4)⟩
end

theorem not_sign {c : Nat} (h : c < 32 ∨ c = 37 ∨ 126 < c) : isTextSign c = false := by
  unfold isTextSign
  refine decide_eq_false fun q => ?_
  unfold signsL at q
  simp only [List.mem_cons, List.not_mem_nil, or_false] at q
  omega
theorem not_text {l r : List Nat} {m : List Nat} {c : Nat} (hc : c ∈ m) (h : isTextSign c = false) : isTextL (l ++ m ++ r) = false := by
  unfold isTextL
  refine Bool.eq_false_iff.mpr fun q => ?_
  have := List.all_eq_true.mp q c (List.mem_append_left _ (List.mem_append_right _ hc))
  rw [h] at this
  cases this
theorem cutV_from (xs : List V) (i : Nat) : cutV xs (some (i : Int)) none = xs.drop i := by
  unfold cutV
  rw [HT.sIx_nat, HT.sIx_none]
  by_cases h : i ≤ xs.length
  · rw [Nat.min_eq_left h, List.take_of_length_le (by rw [List.length_drop]; omega)]
  · rw [Nat.min_eq_right (by omega), Nat.sub_self, List.take_zero, List.drop_of_length_le (by omega)]
theorem ofL_take (l : List Nat) (i : Nat) : (ofL l).take i = ofL (l.take i) := by unfold ofL; rw [List.map_take]
theorem ofL_drop (l : List Nat) (i : Nat) : (ofL l).drop i = ofL (l.drop i) := by unfold ofL; rw [List.map_drop]
theorem ofL_app (a b : List Nat) : ofL a ++ ofL b = ofL (a ++ b) := by unfold ofL; rw [List.map_append]
section
variable {K : PySem.W.Frag} {σ : L2.St} {H H' : Hp} {te ta tb tl : TE} {v x : V} {Q : VK}
theorem el_cat {xs ys : List V} (ha : EvL ta σ H xs) (hb : EvL tb σ H ys) (hl : xs.length + ys.length ≤ 100000) : EvL (tOp rCat ta tb) σ H (xs ++ ys) := fun H1 e Q q =>
  ha H1 e _ fun p H2 hp e2 h2 => hb H2 (e.trans e2) _ fun r H3 hr e3 h3 => ⟨p, r, xs, ys, rfl, rfl, e3 _ _ h2, h3, sz_of hl, fun n hn => q n _ (fresh_back (e2.trans e3) hn) ((e2.trans e3).trans (Ex.new hn)) upd_same⟩
end
theorem q_asgG {te : TE} {g : TG} {tz : TS} {D : Ends} {σ : L2.St} {H : Hp} (h : te σ H fun v H1 => g v σ H1 (tz D)) : tSeq (tAsg te g) tz D σ H := h
/-- a lambda without parameters binds nothing; with one that has a default, this -/
theorem bindL0 {q : Str} {body : Expr} {scope : Scope} : BindL q ⟨[], [], none, [], [], none, []⟩ body scope [] [] := .inl ⟨rfl, rfl, fun _ _ _ _ _ => rfl⟩
section
variable {P : Program} {w : World} {K : PySem.W.Frag} {mg : Str → Option Value} {base : Heap} {CB CT c Pt f g : Addr} {T : List (Addr × Str)} {N : List Str} {qual : Str} {sc : Scope} {A : Around} {outer : List Env} {s : Shared} {H : Hp} {E : XK} {fds : FuncData}
abbrev XD (P : Program) (w : World) (K : PySem.W.Frag) (mg : Str → Option Value) (base : Heap) (N : List Str) (qual : Str) (sc : Scope) (f c : Addr) (A : Around) (outer : List Env) (s : Shared) (H : Hp) (E : XK) : Cx := (cxOf L2.CX0 P w K mg base N qual sc f (.ref c) A outer s H E).nox
theorem pe_lamD {params : Arguments} {body : Expr} {scope : Scope} {dvs : List V} {t : XK → TE} {p lpos pos : Pos} {j : Nat} (hg : Gl (XD P w K mg base N qual sc f c A outer s H E) "_law_said") (sd : SaidT K mg CB CT) (isi : mg "isinstance" = none) (TB : TabB base mg c Pt)
    (hmT : (Pt, (qual ++ ".<locals>.") ++ "<lambda>") ∈ T) (hu : ∀ p ∈ T, p.1 = Pt → p.2 = (qual ++ ".<locals>.") ++ "<lambda>") (hr : Room j (XD P w K mg base N qual sc f c A outer s H E).A) (hj : 6 ≤ j) (hd : Dfl (XD P w K mg base N qual sc f c A outer s H E) params dvs)
    (D : LamK (XD P w K mg base N qual sc f c A outer s H E) 4 params body scope dvs t) : PE (XD P w K mg base N qual sc f c A outer s H E) (.Call (.Name "_law_said" p) [.Lambda params body scope lpos] [] pos) (tSaid T CB CT t) := by
  obtain ⟨g, fds, Fs, hms, hbs⟩ := sd.ex
  exact pe_lamK (T := T) (k := 4) hg (taker_of (CB := CB) (CT := CT) Fs hms hbs sd.W2 isi) TB rfl hmT hu (hr.mono hj) hd D
end
def spOther (T : List (Addr × Str)) : Sp := fun vs H Q _ => ∃ (a : Addr) (n : Nat), vs = [.ref a] ∧ WellAt H a n ∧ n ≤ 500000 ∧ Tabs T H ∧ ∀ H', ExaN a H H' → Tabs T H' → WellAt H' a (n + 2100) → Q (.bl true) H'
section
variable {P : Program} {w : World} {K : PySem.W.Frag} {mg : Str → Option Value} {base : Heap} {CB CT c Pt : Addr} {T : List (Addr × Str)}
theorem ok_lawOther {f : Addr} {fd : FuncData} (F : FnP K "_law_other_signs_right" sLawOtherSignsRight f fd) (hc : fd.code = .ref c) (B : Bt mg) (TB : TabB base mg c Pt) (hmT : (Pt, (("_law_other_signs_right" : Str) ++ ".<locals>.") ++ "<lambda>") ∈ T) (hu : ∀ p ∈ T, p.1 = Pt → p.2 = (("_law_other_signs_right" : Str) ++ ".<locals>.") ++ "<lambda>")
    (sd : SaidT K mg CB CT) (c_law_draw : Cl P w K mg base L2.CX0 1 "_law_draw" ["well", "many"] spDraw) (c_law_one : Cl P w K mg base L2.CX0 2 "_law_one" ["well", "some"] spOne) (c_law_drawn : Cl P w K mg base L2.CX0 3 "_law_drawn" ["well", "most"] spDrawn)
    (x_text_bytes : Cl P w K mg base (L2.CX P w) 3 "text_bytes" ["text"] (spTBX K CT)) (x_bytes_text : Cl P w K mg base (L2.CX P w) 4 "bytes_text" ["data"] (spBTX K CB CT)) : FnOk P w K mg base L2.CX0 7 f fd ["well"] (spOther T) := by
  obtain ⟨f1, fd1, F1, m1, k1, b1⟩ := x_text_bytes.ex
  obtain ⟨f2, fd2, F2, m2, k2, b2⟩ := x_bytes_text.ex
  refine okC F hc scLawOtherSignsRight (fun vs H Q E h => ?_) (fun A outer s H vs Q E hr h => ?_)
  · obtain ⟨a, n, rfl, _⟩ := h
    rfl
  · obtain ⟨a, n, rfl, hw, hn, hT, q⟩ := h
    refine ⟨_, PSs.nox (pss_cons (ps_set (i := 1) scLawOtherSignsRight.nd rfl (.inr rfl) (pe_cl c_law_drawn hr (by decide) (by rfl) (pa_cons (pv 0) (pa_cons pe_int pa_nil))))
      (pss_cons (ps_asg (pe_tup (pa_cons (pe_lc (own := [("sign", 6)]) (g := gName 6) (tt := tYes) rfl scLawOtherSignsRight.nd (pi_str (pv 1)) (blkOk_by (N := ["well", "words_so", "codes_so", "at", "code", "row", "sign"]) (sc := L2.defScope sLawOtherSignsRight) (by decide +kernel)) (fun _ _ _ _ _ => pg_name (i := 6) scLawOtherSignsRight.nd rfl (Or.inl rfl)) (fun _ _ _ _ _ => pts_nil) (fun _ _ _ _ _ => (pe_callB call_ord (by rfl) B.ord (by decide +kernel) (pa_cons (pv 6) pa_nil)))) (pa_cons (pe_cl c_law_draw hr (by decide) (by rfl) (pa_cons (pv 0) (pa_cons (pe_op op_add (pe_callB call_len_str (by rfl) B.len PySem.boot_len (pa_cons (pv 1) pa_nil)) pe_int) pa_nil))) pa_nil))) (pg_tup rfl (pgs_cons (pg_name (i := 2) scLawOtherSignsRight.nd rfl (.inl rfl)) (pgs_cons (pg_name (i := 3) scLawOtherSignsRight.nd rfl (.inr rfl)) pgs_nil))))
      (pss_cons (ps_set (i := 4) scLawOtherSignsRight.nd rfl (.inl rfl) (pe_cl c_law_one hr (by decide) (by rfl) (pa_cons (pv 0) (pa_cons (pe_lst (pa_cons pe_int (pa_cons pe_int (pa_cons pe_int (pa_cons pe_int (pa_cons pe_int (pa_cons pe_int (pa_cons pe_int (pa_cons pe_int (pa_cons (pe_cl c_law_draw hr (by decide) (by rfl) (pa_cons (pv 0) (pa_cons pe_int pa_nil))) (pa_cons (pe_op op_add pe_int (pe_cl c_law_draw hr (by decide) (by rfl) (pa_cons (pv 0) (pa_cons pe_int pa_nil)))) pa_nil))))))))))) pa_nil))))
      (pss_cons (ps_asg (pe_tup (pa_cons (pe_op op_cat (pe_op op_cat (pe_slice sl_list (pv 2) po_none (po_some (pv 3))) (pe_lst (pa_cons (pv 4) pa_nil))) (pe_slice sl_list (pv 2) (po_some (pv 3)) po_none)) (pa_cons (pe_cl c_law_one hr (by decide) (by rfl) (pa_cons (pv 0) (pa_cons (pe_lst (pa_cons pe_str (pa_cons pe_str (pa_cons pe_str pa_nil)))) pa_nil))) pa_nil))) (pg_tup rfl (pgs_cons (pg_name (i := 5) scLawOtherSignsRight.nd rfl (.inr rfl)) (pgs_cons (pg_name (i := 6) scLawOtherSignsRight.nd rfl (.inr rfl)) pgs_nil))))
      (pss_cons (ps_if (pt_cmpR op_ne (pe_lamD (T := T) (CB := CB) (CT := CT) (by rfl) sd B.isi TB hmT hu hr (by decide) (.inl ⟨rfl, rfl⟩) ⟨⟨[], lamN_by (N := ["well", "words_so", "codes_so", "at", "code", "row", "sign"]) (sc := L2.defScope sLawOtherSignsRight) (by decide +kernel), bindL0⟩, fun A outer s H E f c' hr2 => (pe_callS F1 (hr2.mono (by decide)) (by rfl) m1 k1 b1 (fun σ => passAt (takes_of rfl rfl rfl rfl) σ) (pa_cons (pe_op op_add_str (pe_op op_add_str (pe_slice sl_str (pv 1) po_none (po_some (pv 3))) (pv 6)) (pe_slice sl_str (pv 1) (po_some (pv 3)) po_none)) pa_nil))⟩) pe_str (nomark _)) (pss_one (ps_ret pe_bl)) pss_nil)
      (pss_one (ps_ret (pe_and (pe_cmpR op_eq (pe_lamD (T := T) (CB := CB) (CT := CT) (by rfl) sd B.isi TB hmT hu hr (by decide) (.inl ⟨rfl, rfl⟩) ⟨⟨[], lamN_by (N := ["well", "words_so", "codes_so", "at", "code", "row", "sign"]) (sc := L2.defScope sLawOtherSignsRight) (by decide +kernel), bindL0⟩, fun A outer s H E f c' hr2 => (pe_callS F2 (hr2.mono (by decide)) (by rfl) m2 k2 b2 (fun σ => passAt (takes_of rfl rfl rfl rfl) σ) (pa_cons (pv 5) pa_nil))⟩) pe_str (nomark _)) (pe_one (pe_cmpR op_eq (pe_lamD (T := T) (CB := CB) (CT := CT) (by rfl) sd B.isi TB hmT hu hr (by decide) (.inr ⟨_, .int 0, rfl, rfl, pe_int⟩) ⟨⟨["of"], lamN_by (N := ["well", "words_so", "codes_so", "at", "code", "row", "sign"]) (sc := L2.defScope sLawOtherSignsRight) (by decide +kernel), (.inr ⟨.int 0, "of", rfl, rfl, fun _ _ _ _ _ _ _ => ⟨_, rfl, rfl⟩⟩)⟩, fun A outer s H E f c' hr2 => (pe_callS F2 (hr2.mono (by decide)) (by rfl) m2 k2 b2 (fun σ => passAt (takes_of rfl rfl rfl rfl) σ) (pa_cons (pe_callTy (show CallR _ (.type "tuple") (rTupOf K) from call_tuple_of) (by rfl) B.tuple (by decide +kernel) (pa_cons (pv 5) pa_nil)) pa_nil))⟩) pe_str (nomark _))))))))))), ?_⟩
    refine q_asgAny (rd_call (rd_cons (rd_ev (ev_var rfl) fun H1 x1 => rd_cons (rd_ev ev_c fun H2 x2 => rd_nil ⟨a, 12, n, rfl, by decide, (hw.ex x1).ex x2, by omega, fun l H3 hls hll xa3 hw3 => ?_⟩))))
    have xa03 := (Exa.of (a := a) (x1.trans x2)).trans xa3
    refine q_asgG (rd_tup (rd_cons (el_ords (l := l) (j := 6) (ev_var rfl) (by omega) (fun _ => rfl) (fun _ => rfl) H3 (Ex.refl H3) _ fun p H4 hp x4 h4 => rd_cons (dr_draw (a := a) (m := (l.length : Int) + 1) (n := n + 2001) (ev_var rfl) (ev_op (ev_lenS (ev_var rfl) (by omega)) ev_c rv_I0) (by omega) (by omega) (hw3.ex x4) (by omega) fun d H5 d0 d1 xa5 hw5 => rd_nil ⟨by show 2 ≤ sizeLine; decide, fun tp htp => ?_⟩))))
    obtain ⟨k, rfl⟩ : ∃ k : Nat, d = (k : Int) := ⟨d.toNat, by omega⟩
    have hpa : p ≠ a := well_ne hw3 hp
    have h5 := xa5 _ _ hpa h4
    refine ⟨tp, _, rfl, st_of upd_same, rfl, _, _, rfl, _, _, rfl, rfl, ?_⟩
    have h6 := (Ex.new (o := .tup [V.ref p, V.int (k : Int)]) htp) _ _ h5
    have hw6 := hw5.ex (Ex.new (o := .tup [V.ref p, V.int (k : Int)]) htp)
    have xa06 := ((xa03.trans (Exa.of x4)).trans xa5).trans (Exa.of (Ex.new (o := .tup [V.ref p, V.int (k : Int)]) htp))
    generalize upd H5 tp (.tup [V.ref p, V.int (k : Int)]) = H6 at h6 hw6 xa06 ⊢
    refine q_asgAny (rd_call (rd_cons (rd_ev (ev_var rfl) fun H7 x7 => rd_cons (rd_lst (rd_cons (rd_c (rd_cons (rd_c (rd_cons (rd_c (rd_cons (rd_c (rd_cons (rd_c (rd_cons (rd_c (rd_cons (rd_c (rd_cons (rd_c (rd_cons (dr_draw (a := a) (m := 32) (n := n + 2001 + 1) (ev_var rfl) ev_c (by decide) (by decide) (hw6.ex x7) (by omega) fun e1 H8 e10 e11 xa8 hw8 => rd_cons (rd_op (rd_c (dr_draw (a := a) (m := 129) (n := n + 2001 + 1 + 1) (ev_var rfl) ev_c (by decide) (by decide) hw8 (by omega) fun e2 H9 e20 e21 xa9 hw9 => ⟨127, e2, rfl, rfl, rd_nil ⟨by show 10 ≤ sizeLine; decide, fun lp hlp => rd_nil ?_⟩⟩)))))))))))))))))))))))))
    refine ⟨a, lp, [.int 0, .int 9, .int 10, .int 31, .int 37, .int 127, .int 128, .int 255, .int e1, .int (127 + e2)], n + 2001 + 1 + 1 + 1, rfl, upd_same, well_ne hw9 hlp, by simp, by show 10 ≤ 1000; decide, hw9.ex (Ex.new hlp), by omega, fun v H10 hv xa10 hw10 => ?_⟩
    have h10 := xa10 _ _ hpa ((Ex.new hlp) _ _ (xa9 _ _ hpa (xa8 _ _ hpa (x7 _ _ h6))))
    have xa010 := (((xa06.trans (Exa.of x7)).trans xa8).trans xa9).trans ((Exa.of (Ex.new hlp)).trans xa10)
    have hv' : ∃ c : Nat, v = .int (c : Int) ∧ c < 256 ∧ (c < 32 ∨ c = 37 ∨ 126 < c) := by
      simp only [List.mem_cons, List.not_mem_nil, or_false] at hv
      rcases hv with rfl | rfl | rfl | rfl | rfl | rfl | rfl | rfl | rfl | rfl
      · exact ⟨0, rfl, by decide, by decide⟩
      · exact ⟨9, rfl, by decide, by decide⟩
      · exact ⟨10, rfl, by decide, by decide⟩
      · exact ⟨31, rfl, by decide, by decide⟩
      · exact ⟨37, rfl, by decide, by decide⟩
      · exact ⟨127, rfl, by decide, by decide⟩
      · exact ⟨128, rfl, by decide, by decide⟩
      · exact ⟨255, rfl, by decide, by decide⟩
      · exact ⟨e1.toNat, congrArg V.int (by omega), by omega, by omega⟩
      · exact ⟨(127 + e2).toNat, congrArg V.int (by omega), by omega, by omega⟩
    obtain ⟨c0, rfl, hc256, hcs⟩ := hv'
    have T10 : Tabs T H10 := N4.Tabs.exa hT hw xa010
    have ll : (ofL l).length ≤ 12 := by rw [ofL_len]; exact hll
    have len1 := cutV_length (ofL l) none (some (k : Int))
    have len2 := cutV_length (ofL l) (some (k : Int)) none
    have erow : cutV (ofL l) none (some (k : Int)) ++ [V.int (c0 : Int)] ++ cutV (ofL l) (some (k : Int)) none = ofL (l.take k ++ [c0] ++ l.drop k) := by
      rw [cutV_to, cutV_from, ofL_take, ofL_drop, ← ofL_app, ← ofL_app]
      rfl
    have hrow : EvL (tOp rCat (tOp rCat (tSl (rSlL K) (tVar 2) tNoPart (tPart (tVar 3))) (tLst (tCons (tVar 4) tNil))) (tSl (rSlL K) (tVar 2) (tPart (tVar 3)) tNoPart)) [some (.ref a), some (.str (S l)), some (.ref p), some (.int (k : Int)), some (.int (c0 : Int)), none, none] H10 (ofL (l.take k ++ [c0] ++ l.drop k)) := by
      rw [← erow]
      exact el_cat (el_cat (el_sl (ev_var rfl) eo_none (eo_some (ev_var rfl)) (sq_of h10)) (el_lst (ea_cons (ev_var rfl) ea_nil) (by show 1 ≤ 100000; decide)) (by simp only [List.length_singleton]; omega)) (el_sl (ev_var rfl) (eo_some (ev_var rfl)) eo_none (sq_of h10)) (by simp only [List.length_append, List.length_singleton]; omega)
    refine q_asgG (rd_tup (rd_cons (hrow H10 (Ex.refl H10) _ fun rp H11 hrp x11 h11 => rd_cons (dr_oneL (a := a) (n := n + 2001 + 1 + 1 + 1 + 1) (xs := [.str "\n", .str "\t", .str "\n\n"]) (ev_var rfl) (el_lst (ea_cons ev_c (ea_cons ev_c (ea_cons ev_c ea_nil))) (by decide)) (by simp) (by decide) (hw10.ex x11) (by omega) fun v H12 hv xa12 hw12 => rd_nil ⟨by show 2 ≤ sizeLine; decide, fun tq htq => ?_⟩))))
    have hrpa : rp ≠ a := well_ne hw10 hrp
    have hm : ∃ m : List Nat, v = .str (S m) ∧ m.length ≤ 2 ∧ ∃ c1 ∈ m, c1 < 32 := by
      simp only [List.mem_cons, List.not_mem_nil, or_false] at hv
      rcases hv with rfl | rfl | rfl
      · exact ⟨[10], congrArg V.str (by decide +kernel), by decide, 10, by decide, by decide⟩
      · exact ⟨[9], congrArg V.str (by decide +kernel), by decide, 9, by decide, by decide⟩
      · exact ⟨[10, 10], congrArg V.str (by decide +kernel), by decide, 10, by decide, by decide⟩
    obtain ⟨m, rfl, hm2, c1, hc1, hc32⟩ := hm
    refine ⟨tq, _, rfl, st_of upd_same, rfl, _, _, rfl, _, _, rfl, rfl, ?_⟩
    have h13 := (Ex.new (o := .tup [V.ref rp, V.str (S m)]) htq) _ _ (xa12 _ _ hrpa h11)
    have hw13 := hw12.ex (Ex.new (o := .tup [V.ref rp, V.str (S m)]) htq)
    have xa013 := ((xa010.trans (Exa.of x11)).trans xa12).trans (Exa.of (Ex.new (o := .tup [V.ref rp, V.str (S m)]) htq))
    generalize upd H12 tq (.tup [V.ref rp, V.str (S m)]) = H13 at h13 hw13 xa013 ⊢
    have T13 : Tabs T H13 := N4.Tabs.exa hT hw xa013
    have bad0 : isTextL (l.take k ++ [c0] ++ l.drop k) = false := not_text (List.mem_singleton.mpr rfl) (not_sign hcs)
    have len0 : (l.take k ++ [c0] ++ l.drop k).length ≤ 20000 := by
      simp only [List.length_append, List.length_singleton, List.length_take, List.length_drop]
      omega
    have lt0 : ∀ c ∈ l.take k ++ [c0] ++ l.drop k, c < 256 := fun c hc => by
      have hl256 : ∀ c ∈ l, c < 256 := fun c hc => by have := sign_lt (law_text c (hls c hc)); omega
      rcases List.mem_append.mp hc with h | h
      · rcases List.mem_append.mp h with h | h
        · exact hl256 c (List.mem_of_mem_take h)
        · rw [List.mem_singleton.mp h]
          exact hc256
      · exact hl256 c (List.mem_of_mem_drop h)
    refine rd_said (C := CT) (z := "text") T13 (fun H14 e14 E' hE Q' => ?_) (.inr ⟨rfl, rfl⟩) fun H14 e14 T14 => ⟨rfl, false, by rw [decide_eq_true rfl]; rfl, ?_⟩
    · refine ea_cons (ev_op (ev_op (ev_slS (l := l) (r := l.take k) (ev_var rfl) eo_none (eo_some (ev_var rfl)) (by omega) (cut_to l k)) (ev_var rfl) (rv_addS (a := l.take k) (b := m) (by rw [List.length_take]; omega))) (ev_slS (l := l) (r := l.drop k) (ev_var rfl) (eo_some (ev_var rfl)) eo_none (by omega) (cut_from l k)) (rv_addS (a := l.take k ++ m) (b := l.drop k) (by simp only [List.length_append, List.length_take, List.length_drop]; omega))) ea_nil H14 (Ex.refl H14) _ fun H15 e15 => ⟨_, rfl, .inl ⟨_, rfl, by simp only [List.length_append, List.length_take, List.length_drop]; omega, (not_text hc1 (not_sign (.inl hc32))).symm⟩, fun H16 e16 => hE H16 (e15.trans e16)⟩
    have h14 := e14 _ _ h13 lst_tbl
    refine rd_said (C := CT) (z := "text") T14 (fun H15 e15 E' hE Q' => ?_) (.inr ⟨rfl, rfl⟩) fun H15 e15 T15 => ⟨rfl, true, by rw [decide_eq_true rfl], ?_⟩
    · exact ea_cons (ev_var rfl) ea_nil H15 (Ex.refl H15) _ fun H16 e16 => .inr ⟨rp, _, rfl, .inl (e16 _ _ (e15 _ _ h14 lst_tbl)), len0, lt0, bad0, fun H17 e17 => hE H17 (e16.trans e17)⟩
    have h15 := e15 _ _ h14 lst_tbl
    refine rd_said (C := CT) (z := "text") T15 (fun H16 e16 E' hE Q' => ?_) (.inr ⟨rfl, rfl⟩) fun H16 e16 T16 => ⟨rfl, ?_⟩
    · exact eu_tupleV (ev_var rfl) (e16 _ _ h15 lst_tbl) H16 (Ex.refl H16) _ fun tp2 H17 htp2 e17 h17 => .inr ⟨tp2, _, rfl, .inr h17, len0, lt0, bad0, fun H18 e18 => hE H18 (e17.trans e18)⟩
    · rw [decide_eq_true rfl]
      exact q H16 ((ExaN.of xa013).trans (.ofN ((e14.trans e15).trans e16))) T16 ((((hw13.exN e14).exN e15).exN e16).le (by omega))
end
end N4

set_option maxHeartbeats 4000000
namespace N4
open PySem PySem.Spec PyProof.Rows L2 Evl LD LamX
open SX (S)
abbrev sLawRefusedRight : Stmt := topS 24
theorem scLawRefusedRight : FnScope ["well", "codes_so", "at", "odd", "row", "doings", "slash", "sign", "doing"] ["well"] (L2.defScope sLawRefusedRight) := ⟨rfl, rfl, rfl, by decide +kernel, rfl, by decide +kernel, by decide +kernel⟩

def dW (ws : List Str) : PyData := .list (ws.map .str)
theorem dWs_eqv : ∀ a b : List Str, PyData.eqvAll (a.map .str) (b.map .str) = decide (a = b)
  | [], [] => rfl
  | [], _ :: _ => rfl
  | _ :: _, [] => rfl
  | x :: a, y :: b => by
    have e : PyData.eqvAll ((x :: a).map .str) ((y :: b).map .str) = ((x == y) && PyData.eqvAll (a.map .str) (b.map .str)) := by simp only [List.map_cons, PyData.eqvAll, PyData.eqv]
    rw [e, dWs_eqv a b]
    by_cases h1 : x = y
    · subst h1
      by_cases h2 : a = b
      · subst h2; simp
      · rw [decide_eq_false h2, decide_eq_false (fun z => h2 (List.cons.inj z).2)]; simp
    · have h3 : (x == y) = false := beq_eq_false_iff_ne.mpr h1
      rw [h3, decide_eq_false (fun z => h1 (List.cons.inj z).1)]; rfl
theorem dW_eqv (a b : List Str) : PyData.eqv (dW a) (dW b) = decide (a = b) := by
  have e : PyData.eqv (dW a) (dW b) = PyData.eqvAll (a.map .str) (b.map .str) := by simp only [dW, PyData.eqv]
  rw [e, dWs_eqv]
theorem dWs_lay : ∀ {a : List Str}, (∀ x ∈ a, PyData.strOk x = true) → PyData.canLayAll0 (a.map .str) = true
  | [], _ => rfl
  | x :: a, h => by
    have e := dWs_lay (a := a) fun y hy => h y (List.mem_cons_of_mem _ hy)
    simp only [List.map_cons, PyData.canLayAll0, PyData.canLay0, e, h x List.mem_cons_self]
    rfl
theorem dWs_depth : ∀ a : List Str, PyData.depthAll (a.map .str) ≤ 1
  | [] => by simp [PyData.depthAll]
  | x :: a => by
    have e := dWs_depth a
    have e2 : PyData.depth (.str x) ≤ 1 := by simp [PyData.depth]
    simp only [List.map_cons, PyData.depthAll]
    omega
theorem dW_shaped {a : List Str} (h : ∀ x ∈ a, PyData.strOk x = true) : SeqAt.shaped (dW a) = true := shaped_of (by simp only [dW, PyData.canLay0]; exact dWs_lay h) (by
  have e := dWs_depth a
  simp only [dW, PyData.depth]
  omega)
section
variable {K : PySem.W.Frag} {σ : L2.St} {H H' : Hp} {te ta tb tl : TE} {t : TT} {v x : V} {D : Ends} {tz tu : TS} {Q : VK}
theorem dWs_dp : ∀ ws : List Str, DpAll K H (ws.map V.str) (ws.map .str)
  | [] => .nil
  | x :: ws => .cons (.str x) (dWs_dp ws)
end
section
variable {K : PySem.W.Frag} {σ : L2.St} {H H' : Hp} {te ta tb tl : TE} {t : TT} {v x : V} {D : Ends} {tz tu : TS} {Q : VK}
theorem dW_dp {p : Addr} {ws : List Str} (h : SqL K H p (ws.map V.str)) : Dp K H (.ref p) (dW ws) := .lst h (dWs_dp ws)
end
section
variable {K : PySem.W.Frag} {σ : L2.St} {H H' : Hp} {te ta tb tl : TE} {t : TT} {v x : V} {D : Ends} {tz tu : TS} {Q : VK}
theorem ev_neW {as bs : List Str} (h1 : EvL ta σ H (as.map V.str)) (h2 : EvL tb σ H (bs.map V.str)) (o1 : ∀ x ∈ as, PyData.strOk x = true) (o2 : ∀ x ∈ bs, PyData.strOk x = true) : Ev (tOp (rNeD K) ta tb) σ H (.bl (!decide (as = bs))) :=
  ev_opLL h1 h2 fun p q H1 hp hq _ => fun H2 e2 Q k => ⟨dW as, dW bs, dW_dp (sq_of (e2 _ _ hp)), dW_dp (sq_of (e2 _ _ hq)), dW_shaped o1, dW_shaped o2, by rw [dW_eqv]; exact k H2 (Ex.refl H2)⟩
end

def numOfV : V → Option Int
  | .int i => some i
  | _ => none
/-- a row whose things are told by numOfV, one of which is no byte -/
theorem rowOf_bad {K : PySem.W.Frag} {H : Hp} {p : Addr} {xs : List V} {x : V} (hp : RowAt K H p xs) (hl : xs.length ≤ 20000) (hn : ∀ v ∈ xs, NumOk K H v (numOfV v)) (hx : x ∈ xs) (hb : inO 0 255 (numOfV x) = false) :
    RowOf K H (.ref p) (some (xs.map numOfV)) ∧ robB (some (xs.map numOfV)) = false := by
  refine ⟨.inl ⟨p, xs, _, rfl, hp, hl, (List.length_map _).symm, fun i y z h1 h2 => ?_, rfl⟩, ?_⟩
  · rw [List.getElem?_map, h1] at h2
    cases h2
    exact hn y (List.mem_of_getElem? h1)
  · show (xs.map numOfV).all (inO 0 255) = false
    rw [List.all_map]
    refine Bool.eq_false_iff.mpr fun q => ?_
    have := List.all_eq_true.mp q x hx
    rw [show (inO 0 255 ∘ numOfV) x = false from hb] at this
    cases this
section
variable {K : PySem.W.Frag} {σ : L2.St} {H H' : Hp} {te ta tb tl : TE} {tt : TT} {g : TG} {v x : V} {D : Ends} {tz tu : TS} {Q : VK} {vs : List Nat}
theorem rd_lcS (h : tl σ H fun x H1 => tLc (iStr (tC x)) g tt te vs σ H1 Q) : tLc (iStr tl) g tt te vs σ H Q := h
theorem rd_for (h : tl σ H fun x H1 => tFor (iList K (tC x)) g tu D σ H1) : tFor (iList K tl) g tu D σ H := h
theorem el_catV {xs ys : List V} {p : Addr} (ha : EvL ta σ H xs) (hb : Ev tb σ H (.ref p)) (hp : H p = some (.lst ys)) (hl : xs.length + ys.length ≤ 100000) : EvL (tOp rCat ta tb) σ H (xs ++ ys) := fun H1 e Q q =>
  ha H1 e _ fun r H2 hr e2 h2 => hb H2 (e.trans e2) _ fun H3 e3 => ⟨r, p, xs, ys, rfl, rfl, e3 _ _ h2, ((e.trans e2).trans e3) _ _ hp, sz_of hl, fun n hn => q n _ (fresh_back (e2.trans e3) hn) ((e2.trans e3).trans (Ex.new hn)) upd_same⟩
theorem el_rep2 {xs : List V} (ha : EvL ta σ H xs) (hb : Ev tb σ H (.int 2)) (hl : xs.length ≤ 1000) : EvL (tOp rRep ta tb) σ H (xs ++ xs) := fun H1 e Q q =>
  ha H1 e _ fun r H2 hr e2 h2 => hb H2 (e.trans e2) _ fun H3 e3 => ⟨r, 2, xs, rfl, rfl, e3 _ _ h2, by decide, by decide, sz_of (by show xs.length * 2 ≤ 100000; omega), fun n hn => by
    have e4 : (List.replicate (2 : Int).toNat xs).flatten = xs ++ xs := by
      show xs ++ (xs ++ []) = xs ++ xs
      rw [List.append_nil]
    rw [e4]
    exact q n _ (fresh_back (e2.trans e3) hn) ((e2.trans e3).trans (Ex.new hn)) upd_same⟩
theorem ev_btL {l : List Nat} (h : EvL te σ H (ofL l)) (hl : l.length ≤ 20000) (ht : isTextL l = true) : Ev (tCall (spBT K) [] L2.E0 (tCons te tNil)) σ H (.str (S l)) := fun H1 e Q q =>
  h H1 e _ fun p H2 hp e2 h2 => ⟨p, l, rfl, .inl h2, hl, ht, fun H3 e3 => q H3 (e2.trans e3)⟩
theorem rd_dnew (h : ∀ d, H d = none → Q (.ref d) (upd H d (.dK []))) : tDNewK σ H Q := h
theorem rd_disp1 {i j : Int} (h : ∀ d, H d = none → Q (.ref d) (upd H d (.dK [(Sum.inl i, .int j)]))) : tDisp [(tC (.int i), tC (.int j))] σ H Q := fun p hp =>
  ⟨upd_same, [(Sum.inl i, .int j)], rfl, by show 1 ≤ 15; decide, by rw [upd_upd]; exact h p hp⟩
end
/-! ### the lambdas of a frame, kept -/
section
variable {P : Program} {w : World} {K : PySem.W.Frag} {mg : Str → Option Value} {base : Heap} {CB CT c Pt f : Addr} {T : List (Addr × Str)} {N : List Str} {qual : Str} {sc : Scope} {A : Around} {outer : List Env} {s : Shared} {H : Hp} {E : XK}
theorem pe_lamVD {params : Arguments} {body : Expr} {scope : Scope} {dvs : List V} {ps : List Str} {pos : Pos} (TB : TabB base mg c Pt) (hmT : (Pt, (qual ++ ".<locals>.") ++ "<lambda>") ∈ T) (hu : ∀ p ∈ T, p.1 = Pt → p.2 = (qual ++ ".<locals>.") ++ "<lambda>") (hd : Dfl (XD P w K mg base N qual sc f c A outer s H E) params dvs)
    (L : LamN N sc scope ps) : PE (XD P w K mg base N qual sc f c A outer s H E) (.Lambda params body scope pos) (fun σ H' Q => Tabs T H' ∧ ∀ f' H1, ExtN H' H1 → Tabs T H1 → Made H1 ((XD P w K mg base N qual sc f c A outer s H E).env.qual ++ "<lambda>") (XD P w K mg base N qual sc f c A outer s H E).env.cells params body scope dvs f' → Q (.ref f') H1) :=
  pe_lamV (X := XD P w K mg base N qual sc f c A outer s H E) TB rfl hmT hu hd L
theorem pe_takeD {p pos : Pos} {e : Expr} {te : TE} {s3 : Shared} {H3 : Hp} {scopeB : Scope} {ce : Env} {fp : List Addr} {pins0 : List (Addr × Obj)} {σ : L2.St} {j : Nat} (hg : Gl ((XD P w K mg base N qual sc f c A outer s H E).blk s3 H3 scopeB ce fp) "_law_said") (sd : SaidT K mg CB CT) (isi : mg "isinstance" = none)
    (hr : Room j (XD P w K mg base N qual sc f c A outer s H E).A) (hj : 6 ≤ j) (I3 : Inv (XD P w K mg base N qual sc f c A outer s H E) pins0 σ H3 s3) (hfp : ∀ b ∈ fp, FpOk (XD P w K mg base N qual sc f c A outer s H E) pins0 H3 b) (ha : PA ((XD P w K mg base N qual sc f c A outer s H E).blk s3 H3 scopeB ce fp) [e] (tCons te tNil))
    (hst : starEach [e] ((XD P w K mg base N qual sc f c A outer s H E).blk s3 H3 scopeB ce fp).env = (false, eval e ((XD P w K mg base N qual sc f c A outer s H E).blk s3 H3 scopeB ce fp).env) :: starEach [] ((XD P w K mg base N qual sc f c A outer s H E).blk s3 H3 scopeB ce fp).env := by rfl)
    (hpl : (backTo pos (starEach [] ((XD P w K mg base N qual sc f c A outer s H E).blk s3 H3 scopeB ce fp).env)).any (·.1) = false := by rfl) :
    PE ((XD P w K mg base N qual sc f c A outer s H E).blk s3 H3 scopeB ce fp) (.Call (.Name "_law_said" p) [e] [] pos) (fun σ' H' Q => tCons te tNil σ' H' fun vs H1 => ∃ (f' : Addr) (params : Arguments) (body : Expr) (scope : Scope) (dvs : List V) (t : XK → TE), vs = [.ref f'] ∧ LamK (XD P w K mg base N qual sc f c A outer s H E) 4 params body scope dvs t ∧
      Made H1 ((XD P w K mg base N qual sc f c A outer s H E).env.qual ++ "<lambda>") (XD P w K mg base N qual sc f c A outer s H E).env.cells params body scope dvs f' ∧ TTs CB CT (fun E' H'' Q' => t E' σ H'' Q') H1 Q) := by
  obtain ⟨g, fds, Fs, hms, hbs⟩ := sd.ex
  exact pe_takeB hg (taker_of (CB := CB) (CT := CT) Fs hms hbs sd.W2 isi) (hr.mono hj) I3 hfp ha (by decide) hst hpl
end
end N4

set_option maxHeartbeats 4000000
namespace N4
open PySem PySem.Spec PyProof.Rows L2 Evl LD LamX
open SX (S)
section
variable {P : Program} {w : World} {K : PySem.W.Frag} {mg : Str → Option Value} {base : Heap} {CB CT c Pt : Addr} {T : List (Addr × Str)}
theorem ok_lawRefused {f : Addr} {fd : FuncData} (F : FnP K "_law_refused_right" sLawRefusedRight f fd) (hc : fd.code = .ref c) (B : Bt mg) (TB : TabB base mg c Pt) (hmT : (Pt, (("_law_refused_right" : Str) ++ ".<locals>.") ++ "<lambda>") ∈ T) (hu : ∀ p ∈ T, p.1 = Pt → p.2 = (("_law_refused_right" : Str) ++ ".<locals>.") ++ "<lambda>")
    (sd : SaidT K mg CB CT) (c_law_draw : Cl P w K mg base L2.CX0 1 "_law_draw" ["well", "many"] spDraw) (c_law_one : Cl P w K mg base L2.CX0 2 "_law_one" ["well", "some"] spOne) (c_law_drawn : Cl P w K mg base L2.CX0 3 "_law_drawn" ["well", "most"] spDrawn) (c_law_signs : Cl P w K mg base L2.CX0 1 "_law_signs" [] spSigns)
    (c_text_bytes : Cl P w K mg base L2.CX0 3 "text_bytes" ["text"] spTB) (c_bytes_text : Cl P w K mg base L2.CX0 4 "bytes_text" ["data"] (spBT K))
    (x_text_bytes : Cl P w K mg base (L2.CX P w) 3 "text_bytes" ["text"] (spTBX K CT)) (x_bytes_text : Cl P w K mg base (L2.CX P w) 4 "bytes_text" ["data"] (spBTX K CB CT)) : FnOk P w K mg base L2.CX0 7 f fd ["well"] (spOther T) := by
  obtain ⟨f1, fd1, F1, m1, k1, b1⟩ := x_text_bytes.ex
  obtain ⟨f2, fd2, F2, m2, k2, b2⟩ := x_bytes_text.ex
  refine okC F hc scLawRefusedRight (fun vs H Q E h => ?_) (fun A outer s H vs Q E hr h => ?_)
  · obtain ⟨a, n, rfl, _⟩ := h
    rfl
  · obtain ⟨a, n, rfl, hw, hn, hT, q⟩ := h
    refine ⟨_, PSs.nox (pss_cons (ps_setLc (i := 1) (own := [("sign", 7)]) (g := gName 7) (tt := tYes) rfl scLawRefusedRight.nd rfl rfl (sw_true rfl rfl rfl (by decide +kernel)) (pi_str (pe_cl c_law_drawn hr (by decide) (by rfl) (pa_cons (pv 0) (pa_cons pe_int pa_nil)))) (blkOk_by (N := ["well", "codes_so", "at", "odd", "row", "doings", "slash", "sign", "doing"]) (sc := L2.defScope sLawRefusedRight) (by decide +kernel)) (fun _ _ _ _ _ => pg_name (i := 7) scLawRefusedRight.nd rfl (Or.inl rfl)) (fun _ _ _ _ _ => pts_nil) (fun _ _ _ _ _ => (pe_callB call_ord (by rfl) B.ord (by decide +kernel) (pa_cons (pv 7) pa_nil))))
      (pss_cons (ps_set (i := 2) scLawRefusedRight.nd rfl (.inl rfl) (pe_cl c_law_draw hr (by decide) (by rfl) (pa_cons (pv 0) (pa_cons (pe_op op_add (pe_callB call_len_seq (by rfl) B.len PySem.boot_len (pa_cons (pv 1) pa_nil)) pe_int) pa_nil))))
      (pss_cons (ps_for PassesOwn.never rfl (pi_list (pe_lst (pa_cons pe_int (pa_cons (pe_un un_neg pe_int) (pa_cons pe_bl (pa_cons pe_non (pa_cons pe_str (pa_cons (pe_tup (pa_cons pe_int pa_nil)) (pa_cons (pe_lst pa_nil) (pa_cons (pe_op op_pow pe_int pe_int) (pa_cons pe_bl pa_nil))))))))))) (pg_name (i := 3) scLawRefusedRight.nd rfl (.inr rfl)) (pss_cons (ps_set (i := 4) scLawRefusedRight.nd rfl (.inr rfl) (pe_op op_cat (pe_op op_cat (pe_slice sl_list (pv 1) po_none (po_some (pv 2))) (pe_lst (pa_cons (pv 3) pa_nil))) (pe_cl c_law_one hr (by decide) (by rfl) (pa_cons (pv 0) (pa_cons (pe_lst (pa_cons (pe_lst pa_nil) (pa_cons (pe_lst (pa_cons pe_int pa_nil)) (pa_cons (pe_lst (pa_cons pe_int (pa_cons pe_int pa_nil))) pa_nil)))) pa_nil)))))
      (pss_cons (ps_set (i := 5) scLawRefusedRight.nd rfl (.inl rfl) (pe_lst (pa_cons (pe_lamVD (T := T) TB hmT hu (.inl ⟨rfl, rfl⟩) (lamN_by (N := ["well", "codes_so", "at", "odd", "row", "doings", "slash", "sign", "doing"]) (sc := L2.defScope sLawRefusedRight) (ps := []) (by decide +kernel))) (pa_cons (pe_lamVD (T := T) TB hmT hu (.inr ⟨_, .int 0, rfl, rfl, pe_int⟩) (lamN_by (N := ["well", "codes_so", "at", "odd", "row", "doings", "slash", "sign", "doing"]) (sc := L2.defScope sLawRefusedRight) (ps := ["of"]) (by decide +kernel))) pa_nil))))
      (pss_one (ps_if (pt_cmpR (op_neD hr.units) (pe_lcK (own := [("doing", 8)]) (g := gName 8) rfl scLawRefusedRight.nd (pi_list (pv 5)) (blkOk_by (N := ["well", "codes_so", "at", "odd", "row", "doings", "slash", "sign", "doing"]) (sc := L2.defScope sLawRefusedRight) (by decide +kernel)) (fun _ _ _ _ _ => pg_name (i := 8) scLawRefusedRight.nd rfl (Or.inl rfl)) (fun pins σ s H C cl fp I hfp => pe_takeD (CB := CB) (CT := CT) (by rfl) sd B.isi hr (by decide) I hfp (pa_cons (pv 8) pa_nil))) (pe_op op_rep (pe_lst (pa_cons pe_str pa_nil)) pe_int) (nomark _)) (pss_one (ps_ret pe_bl)) pss_nil)))))
      (pss_cons (ps_for PassesOwn.never rfl (pi_list (pe_lst (pa_cons pe_non (pa_cons pe_int (pa_cons pe_str (pa_cons pe_dnewK (pa_cons (pe_disp (pps_cons pe_int pe_int pps_nil) rfl rfl (by decide) (by decide)) (pa_cons pe_bl (pa_cons (pe_un un_neg pe_int) pa_nil))))))))) (pg_name (i := 3) scLawRefusedRight.nd rfl (.inr rfl)) (pss_one (ps_if (pt_cmpR op_ne (pe_lamD (T := T) (CB := CB) (CT := CT) (by rfl) sd B.isi TB hmT hu hr (by decide) (.inl ⟨rfl, rfl⟩) ⟨⟨[], lamN_by (N := ["well", "codes_so", "at", "odd", "row", "doings", "slash", "sign", "doing"]) (sc := L2.defScope sLawRefusedRight) (by decide +kernel), bindL0⟩, fun A outer s H E f c' hr2 => (pe_callS F2 (hr2.mono (by decide)) (by rfl) m2 k2 b2 (fun σ => passAt (takes_of rfl rfl rfl rfl) σ) (pa_cons (pv 3) pa_nil))⟩) pe_str (nomark _)) (pss_one (ps_ret pe_bl)) pss_nil)))
      (pss_cons (ps_for PassesOwn.never rfl (pi_list (pe_lst (pa_cons pe_non (pa_cons pe_int (pa_cons (pe_lst (pa_cons pe_str pa_nil)) (pa_cons (pe_tup (pa_cons pe_str (pa_cons pe_str pa_nil))) (pa_cons pe_dnewK (pa_cons pe_bl (pa_cons (pe_lst (pa_cons pe_int (pa_cons pe_int pa_nil))) pa_nil))))))))) (pg_name (i := 3) scLawRefusedRight.nd rfl (.inr rfl)) (pss_one (ps_if (pt_cmpR op_ne (pe_lamD (T := T) (CB := CB) (CT := CT) (by rfl) sd B.isi TB hmT hu hr (by decide) (.inl ⟨rfl, rfl⟩) ⟨⟨[], lamN_by (N := ["well", "codes_so", "at", "odd", "row", "doings", "slash", "sign", "doing"]) (sc := L2.defScope sLawRefusedRight) (by decide +kernel), bindL0⟩, fun A outer s H E f c' hr2 => (pe_callS F1 (hr2.mono (by decide)) (by rfl) m1 k1 b1 (fun σ => passAt (takes_of rfl rfl rfl rfl) σ) (pa_cons (pv 3) pa_nil))⟩) pe_str (nomark _)) (pss_one (ps_ret pe_bl)) pss_nil)))
      (pss_cons (ps_set (i := 6) scLawRefusedRight.nd rfl (.inl rfl) (pe_cl c_bytes_text hr (by decide) (by rfl) (pa_cons (pe_lst (pa_cons pe_int pa_nil)) pa_nil)))
      (pss_cons (ps_if (PW.pt (pw_or (pt_cmpR op_ne (pe_callB call_len_str (by rfl) B.len PySem.boot_len (pa_cons (pv 6) pa_nil)) pe_int (nomark _)) (pw_or (pt_cmpR op_in_sign (pv 6) (pe_cl0 c_law_signs hr (by decide) (by rfl)) rfl) (pw_or1 (pt_cmpR (op_neD hr.units) (pe_cl c_text_bytes hr (by decide) (by rfl) (pa_cons (pe_op op_add_str pe_str (pv 6)) pa_nil)) (pe_lst (pa_cons pe_int (pa_cons pe_int pa_nil))) (nomark _)))))) (pss_one (ps_ret pe_bl)) pss_nil)
      (pss_one (ps_ret (pe_and (pe_cmpR op_eq (pe_cl c_bytes_text hr (by decide) (by rfl) (pa_cons (pe_tup pa_nil) pa_nil)) pe_str (nomark _)) (pe_one (pe_cmpR (op_eqD hr.units) (pe_cl c_text_bytes hr (by decide) (by rfl) (pa_cons pe_str pa_nil)) (pe_lst pa_nil) (nomark _))))))))))))), ?_⟩
    refine q_asgAny (rd_lcS (rd_call (rd_cons (rd_ev (ev_var rfl) fun H1 x1 => rd_cons (rd_ev ev_c fun H2 x2 => rd_nil ⟨a, 9, n, rfl, by decide, (hw.ex x1).ex x2, by omega, fun l H3 hls hll xa3 hw3 => ?_⟩)))))
    refine el_ords (l := l) (j := 7) ev_c (by omega) (fun _ => rfl) (fun _ => rfl) H3 (Ex.refl H3) _ fun p H4 hp x4 h4 => ?_
    have hpa : p ≠ a := well_ne hw3 hp
    refine q_asgAny (dr_draw (a := a) (m := (l.length : Int) + 1) (n := n + 2001) (ev_var rfl) (ev_op (ev_is (ev_lenLst (ev_var rfl) h4) (by rw [ofL_len])) ev_c rv_I0) (by omega) (by omega) (hw3.ex x4) (by omega) fun d H5 d0 d1 xa5 hw5 => ?_)
    obtain ⟨k, rfl⟩ : ∃ k : Nat, d = (k : Int) := ⟨d.toNat, by omega⟩
    have h5 := xa5 _ _ hpa h4
    have xa05 : Exa a H H5 := (((Exa.of (x1.trans x2)).trans xa3).trans (Exa.of x4)).trans xa5
    refine rd_seq (rd_for (rd_lst (rd_cons (rd_c (rd_cons (rd_ev (ev_un ev_c ru_neg) fun H6 x6 => rd_cons (rd_c (rd_cons (rd_c (rd_cons (rd_c (rd_cons (rd_tup (rd_cons (rd_c (rd_nil ⟨by show 1 ≤ sizeLine; decide, fun pt hpt => rd_cons (rd_lst (rd_nil ⟨by show 0 ≤ sizeLine; decide, fun pl hpl => rd_cons (rd_ev (ev_op ev_c ev_c (rv_I (by unfold CPow; decide))) fun H7 x7 => rd_cons (rd_c (rd_nil ⟨by show 9 ≤ sizeLine; decide, fun pL hpL => ?_⟩)))⟩))⟩))))))))))))))))
    have y6 : Ex H6 H7 := ((Ex.new hpt).trans (Ex.new hpl)).trans x7
    have hta : pt ≠ a := well_ne (hw5.ex x6) hpt
    have hla : pl ≠ a := well_ne ((hw5.ex x6).ex (Ex.new (o := .tup [V.int 65]) hpt)) hpl
    have hLa : pL ≠ a := well_ne ((hw5.ex x6).ex y6) hpL
    have sT := (Ex.new (o := .lst [V.int 256, V.int (-1), V.bl true, V.non, V.str "a", V.ref pt, V.ref pl, V.int ((10 : Int) ^ (30 : Int).toNat), V.bl false]) hpL) _ _ (x7 _ _ ((Ex.new (o := .lst []) hpl) _ _ upd_same))
    have sL := (Ex.new (o := .lst [V.int 256, V.int (-1), V.bl true, V.non, V.str "a", V.ref pt, V.ref pl, V.int ((10 : Int) ^ (30 : Int).toNat), V.bl false]) hpL) _ _ (x7 _ _ upd_same)
    have sS : (upd H7 pL (.lst [V.int 256, V.int (-1), V.bl true, V.non, V.str "a", V.ref pt, V.ref pl, V.int ((10 : Int) ^ (30 : Int).toNat), V.bl false])) pL = _ := upd_same
    have exS : Ex H5 (upd H7 pL (.lst [V.int 256, V.int (-1), V.bl true, V.non, V.str "a", V.ref pt, V.ref pl, V.int ((10 : Int) ^ (30 : Int).toNat), V.bl false])) := (x6.trans y6).trans (Ex.new hpL)
    have xaS := xa05.trans (Exa.of exS)
    have sC := exS _ _ h5
    have wS := hw5.ex exS
    have TS := N4.Tabs.exa hT hw xaS
    show tFor _ _ _ _ _ (upd H7 pL (.lst [V.int 256, V.int (-1), V.bl true, V.non, V.str "a", V.ref pt, V.ref pl, V.int ((10 : Int) ^ (30 : Int).toNat), V.bl false]))
    generalize upd H7 pL (.lst [V.int 256, V.int (-1), V.bl true, V.non, V.str "a", V.ref pt, V.ref pl, V.int ((10 : Int) ^ (30 : Int).toNat), V.bl false]) = Hs at sT sL sS exS xaS sC wS TS ⊢
    refine ⟨pL, rfl, ⟨_, sq_of sS⟩, for_list (xs := [V.int 256, V.int (-1), V.bl true, V.non, V.str "a", V.ref pt, V.ref pl, V.int ((10 : Int) ^ (30 : Int).toNat), V.bl false]) (fun i σ' H' => ∃ v3 v4 v5, σ' = [some (.ref a), some (.ref p), some (.int (k : Int)), v3, v4, v5, none, none, none] ∧ ExaN a Hs H' ∧ Tabs T H' ∧ WellAt H' a (n + 2002 + i)) ⟨none, none, none, rfl, .of (Exa.refl a Hs), TS, wS.le (by omega)⟩ (fun i σ' H' _ hP => ?_) (fun i x σ' H' hi hP => ?_) (fun σ' H' hP => ?_)⟩
    · obtain ⟨_, _, _, _, xN, _, _⟩ := hP
      exact sq_of (xN _ _ hLa sS lst_tbl)
    · obtain ⟨v3, v4, v5, rfl, xN, T1, w1⟩ := hP
      have hi9 : i < 9 := (List.getElem?_eq_some_iff.mp hi).1
      have odd : inO 0 255 (numOfV x) = false ∧ ∀ H'', ExaN a Hs H'' → NumOk K H'' x (numOfV x) := by
        have hm := List.mem_of_getElem? hi
        simp only [List.mem_cons, List.not_mem_nil, or_false] at hm
        rcases hm with rfl | rfl | rfl | rfl | rfl | rfl | rfl | rfl | rfl
        · exact ⟨by decide, fun _ _ => .int _⟩
        · exact ⟨by decide, fun _ _ => .int _⟩
        · exact ⟨rfl, fun _ _ => .bl _⟩
        · exact ⟨rfl, fun _ _ => .no ⟨_, .base .non, by decide +kernel⟩⟩
        · exact ⟨rfl, fun _ _ => .no ⟨_, .base (.str _), by decide +kernel⟩⟩
        · exact ⟨rfl, fun H'' xx => .no ⟨_, .base (.tup (xx _ _ hta sT (fun ps z => by cases z))), by decide +kernel⟩⟩
        · exact ⟨rfl, fun H'' xx => .no ⟨_, .base (.lst (xx _ _ hla sL lst_tbl)), by decide +kernel⟩⟩
        · exact ⟨by decide +kernel, fun _ _ => .int _⟩
        · exact ⟨rfl, fun _ _ => .bl _⟩
      have len1 := cutV_length (ofL l) none (some (k : Int))
      have ll : (ofL l).length ≤ 9 := by rw [ofL_len]; exact hll
      have hCa : p ≠ a := hpa
      have cC := xN _ _ hCa sC lst_tbl
      have hfirst : EvL (tOp rCat (tSl (rSlL K) (tVar 1) tNoPart (tPart (tVar 2))) (tLst (tCons (tVar 3) tNil))) [some (.ref a), some (.ref p), some (.int (k : Int)), some x, v4, v5, none, none, none] H' (cutV (ofL l) none (some (k : Int)) ++ [x]) :=
        el_cat (el_sl (ev_var rfl) eo_none (eo_some (ev_var rfl)) (sq_of cC)) (el_lst (ea_cons (ev_var rfl) ea_nil) (by show 1 ≤ 100000; decide)) (by simp only [List.length_singleton]; omega)
      refine q_asgAny (rd_op (hfirst H' (Ex.refl H') _ fun r1 H1' hr1 x1' h1' => dr_oneO (a := a) (n := n + 2002 + i) (os := [.lst [], .lst [.int 37], .lst [.int 200, .int 300]]) (ev_var rfl) (eo_L (fun H => el_lst ea_nil (by decide)) (eo_L (fun H => el_lst (ea_cons ev_c ea_nil) (by decide)) (eo_L (fun H => el_lst (ea_cons ev_c (ea_cons ev_c ea_nil)) (by decide)) eo_nil))) (by simp) (by decide) (w1.ex x1') (by omega) fun qo o H2' ho xa2' w2' hqo hqa => ?_))
      have hr1a : r1 ≠ a := well_ne w1 hr1
      have hzs : ∃ zs : List V, o = .lst zs ∧ zs.length ≤ 2 ∧ ∀ v ∈ zs, ∃ j : Int, v = .int j := by
        simp only [List.mem_cons, List.not_mem_nil, or_false] at ho
        rcases ho with rfl | rfl | rfl
        · exact ⟨[], rfl, by decide, fun v hv => by cases hv⟩
        · exact ⟨_, rfl, by show 1 ≤ 2; decide, fun v hv => ⟨37, List.mem_singleton.mp hv⟩⟩
        · refine ⟨_, rfl, by show 2 ≤ 2; decide, fun v hv => ?_⟩
          simp only [List.mem_cons, List.not_mem_nil, or_false] at hv
          rcases hv with rfl | rfl
          · exact ⟨200, rfl⟩
          · exact ⟨300, rfl⟩
      obtain ⟨zs, rfl, hz2, hzi⟩ := hzs
      refine ⟨r1, qo, _, zs, rfl, rfl, xa2' _ _ hr1a h1', hqo, sz_of (by simp only [List.length_append, List.length_singleton]; omega), fun rp hrp => ?_⟩
      have hrpa : rp ≠ a := well_ne w2' hrp
      have h3r : (upd H2' rp (.lst (cutV (ofL l) none (some (k : Int)) ++ [x] ++ zs))) rp = _ := upd_same
      have xa3' : Exa a H' (upd H2' rp (.lst (cutV (ofL l) none (some (k : Int)) ++ [x] ++ zs))) := ((Exa.of x1').trans xa2').trans (Exa.of (Ex.new hrp))
      have w3' := w2'.ex (Ex.new (o := .lst (cutV (ofL l) none (some (k : Int)) ++ [x] ++ zs)) hrp)
      have T3 := N4.Tabs.exa T1 w1 xa3'
      have hnum : ∀ H'', ExaN a Hs H'' → ∀ v ∈ cutV (ofL l) none (some (k : Int)) ++ [x] ++ zs, NumOk K H'' v (numOfV v) := fun H'' xx v hv => by
        rcases List.mem_append.mp hv with h | h
        · rcases List.mem_append.mp h with h | h
          · rw [cutV_to, ofL_take] at h
            unfold ofL at h
            obtain ⟨c0, _, rfl⟩ := List.mem_map.mp h
            exact .int _
          · rw [List.mem_singleton.mp h]
            exact odd.2 H'' xx
        · obtain ⟨j, rfl⟩ := hzi v h
          exact .int _
      have hxm : x ∈ cutV (ofL l) none (some (k : Int)) ++ [x] ++ zs := List.mem_append_left _ (List.mem_append_right _ (List.mem_singleton.mpr rfl))
      have hlr : (cutV (ofL l) none (some (k : Int)) ++ [x] ++ zs).length ≤ 1000 := by simp only [List.length_append, List.length_singleton]; omega
      generalize upd H2' rp (.lst (cutV (ofL l) none (some (k : Int)) ++ [x] ++ zs)) = H3' at h3r xa3' w3' T3 ⊢
      generalize cutV (ofL l) none (some (k : Int)) ++ [x] ++ zs = xsR at h3r hnum hxm hlr
      have xN3 : ExaN a Hs H3' := xN.trans (.of xa3')
      refine q_asgAny (rd_lst (rd_cons ⟨T3, fun g1 H4' e4 T4 M1 => rd_cons ⟨T4, fun g2 H5' e5 T5 M2 => rd_nil ⟨by show 2 ≤ sizeLine; decide, fun dl hdl => ?_⟩⟩⟩))
      have e6 : ExtN H5' (upd H5' dl (.lst [V.ref g1, V.ref g2])) := .of (Ex.new hdl)
      have M1' := (M1.ext e5).ext e6
      have M2' := M2.ext e6
      have e36 := (e4.trans e5).trans e6
      have h6r := e36 _ _ h3r lst_tbl
      have h6d : (upd H5' dl (.lst [V.ref g1, V.ref g2])) dl = _ := upd_same
      have T6 := T5.ext (Ex.new (o := .lst [V.ref g1, V.ref g2]) hdl)
      have xN6 := xN3.trans (.ofN e36)
      have w6 := w3'.exN e36
      generalize upd H5' dl (.lst [V.ref g1, V.ref g2]) = H6' at e6 M1' M2' e36 h6r h6d T6 xN6 w6 ⊢
      refine s_when (b := false) (et_test (ev_is (ev_neW (as := ["bytes", "bytes"]) (bs := ["bytes", "bytes"]) ?_ (el_rep2 (el_lst (ea_cons ev_c ea_nil) (by decide)) ev_c (by decide)) (by decide +kernel) (by decide +kernel)) (by rw [decide_eq_true rfl]; rfl))) (fun e => by cases e) fun _ H7' x7' => ?_
      · intro H7' x7' Q' q'
        refine el_lcL (xs := [V.ref g1, V.ref g2]) (fun _ => true) (fun _ => V.str "bytes") (ev_var rfl) (sq_of (x7' _ _ h6d)) (by show 2 ≤ 40000; decide) (fun _ => rfl) (fun i y H2 _ hy => fun H3 e3 Q q => q H3 (Ex.refl H3)) (fun i y H8 x8 hy _ => ?_) H7' (Ex.refl H7') Q' q'
        intro H9 x9 Q2 q2
        have x69 := (x7'.trans x8).trans x9
        have h9r := x69 _ _ h6r
        have hn9 := hnum H9 (xN6.trans (.of (Exa.of x69)))
        have hbad := rowOf_bad (K := K) (H := H9) (p := rp) (.inl h9r) (by omega) hn9 hxm odd.1
        match i, hy with
        | 0, hy =>
          cases hy
          refine ⟨.ref g1, rfl, g1, _, _, _, _, (fun E => tCallS (spBTX K CB CT) (WE fun cls d _ H => E cls d H) (tCons (tVar 4) tNil)), rfl, ?lk, M1'.ext (.of ((x7'.trans x8).trans x9)), ?_⟩
          · exact ⟨⟨[], lamN_by (N := ["well", "codes_so", "at", "odd", "row", "doings", "slash", "sign", "doing"]) (sc := L2.defScope sLawRefusedRight) (by decide +kernel), bindL0⟩, fun A outer s H E f c' hr2 => pe_callS F2 (hr2.mono (by decide)) (by rfl) m2 k2 b2 (fun σ => passAt (takes_of rfl rfl rfl rfl) σ) (pa_cons (pv 4) pa_nil)⟩
          · exact ⟨.ref rp, rfl, .inl ⟨.ref rp, _, rfl, hbad.1, hbad.2, fun H10 x10 => ⟨rfl, .inl ⟨rfl, fun H11 x11 => q2 H11 (x10.trans x11)⟩⟩⟩⟩
        | 1, hy =>
          cases hy
          have hn10 : ∀ H10, Ex H9 H10 → ∀ v ∈ [V.int 37] ++ xsR, NumOk K H10 v (numOfV v) := fun H10 x10 v hv => by
            rcases List.mem_append.mp hv with h | h
            · rw [List.mem_singleton.mp h]
              exact .int _
            · exact (hn9 v h).ex x10
          refine ⟨.ref g2, rfl, g2, _, _, _, _, (fun E => tCallS (spBTX K CB CT) (WE fun cls d _ H => E cls d H) (tCons (tOp rCat (tLst (tCons (tC (.int 37)) tNil)) (tVar 4)) tNil)), rfl, ?lk2, M2'.ext (.of ((x7'.trans x8).trans x9)), ?_⟩
          · exact ⟨⟨["of"], lamN_by (N := ["well", "codes_so", "at", "odd", "row", "doings", "slash", "sign", "doing"]) (sc := L2.defScope sLawRefusedRight) (by decide +kernel), (.inr ⟨.int 0, "of", rfl, rfl, fun _ _ _ _ _ _ _ => ⟨_, rfl, rfl⟩⟩)⟩, fun A outer s H E f c' hr2 => pe_callS F2 (hr2.mono (by decide)) (by rfl) m2 k2 b2 (fun σ => passAt (takes_of rfl rfl rfl rfl) σ) (pa_cons (pe_op op_cat (pe_lst (pa_cons pe_int pa_nil)) (pv 4)) pa_nil)⟩
          · refine el_catV (xs := [V.int 37]) (ys := xsR) (el_lst (ea_cons ev_c ea_nil) (by decide)) (ev_var rfl) h9r (by show 1 + xsR.length ≤ 100000; omega) H9 (Ex.refl H9) _ fun cp H10 hcp x10 h10 => ?_
            have hbad2 := rowOf_bad (K := K) (H := H10) (p := cp) (.inl h10) (by simp only [List.length_append, List.length_singleton]; omega) (hn10 H10 x10) (List.mem_append_right _ hxm) odd.1
            exact .inl ⟨.ref cp, _, rfl, hbad2.1, hbad2.2, fun H11 x11 => ⟨rfl, .inl ⟨rfl, fun H12 x12 => q2 H12 ((x10.trans x11).trans x12)⟩⟩⟩
        | i + 2, hy => cases hy
      · exact ⟨_, _, _, rfl, xN6.trans (.of (Exa.of x7')), T6.ext x7', (w6.ex x7').le (by omega)⟩
    obtain ⟨v3, v4, v5, rfl, xN1, T1, w1⟩ := hP
    refine rd_seq (rd_for (rd_lst (rd_cons (rd_c (rd_cons (rd_c (rd_cons (rd_c (rd_cons (rd_dnew fun d1 hd1 => rd_cons (rd_disp1 fun d2 hd2 => rd_cons (rd_c (rd_cons (rd_ev (ev_un ev_c ru_neg) fun H8 x8 => rd_nil ⟨by show 7 ≤ sizeLine; decide, fun pM hpM => ?_⟩))))))))))))))
    have exA : Ex H' (upd H8 pM (.lst [V.non, V.int 5, V.str "AB", V.ref d1, V.ref d2, V.bl true, V.int (-7)])) := (((Ex.new hd1).trans (Ex.new hd2)).trans x8).trans (Ex.new hpM)
    have d1a : d1 ≠ a := well_ne w1 hd1
    have d2a : d2 ≠ a := well_ne (w1.ex (Ex.new (o := .dK []) hd1)) hd2
    have pMa : pM ≠ a := well_ne (w1.ex (((Ex.new (o := .dK []) hd1).trans (Ex.new (o := .dK [(Sum.inl 65, .int 66)]) hd2)).trans x8)) hpM
    have s1 : (upd H8 pM (.lst [V.non, V.int 5, V.str "AB", V.ref d1, V.ref d2, V.bl true, V.int (-7)])) d1 = _ := (Ex.new hpM) _ _ (x8 _ _ ((Ex.new hd2) _ _ upd_same))
    have s2 : (upd H8 pM (.lst [V.non, V.int 5, V.str "AB", V.ref d1, V.ref d2, V.bl true, V.int (-7)])) d2 = _ := (Ex.new hpM) _ _ (x8 _ _ upd_same)
    have s3 : (upd H8 pM (.lst [V.non, V.int 5, V.str "AB", V.ref d1, V.ref d2, V.bl true, V.int (-7)])) pM = _ := upd_same
    have w2 := w1.ex exA
    have T2 := T1.ext exA
    have xN2 := xN1.trans (.of (Exa.of exA))
    show tFor _ _ _ _ _ (upd H8 pM (.lst [V.non, V.int 5, V.str "AB", V.ref d1, V.ref d2, V.bl true, V.int (-7)]))
    generalize upd H8 pM (.lst [V.non, V.int 5, V.str "AB", V.ref d1, V.ref d2, V.bl true, V.int (-7)]) = Ht at s1 s2 s3 exA w2 T2 xN2 ⊢
    refine ⟨pM, rfl, ⟨_, sq_of s3⟩, for_list (xs := [V.non, V.int 5, V.str "AB", V.ref d1, V.ref d2, V.bl true, V.int (-7)]) (fun i σ' H' => ∃ v3 v4 v5, σ' = [some (.ref a), some (.ref p), some (.int (k : Int)), v3, v4, v5, none, none, none] ∧ ExaN a Ht H' ∧ Tabs T H' ∧ WellAt H' a (n + 2002 + 9)) ⟨v3, v4, v5, rfl, .of (Exa.refl a Ht), T2, w2⟩ (fun i σ' H' _ hP => ?_) (fun i x σ' H' hi hP => ?_) (fun σ' H' hP => ?_)⟩
    · obtain ⟨_, _, _, _, xN, _, _⟩ := hP
      exact sq_of (xN _ _ pMa s3 lst_tbl)
    · obtain ⟨v3, v4, v5, rfl, xN, T1, w1⟩ := hP
      have odd : ∀ H'', ExaN a Ht H'' → NoRow K H'' x := by
        have hm := List.mem_of_getElem? hi
        simp only [List.mem_cons, List.not_mem_nil, or_false] at hm
        rcases hm with rfl | rfl | rfl | rfl | rfl | rfl | rfl
        · exact fun _ _ => ⟨_, .base .non, by decide +kernel⟩
        · exact fun _ _ => ⟨_, .base (.int _), by decide +kernel⟩
        · exact fun _ _ => ⟨_, .base (.str _), by decide +kernel⟩
        · exact fun H'' xx => ⟨_, .base (.dK (xx _ _ d1a s1 (fun ps z => by cases z))), by decide +kernel⟩
        · exact fun H'' xx => ⟨_, .base (.dK (xx _ _ d2a s2 (fun ps z => by cases z))), by decide +kernel⟩
        · exact fun _ _ => ⟨_, .base (.bl _), by decide +kernel⟩
        · exact fun _ _ => ⟨_, .base (.int _), by decide +kernel⟩
      refine rd_said (C := CB) (z := "bytes") T1 (fun H14 e14 E' hE Q' => ?_) (.inl ⟨rfl, rfl⟩) fun H14 e14 T14 => ⟨rfl, false, by rw [decide_eq_true rfl]; rfl, ?_⟩
      · exact ea_cons (ev_var rfl) ea_nil H14 (Ex.refl H14) _ fun H15 e15 => .inl ⟨x, none, rfl, .inr ⟨odd H15 ((xN.trans (.ofN e14)).trans (.of (Exa.of e15))), rfl⟩, rfl, fun H16 e16 => hE H16 (e15.trans e16)⟩
      · exact ⟨_, _, _, rfl, xN.trans (.ofN e14), T14, w1.exN e14⟩
    obtain ⟨v3, v4, v5, rfl, xN3, T3, w3⟩ := hP
    refine rd_seq (rd_for (rd_lst (rd_cons (rd_c (rd_cons (rd_c (rd_cons (rd_lst (rd_cons (rd_c (rd_nil ⟨by show 1 ≤ sizeLine; decide, fun q1 hq1 => rd_cons (rd_tup (rd_cons (rd_c (rd_cons (rd_c (rd_nil ⟨by show 2 ≤ sizeLine; decide, fun q2 hq2 => rd_cons (rd_dnew fun q3 hq3 => rd_cons (rd_c (rd_cons (rd_lst (rd_cons (rd_c (rd_cons (rd_c (rd_nil ⟨by show 2 ≤ sizeLine; decide, fun q4 hq4 => rd_nil ⟨by show 7 ≤ sizeLine; decide, fun pK hpK => ?_⟩⟩)))))))))⟩))))))⟩)))))))))))
    have x1e := Ex.new (o := .lst [V.str "a"]) hq1
    have x2e := Ex.new (o := .tup [V.str "a", V.str "b"]) hq2
    have x3e := Ex.new (o := .dK []) hq3
    have x4e := Ex.new (o := .lst [V.int 65, V.int 66]) hq4
    have x5e := Ex.new (o := .lst [V.non, V.int 5, V.ref q1, V.ref q2, V.ref q3, V.bl true, V.ref q4]) hpK
    have q1a : q1 ≠ a := well_ne w3 hq1
    have q2a : q2 ≠ a := well_ne (w3.ex x1e) hq2
    have q3a : q3 ≠ a := well_ne ((w3.ex x1e).ex x2e) hq3
    have q4a : q4 ≠ a := well_ne (((w3.ex x1e).ex x2e).ex x3e) hq4
    have pKa : pK ≠ a := well_ne ((((w3.ex x1e).ex x2e).ex x3e).ex x4e) hpK
    have s4 := x5e _ _ (x4e _ _ (x3e _ _ (x2e _ _ upd_same)))
    have s5 := x5e _ _ (x4e _ _ (x3e _ _ upd_same))
    have s6 := x5e _ _ (x4e _ _ upd_same)
    have s7 := x5e _ _ upd_same
    have s8 : (upd (upd (upd (upd (upd H' q1 (.lst [V.str "a"])) q2 (.tup [V.str "a", V.str "b"])) q3 (.dK [])) q4 (.lst [V.int 65, V.int 66])) pK (.lst [V.non, V.int 5, V.ref q1, V.ref q2, V.ref q3, V.bl true, V.ref q4])) pK = some (.lst [V.non, V.int 5, V.ref q1, V.ref q2, V.ref q3, V.bl true, V.ref q4]) := upd_same
    have exB := (((x1e.trans x2e).trans x3e).trans x4e).trans x5e
    have w4 := w3.ex exB
    have T4 := T3.ext exB
    have xN4 := xN3.trans (.of (Exa.of exB))
    have xT4 : ExaN a Hs _ := (xN1.trans (.of (Exa.of exA))).trans xN4
    show tFor _ _ _ _ _ (upd (upd (upd (upd (upd H' q1 (.lst [V.str "a"])) q2 (.tup [V.str "a", V.str "b"])) q3 (.dK [])) q4 (.lst [V.int 65, V.int 66])) pK (.lst [V.non, V.int 5, V.ref q1, V.ref q2, V.ref q3, V.bl true, V.ref q4]))
    generalize upd (upd (upd (upd (upd H' q1 (.lst [V.str "a"])) q2 (.tup [V.str "a", V.str "b"])) q3 (.dK [])) q4 (.lst [V.int 65, V.int 66])) pK (.lst [V.non, V.int 5, V.ref q1, V.ref q2, V.ref q3, V.bl true, V.ref q4]) = Hu at s4 s5 s6 s7 s8 exB w4 T4 xN4 xT4 ⊢
    clear x1e x2e x3e x4e x5e hq1 hq2 hq3 hq4 hpK
    refine ⟨pK, rfl, ⟨_, sq_of s8⟩, for_list (xs := [V.non, V.int 5, V.ref q1, V.ref q2, V.ref q3, V.bl true, V.ref q4]) (fun i σ' H' => ∃ v3 v4 v5, σ' = [some (.ref a), some (.ref p), some (.int (k : Int)), v3, v4, v5, none, none, none] ∧ ExaN a Hu H' ∧ Tabs T H' ∧ WellAt H' a (n + 2002 + 9)) ⟨v3, v4, v5, rfl, .of (Exa.refl a Hu), T4, w4⟩ (fun i σ' H' _ hP => ?_) (fun i x σ' H' hi hP => ?_) (fun σ' H' hP => ?_)⟩
    · obtain ⟨_, _, _, _, xN, _, _⟩ := hP
      exact sq_of (xN _ _ pKa s8 lst_tbl)
    · obtain ⟨v3, v4, v5, rfl, xN, T1, w1⟩ := hP
      have odd : ∀ H'', ExaN a Hu H'' → NoStr K H'' x := by
        have hm := List.mem_of_getElem? hi
        simp only [List.mem_cons, List.not_mem_nil, or_false] at hm
        rcases hm with rfl | rfl | rfl | rfl | rfl | rfl | rfl
        · exact fun _ _ => ⟨_, .base .non, by decide +kernel⟩
        · exact fun _ _ => ⟨_, .base (.int _), by decide +kernel⟩
        · exact fun H'' xx => ⟨_, .base (.lst (xx _ _ q1a s4 lst_tbl)), by decide +kernel⟩
        · exact fun H'' xx => ⟨_, .base (.tup (xx _ _ q2a s5 (fun ps z => by cases z))), by decide +kernel⟩
        · exact fun H'' xx => ⟨_, .base (.dK (xx _ _ q3a s6 (fun ps z => by cases z))), by decide +kernel⟩
        · exact fun _ _ => ⟨_, .base (.bl _), by decide +kernel⟩
        · exact fun H'' xx => ⟨_, .base (.lst (xx _ _ q4a s7 lst_tbl)), by decide +kernel⟩
      refine rd_said (C := CT) (z := "text") T1 (fun H14 e14 E' hE Q' => ?_) (.inr ⟨rfl, rfl⟩) fun H14 e14 T14 => ⟨rfl, false, by rw [decide_eq_true rfl]; rfl, ?_⟩
      · exact ea_cons (ev_var rfl) ea_nil H14 (Ex.refl H14) _ fun H15 e15 => ⟨x, rfl, .inr ⟨odd H15 ((xN.trans (.ofN e14)).trans (.of (Exa.of e15))), rfl⟩, fun H16 e16 => hE H16 (e15.trans e16)⟩
      · exact ⟨_, _, _, rfl, xN.trans (.ofN e14), T14, w1.exN e14⟩
    obtain ⟨v3, v4, v5, rfl, xN5, T5, w5⟩ := hP
    refine q_asg (v := .str (S [92])) (ev_btL (l := [92]) (el_lst (ea_cons ev_c ea_nil) (by decide)) (by decide) (by decide +kernel)) fun H9 x9 => ?_
    refine q_when (b := false) (et_is (et_or (a := false) (b := false) (et_test (ev_is (ev_op (ev_lenS (l := [92]) (ev_var rfl) (by decide)) ev_c (rv_ne rfl)) (by rw [decide_eq_true (by decide)]; rfl))) fun _ => et_is (et_or (a := false) (b := false) (et_test (ev_is (ev_op (ev_var rfl) (ev_call (vs := []) ea_nil fun H1 e Q q E => ⟨rfl, q⟩) (rv_inS (c := 92) (l := lawL) rfl)) (congrArg V.bl (by decide +kernel)))) fun _ =>
      et_test (ev_opLL (el_tb (l := [97, 92]) (ev_is (ev_op (ev_is ev_c (congrArg V.str (show _ = S [97] by decide +kernel))) (ev_var rfl) (rv_addS (a := [97]) (b := [92]) (by decide))) rfl) (by decide) (by decide +kernel)) (el_lst (ea_cons ev_c (ea_cons ev_c ea_nil)) (by show 2 ≤ 100000; decide)) fun p q H1 hp hq _ => rv_neSame (l := [97, 92]) hp hq)) rfl) rfl) (fun e => by cases e) fun _ H10 x10 => ?_
    refine s_ret (ev_is (ev_andV (a := true) (b := true) (ev_is (ev_op (ev_btU (l := []) (eu_tup ea_nil (by decide)) (by decide) (by decide +kernel)) ev_c (rv_eq rfl)) (congrArg V.bl (decide_eq_true (congrArg V.str (by decide +kernel))))) fun _ => ev_opLL (el_tb (l := []) (ev_is ev_c (congrArg V.str (show _ = S [] by decide +kernel))) (by decide) (by decide +kernel)) (el_lst ea_nil (by decide)) fun p q H1 hp hq _ => rv_eqSame (l := []) hp hq) rfl) fun H11 x11 => ?_
    exact q H11 ((ExaN.of xaS).trans ((xT4.trans xN5).trans (.of (Exa.of ((x9.trans x10).trans x11))))) (T5.ext ((x9.trans x10).trans x11)) ((w5.ex ((x9.trans x10).trans x11)).le (by omega))
end
end N4

set_option maxHeartbeats 4000000
namespace N4
open PySem PySem.Spec PyProof.Rows L2 Evl LD LamX
open SX (S)
abbrev sLaw : Stmt := topS 25
theorem scLaw : FnScope ["script", "cell", "well", "lap"] ["script"] (L2.defScope sLaw) := ⟨rfl, rfl, rfl, by decide +kernel, rfl, by decide +kernel, by decide +kernel⟩

theorem exN_of {a : Addr} {H H' : Hp} (h : H a = none) (e : ExaN a H H') : ExtN H H' := fun b o hb ht => e b o (ne_of_none hb h) hb ht
section
variable {K : PySem.W.Frag} {σ : L2.St} {H H' : Hp} {te : TE} {t u : TT} {D : Ends} {tu tw tz : TS} {Q : Bool → Hp → Prop}
theorem rd_orNB (h : te σ H fun x H1 => ∃ b, x = .bl b ∧ if (!b) = true then Q true H1 else u σ H1 Q) : tOr (tNot (tB te)) u σ H Q := h
theorem rd_NB (h : te σ H fun x H1 => ∃ b, x = .bl b ∧ Q (!b) H1) : tNot (tB te) σ H Q := h
end
def spLaw (K : PySem.W.Frag) (T : List (Addr × Str)) : Sp := fun vs H Q _ => ∃ (a : Addr) (ns : List Int), vs = [.ref a] ∧ SqL K H a (ns.map V.int) ∧ ns.length ≤ 63 ∧ Tabs T H ∧ ∀ H', Q (.bl true) H'
section
variable {P : Program} {w : World} {K : PySem.W.Frag} {mg : Str → Option Value} {base : Heap} {T : List (Addr × Str)}
theorem ok_law {f : Addr} {fd : FuncData} (F : FnP K "law" sLaw f fd) (B : Bt mg) (c_law_well : Cl P w K mg base L2.CX0 1 "_law_well" ["cell"] spWell) (c_law_told_right : Cl P w K mg base L2.CX0 5 "_law_told_right" ["well"] spToldR)
    (c_law_other_signs_right : Cl P w K mg base L2.CX0 7 "_law_other_signs_right" ["well"] (spOther T)) (c_law_refused_right : Cl P w K mg base L2.CX0 7 "_law_refused_right" ["well"] (spOther T)) : FnOk P w K mg base L2.CX0 8 f fd ["script"] (spLaw K T) := by
  refine F.ok scLaw (fun vs H Q E h => ?_) (fun cdv A outer s H vs Q E hr h => ?_)
  · obtain ⟨a, ns, rfl, _⟩ := h
    rfl
  · obtain ⟨sc, ns, rfl, hS, hns, hT, q⟩ := h
    refine ⟨_, PSs.nox (pss_cons (ps_for PassesOwn.never rfl (pi_list (pe_op op_cat (pe_slice sl_list (pv 0) po_none (po_some pe_int)) (pe_lst (pa_cons pe_int pa_nil)))) (pg_name (i := 1) scLaw.nd rfl (.inl rfl)) (pss_cons (ps_set (i := 2) scLaw.nd rfl (.inl rfl) (pe_cl c_law_well hr (by decide) (by rfl) (pa_cons (pv 1) pa_nil)))
      (pss_one (ps_for PassesOwn.never rfl (pi_range1 (by rfl) B.range (pa_cons pe_int pa_nil)) (pg_name (i := 3) scLaw.nd rfl (.inl rfl)) (pss_one (ps_if (PW.pt (pw_or (pt_not (pt_val (pe_cl c_law_told_right hr (by decide) (by rfl) (pa_cons (pv 2) pa_nil)))) (pw_or (pt_not (pt_val (pe_cl c_law_other_signs_right hr (by decide) (by rfl) (pa_cons (pv 2) pa_nil)))) (pw_or1 (pt_not (pt_val (pe_cl c_law_refused_right hr (by decide) (by rfl) (pa_cons (pv 2) pa_nil)))))))) (pss_one (ps_ret pe_bl)) pss_nil))))))
      (pss_one (ps_ret pe_bl))), ?_⟩
    have hcut : (cutV (ns.map V.int) none (some 6)).length ≤ 63 := by
      unfold cutV
      rw [List.length_take, List.length_drop, List.length_map]
      omega
    refine q_forNL (el_cat (el_sl (lo := none) (hi := some 6) (ev_var rfl) eo_none (eo_some ev_c) hS) (el_lst (ea_cons ev_c ea_nil) (by show 1 ≤ 100000; decide)) (by show _ + 1 ≤ 100000; omega))
      (fun p i σ' H' => Tabs T H' ∧ H' p = some (.lst (cutV (ns.map V.int) none (some 6) ++ [.int 0])) ∧ ∃ v1 v2 v3, σ' = [some (.ref sc), v1, v2, v3])
      (fun p H1 hp x1 h1 => ⟨hT.ext x1, h1, none, none, none, rfl⟩) (fun p i σ' H' hi hP => sq_of hP.2.1) (fun p i x σ' Hs hx hP => ?_) (fun p σ' H' hP => ?_)
    · obtain ⟨TE0, hp, v1, v2, v3, rfl⟩ := hP
      obtain ⟨cell, rfl⟩ : ∃ i : Int, x = .int i := by
        have hm := List.mem_of_getElem? hx
        rcases List.mem_append.mp hm with h | h
        · unfold cutV at h
          obtain ⟨i, _, e⟩ := List.mem_map.mp (List.mem_of_mem_drop (List.mem_of_mem_take h))
          exact ⟨i, e.symm⟩
        · exact ⟨0, List.mem_singleton.mp h⟩
      refine q_asgAny (rd_call (rd_cons (rd_ev (ev_var rfl) fun H1 x1 => rd_nil ⟨cell, rfl, fun a H2 ha x2 w2 => ?_⟩)))
      have x02 : Ex Hs H2 := x1.trans x2
      have hpa : p ≠ a := fun e => by rw [← e, x1 _ _ hp] at ha; cases ha
      refine s_forR1 (n := 3) (ea_cons ev_c ea_nil) (by decide) (fun i σ' H' => ExaN a H2 H' ∧ Tabs T H' ∧ WellAt H' a (i * 6300) ∧ ∃ v3, σ' = [some (.ref sc), some (.int cell), some (.ref a), v3])
        (fun H3 x3 => ⟨.of (Exa.of x3), (TE0.ext x02).ext x3, w2.ex x3 |>.le (Nat.zero_le _), v3, rfl⟩) (fun i σ' H' hi hP => ?_) (fun σ' H' hP => ?_)
      · obtain ⟨e1, T1, w3, v3, rfl⟩ := hP
        refine rd_orNB (rd_call (rd_cons (rd_ev (ev_var rfl) fun H4 x4 => rd_nil ⟨a, i * 6300, rfl, w3.ex x4, by omega, fun H5 xa5 w5 => ⟨true, rfl, ?_⟩⟩)))
        rw [if_neg (by decide)]
        have T5 := N4.Tabs.exa (T1.ext x4) (w3.ex x4) xa5
        refine rd_orNB (rd_call (rd_cons (rd_ev (ev_var rfl) fun H6 x6 => rd_nil ⟨a, i * 6300 + 2100, rfl, w5.ex x6, by omega, T5.ext x6, fun H7 xa7 T7 w7 => ⟨true, rfl, ?_⟩⟩)))
        rw [if_neg (by decide)]
        refine rd_NB (rd_call (rd_cons (rd_ev (ev_var rfl) fun H8 x8 => rd_nil ⟨a, i * 6300 + 2100 + 2100, rfl, w7.ex x8, by omega, T7.ext x8, fun H9 xa9 T9 w9 => ⟨true, rfl, ?_⟩⟩)))
        rw [if_neg (by decide)]
        exact ⟨((((e1.trans (.of (Exa.of x4))).trans (.of xa5)).trans (.of (Exa.of x6))).trans xa7).trans ((ExaN.of (Exa.of x8)).trans xa9), T9, w9.le (by omega), _, rfl⟩
      · obtain ⟨e1, T1, w3, v3, rfl⟩ := hP
        exact ⟨T1, e1 _ _ hpa (x02 _ _ hp) lst_tbl, _, _, _, rfl⟩
    · exact s_ret ev_c fun H1 _ => q H1
end
end N4

set_option maxHeartbeats 4000000
namespace N4
open PySem PySem.Spec PyProof.Rows L2 LamX
def dIsInteger : He.DefD := ⟨("is_integer", none), "is_integer", "is_integer", L2.defArgs sIsInteger, L2.defBody sIsInteger, L2.defScope sIsInteger, [], []⟩
def dIsWithin : He.DefD := ⟨("is_within", none), "is_within", "is_within", L2.defArgs sIsWithin, L2.defBody sIsWithin, L2.defScope sIsWithin, [], []⟩
def dIsRow : He.DefD := ⟨("is_row", none), "is_row", "is_row", L2.defArgs sIsRow, L2.defBody sIsRow, L2.defScope sIsRow, [], []⟩
def dIsText : He.DefD := ⟨("is_text", none), "is_text", "is_text", L2.defArgs sIsText, L2.defBody sIsText, L2.defScope sIsText, [], []⟩
def dTextBytes : He.DefD := ⟨("text_bytes", none), "text_bytes", "text_bytes", L2.defArgs sTextBytes, L2.defBody sTextBytes, L2.defScope sTextBytes, [], []⟩
def dBytesText : He.DefD := ⟨("bytes_text", none), "bytes_text", "bytes_text", L2.defArgs sBytesText, L2.defBody sBytesText, L2.defScope sBytesText, [], []⟩
def dIsRowOfBytes : He.DefD := ⟨("is_row_of_bytes", none), "is_row_of_bytes", "is_row_of_bytes", L2.defArgs sIsRowOfBytes, L2.defBody sIsRowOfBytes, L2.defScope sIsRowOfBytes, [], []⟩
def dLawWell : He.DefD := ⟨("_law_well", none), "_law_well", "_law_well", L2.defArgs sLawWell, L2.defBody sLawWell, L2.defScope sLawWell, [], []⟩
def dLawDraw : He.DefD := ⟨("_law_draw", none), "_law_draw", "_law_draw", L2.defArgs sLawDraw, L2.defBody sLawDraw, L2.defScope sLawDraw, [], []⟩
def dLawOne : He.DefD := ⟨("_law_one", none), "_law_one", "_law_one", L2.defArgs sLawOne, L2.defBody sLawOne, L2.defScope sLawOne, [], []⟩
def dLawSigns : He.DefD := ⟨("_law_signs", none), "_law_signs", "_law_signs", L2.defArgs sLawSigns, L2.defBody sLawSigns, L2.defScope sLawSigns, [], []⟩
def dLawDrawn : He.DefD := ⟨("_law_drawn", none), "_law_drawn", "_law_drawn", L2.defArgs sLawDrawn, L2.defBody sLawDrawn, L2.defScope sLawDrawn, [], []⟩
def dLawSaid : He.DefD := ⟨("_law_said", none), "_law_said", "_law_said", L2.defArgs sLawSaid, L2.defBody sLawSaid, L2.defScope sLawSaid, [], []⟩
def dLawToldRight : He.DefD := ⟨("_law_told_right", none), "_law_told_right", "_law_told_right", L2.defArgs sLawToldRight, L2.defBody sLawToldRight, L2.defScope sLawToldRight, [], []⟩
def dLawOtherSignsRight : He.DefD := ⟨("_law_other_signs_right", none), "_law_other_signs_right", "_law_other_signs_right", L2.defArgs sLawOtherSignsRight, L2.defBody sLawOtherSignsRight, L2.defScope sLawOtherSignsRight, [], []⟩
def dLawRefusedRight : He.DefD := ⟨("_law_refused_right", none), "_law_refused_right", "_law_refused_right", L2.defArgs sLawRefusedRight, L2.defBody sLawRefusedRight, L2.defScope sLawRefusedRight, [], []⟩
def dLaw : He.DefD := ⟨("law", none), "law", "law", L2.defArgs sLaw, L2.defBody sLaw, L2.defScope sLaw, [], []⟩
def fnL : List He.DefD := [dIsInteger, dIsWithin, dIsRow, dIsText, dTextBytes, dBytesText, dIsRowOfBytes, dLawWell, dLawDraw, dLawOne, dLawSigns, dLawDrawn, dLawSaid, dLawToldRight, dLawOtherSignsRight, dLawRefusedRight, dLaw]
def faL : List He.Fa := [.glo "is_integer", .glo "is_within", .glo "is_row", .glo "is_text", .glo "text_bytes", .glo "bytes_text", .glo "is_row_of_bytes", .glo "_law_well", .glo "_law_draw", .glo "_law_one", .glo "_law_signs", .glo "_law_drawn", .glo "_law_said", .glo "_law_told_right", .glo "_law_other_signs_right", .glo "_law_refused_right", .glo "law", .free "isinstance", .free "str", .free "len", .free "all", .free "sum", .free "int", .free "range", .free "bool", .free "list", .free "tuple", .free "set", .free "ord", .free "sorted", .free "enumerate", .free "any", .free "max", .free "zip", .int "GREATEST_BYTE" 255, .str "SIGNS" (SX.S signsL), .glo "NoBytes", .glo "NoText", .glo "TypegateError", .exc "NoBytes", .exc "NoText", .exm "NoBytes" "NoBytes" true, .exm "NoText" "NoText" true, .exm "NoText" "NoBytes" false]
def tfL : List He.Defn := [("_law_other_signs_right", none), ("_law_refused_right", none)]
def excB (K : PySem.W.Frag) (D : Addr) : Bool := He.eqO (PySem.W.findIn K (.ref D) "__getattribute__") (some (some (.builtin "BaseException.__getattribute__"))) && (He.eqO (PySem.W.findIn K (.ref D) "__getattr__") (some none) && (decide (PySem.W.subIn K (.ref D) (.type "BaseException") = some true) && (PySem.W.hasDictIn K D && (He.eqO (PySem.W.findIn K (.ref D) "__class__") (some (some (.builtin "object.__class__"))) && (He.eqO (PySem.W.specialIn K (.builtin "object.__class__") "__get__") (some (some (.builtin "getset_descriptor.__get__"))) && (decide (PySem.W.takesIn K (.builtin "object.__class__") = some true) && decide (PySem.W.mroIn K D (.type "object") = some true)))))))
theorem excB_ok {K : PySem.W.Frag} {D : Addr} (h : excB K D = true) : ExcC K D := by
  obtain ⟨h1, h⟩ := He.ba h
  obtain ⟨h2, h⟩ := He.ba h
  obtain ⟨h3, h⟩ := He.ba h
  obtain ⟨h4, h⟩ := He.ba h
  obtain ⟨h5, h⟩ := He.ba h
  obtain ⟨h6, h⟩ := He.ba h
  obtain ⟨h7, h8⟩ := He.ba h
  exact ⟨He.eqO_ok h1, He.eqO_ok h2, of_decide_eq_true h3, h4, He.eqO_ok h5, He.eqO_ok h6, of_decide_eq_true h7, of_decide_eq_true h8⟩
def exL (K : PySem.W.Frag) : Bool := excB K (He.ga K "NoBytes") && (decide (PySem.W.kitOne K (.ref (He.ga K "NoBytes")) (.ref (He.ga K "NoText")) = some false) && decide ((He.cT K ("_law_other_signs_right", none)).2 ≠ (He.cT K ("_law_refused_right", none)).2))
theorem kwd_binds {K : PySem.W.Frag} {x p1 : Str} {st : Stmt} {f : Addr} {fd : FuncData} (F : FnP K x st f fd) (h : ∀ (kV doc pm : Value) (an : Option Addr) (cdv ct : Value) (v : Value), bindArgs (PySem.W.fnOf x x (L2.defArgs st) (L2.defBody st) (L2.defScope st) .none kV doc pm an cdv ct) ⟨[], [(p1, v)]⟩ = pure [(p1, v)]) :
    ∀ (s : Shared) (v : Value), K.In s.heap → BindsTo s fd ⟨[], [(p1, v)]⟩ [(p1, v)] := by
  obtain ⟨oc, od, dV, kV, doc, pm, an, cdv, ct, osl, rfl, lk, hcd, hD, hK⟩ := F.ex
  rcases hD with ⟨_, rfl⟩ | ⟨e, _⟩
  · exact fun s v _ => .of_eq (h kV doc pm an cdv ct v)
  · exact absurd rfl e
theorem code_of {K : PySem.W.Frag} {x : Str} {st : Stmt} {p : Str × Option Str} {fd : FuncData} (F : FnP K x st (He.fAd K p) fd) : fd.code = .ref (He.codeOf K p) := by
  obtain ⟨oc, od, dV, kV, doc, pm, an, cdv, ct, osl, rfl, lk, hcd, hD, hK⟩ := F.ex
  obtain ⟨c, rfl⟩ := He.codeIn_ref hcd
  exact congrArg Value.ref (He.codeOf_eq lk rfl).symm
def TL (K : PySem.W.Frag) : List (Addr × Str) := [((He.cT K ("_law_other_signs_right", none)).2, (("_law_other_signs_right" : Str) ++ ".<locals>.") ++ "<lambda>"), ((He.cT K ("_law_refused_right", none)).2, (("_law_refused_right" : Str) ++ ".<locals>.") ++ "<lambda>")]
theorem facts {l : PySem.W.OpenLaw} {w : World} {K : PySem.W.Frag} {h : Heap} {mg : Str → Option Value} {f : Addr} (X : K.In h) (G : h.Ns mainGlobals mg) (hfa : mg ("law" : Str) = some (.ref f)) (cX : He.SaysX faL fnL [] tfL exL w h K) :
    LamX.LawAtS l w K L2.CX0 8 63 "script" mg f h := by
  have c := cX.t.d
  obtain ⟨x1, x2⟩ := He.ba cX.more
  obtain ⟨x2, x3⟩ := He.ba x2
  have hne : (He.cT K ("_law_other_signs_right", none)).2 ≠ (He.cT K ("_law_refused_right", none)).2 := of_decide_eq_true x3
  obtain ⟨fd0, F0⟩ := c.def_ 0 (d := dIsInteger) rfl
  obtain ⟨fd1, F1⟩ := c.def_ 1 (d := dIsWithin) rfl
  obtain ⟨fd2, F2⟩ := c.def_ 2 (d := dIsRow) rfl
  obtain ⟨fd3, F3⟩ := c.def_ 3 (d := dIsText) rfl
  obtain ⟨fd4, F4⟩ := c.def_ 4 (d := dTextBytes) rfl
  obtain ⟨fd5, F5⟩ := c.def_ 5 (d := dBytesText) rfl
  obtain ⟨fd6, F6⟩ := c.def_ 6 (d := dIsRowOfBytes) rfl
  obtain ⟨fd7, F7⟩ := c.def_ 7 (d := dLawWell) rfl
  obtain ⟨fd8, F8⟩ := c.def_ 8 (d := dLawDraw) rfl
  obtain ⟨fd9, F9⟩ := c.def_ 9 (d := dLawOne) rfl
  obtain ⟨fd10, F10⟩ := c.def_ 10 (d := dLawSigns) rfl
  obtain ⟨fd11, F11⟩ := c.def_ 11 (d := dLawDrawn) rfl
  obtain ⟨fd12, F12⟩ := c.def_ 12 (d := dLawSaid) rfl
  obtain ⟨fd13, F13⟩ := c.def_ 13 (d := dLawToldRight) rfl
  obtain ⟨fd14, F14⟩ := c.def_ 14 (d := dLawOtherSignsRight) rfl
  obtain ⟨fd15, F15⟩ := c.def_ 15 (d := dLawRefusedRight) rfl
  obtain ⟨fd16, F16⟩ := c.def_ 16 (d := dLaw) rfl
  have B : Bt mg := ⟨He.free_ok X G (c.fact 17 (f := .free "isinstance") rfl), He.free_ok X G (c.fact 18 (f := .free "str") rfl), He.free_ok X G (c.fact 19 (f := .free "len") rfl), He.free_ok X G (c.fact 20 (f := .free "all") rfl), He.free_ok X G (c.fact 21 (f := .free "sum") rfl), He.free_ok X G (c.fact 22 (f := .free "int") rfl), He.free_ok X G (c.fact 23 (f := .free "range") rfl), He.free_ok X G (c.fact 24 (f := .free "bool") rfl), He.free_ok X G (c.fact 25 (f := .free "list") rfl), He.free_ok X G (c.fact 26 (f := .free "tuple") rfl), He.free_ok X G (c.fact 27 (f := .free "set") rfl), He.free_ok X G (c.fact 28 (f := .free "ord") rfl), He.free_ok X G (c.fact 29 (f := .free "sorted") rfl), He.free_ok X G (c.fact 30 (f := .free "enumerate") rfl), He.free_ok X G (c.fact 31 (f := .free "any") rfl), He.free_ok X G (c.fact 32 (f := .free "max") rfl), He.free_ok X G (c.fact 33 (f := .free "zip") rfl)⟩
  have gG : ∃ t, mg "GREATEST_BYTE" = some (.int 255 t) := He.int_ok X G (c.fact 34 (f := .int "GREATEST_BYTE" 255) rfl)
  have gS : ∃ z t, z = SX.S signsL ∧ mg "SIGNS" = some (.str z t) := by
    obtain ⟨t, e⟩ := He.str_ok X G (c.fact 35 (f := .str "SIGNS" (SX.S signsL)) rfl)
    exact ⟨_, t, rfl, e⟩
  have NB : ErrC K mg "NoBytes" (He.ga K "NoBytes") := by
    obtain ⟨n1, n2, n3, n4⟩ := He.exc_ok (c.fact 39 (f := .exc "NoBytes") rfl)
    exact ⟨(He.glo_ok X G (c.fact 36 (f := .glo "NoBytes") rfl)), n1, n2, n3, n4, He.exm_ok (c.fact 41 (f := .exm "NoBytes" "NoBytes" true) rfl)⟩
  have NT : ErrC K mg "NoText" (He.ga K "NoText") := by
    obtain ⟨n1, n2, n3, n4⟩ := He.exc_ok (c.fact 40 (f := .exc "NoText") rfl)
    exact ⟨(He.glo_ok X G (c.fact 37 (f := .glo "NoText") rfl)), n1, n2, n3, n4, He.exm_ok (c.fact 42 (f := .exm "NoText" "NoText" true) rfl)⟩
  have W2 : Two K mg (He.ga K "NoBytes") (He.ga K "NoText") := ⟨NB, NT, ⟨_, (He.glo_ok X G (c.fact 38 (f := .glo "TypegateError") rfl))⟩, excB_ok x1, He.exm_ok (c.fact 43 (f := .exm "NoText" "NoBytes" false) rfl), of_decide_eq_true x2⟩
  have b0 : Binds K fd0 ["thing"] [] := F0.bindsN fun _ _ _ _ _ _ us hl => match us, hl with | [_], _ => rfl
  have b1 : Binds K fd1 ["thing", "low", "high"] [] := F1.bindsN fun _ _ _ _ _ _ us hl => match us, hl with | [_, _, _], _ => rfl
  have b2 : Binds K fd2 ["thing"] [] := F2.bindsN fun _ _ _ _ _ _ us hl => match us, hl with | [_], _ => rfl
  have b3 : Binds K fd3 ["thing"] [] := F3.bindsN fun _ _ _ _ _ _ us hl => match us, hl with | [_], _ => rfl
  have b4 : Binds K fd4 ["text"] [] := F4.bindsN fun _ _ _ _ _ _ us hl => match us, hl with | [_], _ => rfl
  have b5 : Binds K fd5 ["data"] [] := F5.bindsN fun _ _ _ _ _ _ us hl => match us, hl with | [_], _ => rfl
  have b6 : Binds K fd6 ["thing"] [] := F6.bindsN fun _ _ _ _ _ _ us hl => match us, hl with | [_], _ => rfl
  have b7 : Binds K fd7 ["cell"] [] := F7.bindsN fun _ _ _ _ _ _ us hl => match us, hl with | [_], _ => rfl
  have b8 : Binds K fd8 ["well", "many"] [] := F8.bindsN fun _ _ _ _ _ _ us hl => match us, hl with | [_, _], _ => rfl
  have b9 : Binds K fd9 ["well", "some"] [] := F9.bindsN fun _ _ _ _ _ _ us hl => match us, hl with | [_, _], _ => rfl
  have b10 : Binds K fd10 [] [] := F10.bindsN fun _ _ _ _ _ _ us hl => match us, hl with | [], _ => rfl
  have b11 : Binds K fd11 ["well", "most"] [] := F11.bindsN fun _ _ _ _ _ _ us hl => match us, hl with | [_, _], _ => rfl
  have b12 : Binds K fd12 ["doing"] [] := F12.bindsN fun _ _ _ _ _ _ us hl => match us, hl with | [_], _ => rfl
  have b13 : Binds K fd13 ["well"] [] := F13.bindsN fun _ _ _ _ _ _ us hl => match us, hl with | [_], _ => rfl
  have b14 : Binds K fd14 ["well"] [] := F14.bindsN fun _ _ _ _ _ _ us hl => match us, hl with | [_], _ => rfl
  have b15 : Binds K fd15 ["well"] [] := F15.bindsN fun _ _ _ _ _ _ us hl => match us, hl with | [_], _ => rfl
  have e := hfa.symm.trans (He.glo_ok X G (c.fact 16 (f := .glo "law") rfl))
  cases e
  have b := FunD.bindsA (ps := ["script"]) F16 fun _ _ _ _ _ _ us hl => match us, hl with | [_], _ => rfl
  have sd : SaidT K mg (He.ga K "NoBytes") (He.ga K "NoText") := ⟨⟨_, fd12, F12, (He.glo_ok X G (c.fact 12 (f := .glo "_law_said") rfl)), b12⟩, W2⟩
  have hnil : ∀ (H : Hp), (∀ p ∈ tfL.map (He.cT K), H p.2 = some (.tbl #[])) → Tabs (TL K) H := fun H h p hp => by
    rcases List.mem_cons.mp hp with rfl | hp
    · exact TabS.nil (h _ (List.mem_map_of_mem (by decide +kernel)))
    rcases List.mem_cons.mp hp with rfl | hp
    · exact TabS.nil (h _ (List.mem_map_of_mem (by decide +kernel)))
    · cases hp
  refine ⟨fd16, tfL.map (He.cT K), spLaw K (TL K), ?_, ?_, ?_, fun s v => b s [v] rfl, fun H a ns hl _ hT hS => ⟨a, ns, rfl, hS, hl, hnil H hT, fun _ => rfl⟩, fun base _ _ TB => ?_⟩
  · intro p hp
    obtain ⟨q, hq, rfl⟩ := List.mem_map.mp hp
    exact cX.empty q hq
  · intro p hp
    obtain ⟨q, hq, rfl⟩ := List.mem_map.mp hp
    exact cX.out q hq
  · intro p hp
    obtain ⟨q, hq, rfl⟩ := List.mem_map.mp hp
    exact PySem.W.codeHd_of_K X (cX.hd q hq)
  have TBO : TabB base mg (He.codeOf K ("_law_other_signs_right", none)) (He.cT K ("_law_other_signs_right", none)).2 := TB (He.cT K ("_law_other_signs_right", none)) (List.mem_map_of_mem (l := tfL) (a := ("_law_other_signs_right", none)) (by decide +kernel))
  have TBR : TabB base mg (He.codeOf K ("_law_refused_right", none)) (He.cT K ("_law_refused_right", none)).2 := TB (He.cT K ("_law_refused_right", none)) (List.mem_map_of_mem (l := tfL) (a := ("_law_refused_right", none)) (by decide +kernel))
  have hcO : fd14.code = .ref (He.codeOf K ("_law_other_signs_right", none)) := code_of (x := "_law_other_signs_right") (st := sLawOtherSignsRight) (p := ("_law_other_signs_right", none)) F14
  have hcR : fd15.code = .ref (He.codeOf K ("_law_refused_right", none)) := code_of (x := "_law_refused_right") (st := sLawRefusedRight) (p := ("_law_refused_right", none)) F15
  have huO : ∀ p ∈ TL K, p.1 = (He.cT K ("_law_other_signs_right", none)).2 → p.2 = (("_law_other_signs_right" : Str) ++ ".<locals>.") ++ "<lambda>" := fun p hp e => by
    rcases List.mem_cons.mp hp with rfl | hp
    · rfl
    rcases List.mem_cons.mp hp with rfl | hp
    · exact absurd e.symm hne
    · cases hp
  have huR : ∀ p ∈ TL K, p.1 = (He.cT K ("_law_refused_right", none)).2 → p.2 = (("_law_refused_right" : Str) ++ ".<locals>.") ++ "<lambda>" := fun p hp e => by
    rcases List.mem_cons.mp hp with rfl | hp
    · exact absurd e hne
    rcases List.mem_cons.mp hp with rfl | hp
    · rfl
    · cases hp
  have c_is_integer : Cl l.prog w K mg base L2.CX0 1 "is_integer" ["thing"] (spInt K) := ⟨_, fd0, ok_isInteger F0 B, (He.glo_ok X G (c.fact 0 (f := .glo "is_integer") rfl)), F0.kp, b0⟩
  have c_is_within : Cl l.prog w K mg base L2.CX0 2 "is_within" ["thing", "low", "high"] (spWithin K) := ⟨_, fd1, ok_isWithin F1 B c_is_integer, (He.glo_ok X G (c.fact 1 (f := .glo "is_within") rfl)), F1.kp, b1⟩
  have c_is_row : Cl l.prog w K mg base L2.CX0 1 "is_row" ["thing"] (spRow K) := ⟨_, fd2, ok_isRow F2 B, (He.glo_ok X G (c.fact 2 (f := .glo "is_row") rfl)), F2.kp, b2⟩
  have c_is_text : Cl l.prog w K mg base L2.CX0 2 "is_text" ["thing"] (spName K isTextL) := ⟨_, fd3, ok_isText F3 B gS, (He.glo_ok X G (c.fact 3 (f := .glo "is_text") rfl)), F3.kp, b3⟩
  have c_is_row_of_bytes : Cl l.prog w K mg base L2.CX0 3 "is_row_of_bytes" ["thing"] (spRob K) := ⟨_, fd6, ok_rob F6 B gG c_is_row c_is_within, (He.glo_ok X G (c.fact 6 (f := .glo "is_row_of_bytes") rfl)), F6.kp, b6⟩
  have c_text_bytes : Cl l.prog w K mg base L2.CX0 3 "text_bytes" ["text"] spTB := ⟨_, fd4, ok_textBytes F4 B c_is_text, (He.glo_ok X G (c.fact 4 (f := .glo "text_bytes") rfl)), F4.kp, b4⟩
  have x_text_bytes : Cl l.prog w K mg base (L2.CX l.prog w) 3 "text_bytes" ["text"] (spTBX K (He.ga K "NoText")) := ⟨_, fd4, ok_textBytesX F4 B NT c_is_text, (He.glo_ok X G (c.fact 4 (f := .glo "text_bytes") rfl)), F4.kp, b4⟩
  have c_bytes_text : Cl l.prog w K mg base L2.CX0 4 "bytes_text" ["data"] (spBT K) := ⟨_, fd5, ok_bytesText F5 B gS c_is_row_of_bytes, (He.glo_ok X G (c.fact 5 (f := .glo "bytes_text") rfl)), F5.kp, b5⟩
  have x_bytes_text : Cl l.prog w K mg base (L2.CX l.prog w) 4 "bytes_text" ["data"] (spBTX K (He.ga K "NoBytes") (He.ga K "NoText")) := ⟨_, fd5, ok_bytesTextX F5 B NB NT gS c_is_row_of_bytes, (He.glo_ok X G (c.fact 5 (f := .glo "bytes_text") rfl)), F5.kp, b5⟩
  have c__law_well : Cl l.prog w K mg base L2.CX0 1 "_law_well" ["cell"] spWell := ⟨_, fd7, ok_lawWell F7 B, (He.glo_ok X G (c.fact 7 (f := .glo "_law_well") rfl)), F7.kp, b7⟩
  have c__law_draw : Cl l.prog w K mg base L2.CX0 1 "_law_draw" ["well", "many"] spDraw := ⟨_, fd8, ok_lawDraw F8 B, (He.glo_ok X G (c.fact 8 (f := .glo "_law_draw") rfl)), F8.kp, b8⟩
  have c__law_one : Cl l.prog w K mg base L2.CX0 2 "_law_one" ["well", "some"] spOne := ⟨_, fd9, ok_lawOne F9 B c__law_draw, (He.glo_ok X G (c.fact 9 (f := .glo "_law_one") rfl)), F9.kp, b9⟩
  have s__law_one : Cl l.prog w K mg base L2.CX0 2 "_law_one" ["well", "some"] spOneS := ⟨_, fd9, ok_lawOneS F9 B c__law_draw, (He.glo_ok X G (c.fact 9 (f := .glo "_law_one") rfl)), F9.kp, b9⟩
  have c__law_signs : Cl l.prog w K mg base L2.CX0 1 "_law_signs" [] spSigns := ⟨_, fd10, ok_lawSigns F10, (He.glo_ok X G (c.fact 10 (f := .glo "_law_signs") rfl)), F10.kp, b10⟩
  have c__law_drawn : Cl l.prog w K mg base L2.CX0 3 "_law_drawn" ["well", "most"] spDrawn := ⟨_, fd11, ok_lawDrawn F11 B c__law_draw s__law_one c__law_signs, (He.glo_ok X G (c.fact 11 (f := .glo "_law_drawn") rfl)), F11.kp, b11⟩
  have k_text_bytes : ClK l.prog w K mg base 3 "text_bytes" "text" spTB := ⟨_, fd4, ok_textBytes F4 B c_is_text, (He.glo_ok X G (c.fact 4 (f := .glo "text_bytes") rfl)), F4.kp, kwd_binds (x := "text_bytes") (p1 := "text") (st := sTextBytes) F4 fun _ _ _ _ _ _ _ => rfl⟩
  have k_bytes_text : ClK l.prog w K mg base 4 "bytes_text" "data" (spBT K) := ⟨_, fd5, ok_bytesText F5 B gS c_is_row_of_bytes, (He.glo_ok X G (c.fact 5 (f := .glo "bytes_text") rfl)), F5.kp, kwd_binds (x := "bytes_text") (p1 := "data") (st := sBytesText) F5 fun _ _ _ _ _ _ _ => rfl⟩
  have c__law_told_right : Cl l.prog w K mg base L2.CX0 5 "_law_told_right" ["well"] spToldR := ⟨_, fd13, ok_lawTold F13 B c__law_one c__law_drawn c_text_bytes k_text_bytes c_bytes_text k_bytes_text, (He.glo_ok X G (c.fact 13 (f := .glo "_law_told_right") rfl)), F13.kp, b13⟩
  have c__law_other_signs_right : Cl l.prog w K mg base L2.CX0 7 "_law_other_signs_right" ["well"] (spOther (TL K)) := ⟨_, fd14, ok_lawOther F14 hcO B TBO List.mem_cons_self huO sd c__law_draw c__law_one c__law_drawn x_text_bytes x_bytes_text, (He.glo_ok X G (c.fact 14 (f := .glo "_law_other_signs_right") rfl)), F14.kp, b14⟩
  have c__law_refused_right : Cl l.prog w K mg base L2.CX0 7 "_law_refused_right" ["well"] (spOther (TL K)) := ⟨_, fd15, ok_lawRefused F15 hcR B TBR (List.mem_cons_of_mem _ List.mem_cons_self) huR sd c__law_draw c__law_one c__law_drawn c__law_signs c_text_bytes c_bytes_text x_text_bytes x_bytes_text, (He.glo_ok X G (c.fact 15 (f := .glo "_law_refused_right") rfl)), F15.kp, b15⟩
  exact ok_law F16 B c__law_well c__law_told_right c__law_other_signs_right c__law_refused_right
end N4

set_option maxHeartbeats 4000000
namespace N4
open PySem PySem.Spec PyProof.Rows L2 LamX
abbrev R : PySem.W.OpenRow := PySem.W.OpenLaw.row PySem.Challenge.rw_typegate_k40_texts_as_bytes
abbrev hk : PySem.W.Hook := He.hookX 5 faL fnL [] tfL exL
def ob (s : PySem.W.SharedT) : He.AlX := He.obsX 5 faL fnL [] tfL exL (HandSHeadRun.getT s)
theorem ob_eq (s : PySem.W.SharedT) : ob s = hk.obs s.abs := He.obsX_eq (HandSHeadRun.getT_eq s)
def looseL : List Str := ["TypegateError", "NoBytes", "NoText", "is_integer", "is_within", "is_row", "GREATEST_BYTE", "SIGNS", "is_text", "text_bytes", "bytes_text", "is_row_of_bytes", "_law_well", "_law_draw", "_law_one", "_law_signs", "_law_drawn", "_law_said", "_law_told_right", "_law_other_signs_right", "_law_refused_right"]
theorem run (w : World) : HandSHeadRun.RunEq R (PySem.W.view R.prog [25]) hk ob 3000 looseL w := by
  intro os
  kernel_rfl
end N4
open PySem PySem.W PySem.Calls PyProof.Rows
theorem PySem.Challenge.cw_typegate_k40_texts_as_bytes_holds : PySem.Challenge.rw_typegate_k40_texts_as_bytes.Holds := by
  w_on; o_law
  refine HandSHeadRun.head_any (r := OpenLaw.row PySem.Challenge.rw_typegate_k40_texts_as_bytes) (q := view (OpenLaw.row PySem.Challenge.rw_typegate_k40_texts_as_bytes).prog [25]) (H := N4.hk) (ob := N4.ob) (M := 3000) (loose := N4.looseL) (d := HandSHeadRun.topDef (OpenLaw.row PySem.Challenge.rw_typegate_k40_texts_as_bytes).prog 25) (kwd := []) N4.ob_eq
    (by kernel_rfl) (fun s => by kernel_rfl) N4.run (by kernel_rfl) (by kernel_rfl) (by kernel_rfl) (by rfl) (by first | assumption | decide +kernel) (by decide +kernel) ⟨rfl, rfl, rfl, rfl, rfl, by decide +kernel⟩ ?hw ?hc
  case hw => w_witness2
  case hc =>
    refine LamX.walk_ofTsE (l := PySem.Challenge.rw_typegate_k40_texts_as_bytes) (n := 63) (k := 8) (x := "script") (CX := fun _ => L2.CX0) rfl (by decide) (by kernel_rfl) ⟨rfl, by decide, by decide⟩ ?F (fun _ _ _ _ _ z => z)
    intro w mg fa h Y G hmg0
    obtain ⟨K, KX, c⟩ := Y
    have hmg : mg ("law" : PySem.Str) = some (.ref fa) := by
      have e : (HandSHeadRun.topDef (OpenLaw.row PySem.Challenge.rw_typegate_k40_texts_as_bytes).prog 25).name = ("law" : PySem.Str) := by kernel_rfl
      rw [← e]
      exact hmg0
    exact ⟨K, KX, N4.facts KX G hmg c⟩
