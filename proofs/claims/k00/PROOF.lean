import PyProof.Rows.All
import Wide.All
import OpenK.AllK
import Wide.FinOn
import HandS.ForMost
import HandS.ExcInit
import HandS.Lambda
import HandS.CallLocal
import HandS.ExcIs
import HandS.ExcValue
import HandS.IsInst
import HandS.Walk
import HandS.Zip
import HandS.ListItems
import HandS.Evl
import HandS.EndTab
import HandS.Defaults
import HandS.HeadHook1
import HandS.HeadHook2
import HandS.HeadHook3
import HandS.HeadHook4
import HandS.HeadWalk
import HandS.HeadEnd
import HandS.Head0
import HandS.Head1
import HandS.Head2
import PySem.Challenge.RW_lastbell_k00_errors_made
set_option Elab.async false
set_option linter.all false
set_option maxRecDepth 100000
set_option maxHeartbeats 2000000
/-! lambdas with parameters and without captured names, as tracked objects -/
namespace Own
open PySem PySem.Spec PyProof.Rows L2 LamX
/-- at f: the function object of a lambda, its code object at c -/
def LamO (f c : Addr) (q : Str) (ps : Arguments) (bd : Expr) (sc : Scope) : HO :=
  .ext fun h => ∃ pm ctv, h.get? f = some (PySem.W.kla_obj "<lambda>" q ps bd sc [] pm c ctv)
def LamAt (H : Hp) (f : Addr) (q : Str) (ps : Arguments) (bd : Expr) (sc : Scope) : Prop :=
  ∃ c, H f = some (LamO f c q ps bd sc) ∧ H c = some (CodeO c q)
theorem lamO_ok {P : Program} {w : World} {H : Hp} {h : Heap} {f c : Addr} {q : Str} {ps : Arguments} {bd : Expr} {sc : Scope} {pm ctv : Value}
    (e : h.get? f = some (PySem.W.kla_obj "<lambda>" q ps bd sc [] pm c ctv)) : ObjOk P w H h f (LamO f c q ps bd sc) :=
  ⟨⟨pm, ctv, e⟩, ⟨_, e⟩, fun _ _ ⟨p, t, z⟩ k => ⟨p, t, k _ z⟩⟩
theorem lamO_ne {f c : Addr} {q : Str} {ps : Arguments} {bd : Expr} {sc : Scope} (t : Array Value) : LamO f c q ps bd sc ≠ .tbl t := fun z => by
  unfold LamO at z
  cases z
theorem LamAt.ext {H H' : Hp} {f : Addr} {q : Str} {ps : Arguments} {bd : Expr} {sc : Scope} (l : LamAt H f q ps bd sc) (e : ExtN H H') : LamAt H' f q ps bd sc := by
  obtain ⟨c, h1, h2⟩ := l
  exact ⟨c, e _ _ h1 lamO_ne, e _ _ h2 codeO_ne⟩
section
variable {X : Cx} {pins : List (Addr × Obj)} {σ : L2.St} {H : Hp} {s : Shared}
theorem lam_new {T : List (Addr × Str)} {c P : Addr} {ps : Arguments} {bd : Expr} {sc : Scope} {pos : Pos} {E Q : Value → Shared → Prop} (I : Inv X pins σ H s) (TB : TabB X.base X.mg c P)
    (hcode : X.env.code = .ref c) (hm : (P, X.env.qual ++ "<lambda>") ∈ T) (hu : ∀ p ∈ T, p.1 = P → p.2 = X.env.qual ++ "<lambda>") (hT : Tabs T H) (hdef : defaultsOf ps X.env = ([], []))
    (hclo : cloFrom X.env.cells sc.names [] = []) (hnf : ∀ y ∈ sc.names, y.2 ≠ .free)
    (k : ∀ (f : Addr) (H2 : Hp) (s' : Shared), Inv X pins σ H2 s' → ExtN H H2 → Tabs T H2 → H f = none → LamAt H2 f (X.env.qual ++ "<lambda>") ps bd sc → Q (.ref f) s') :
    wpAny (model X.prog X.w) X.A (eval (.Lambda ps bd sc pos) X.env) Q E s := by
  obtain ⟨tb, tP, tt, tc⟩ := hT _ hm
  have bP := TB.bm.keeps I.bk
  have gP : s.heap.get? P = some { cls := .none, data := .fields tb } := I.hok P _ tP
  have clo : closureFor sc X.env = pure [] := by
    have z := closure_ok (env := X.env) (scope := sc) (fun y hy e => absurd e (hnf y hy))
    rw [hclo] at z
    exact z
  refine PySem.W.kla_eval hdef ?_
  rcases among : codeAmong pos tb.toList with _ | cv
  · refine PySem.W.kla_makeFunction clo I.ok.glob (I.mod.glob.keeps I.bk) hcode (TB.code.keeps I.bk) gP tt among TB.gP bP (fun c1 ctv h1 tk e1 ge lt rc ta => ?_)
    obtain ⟨c2, oc, vs, t, ec, goc, doc, vq⟩ := rc
    obtain rfl : c1 = c2 := Value.ref.inj ec
    have nC : H c1 = none := I.hok.fresh ge
    have le1 : s.heap.objs.size ≤ h1.objs.size := Nat.le_of_lt (Nat.lt_of_le_of_lt ge lt)
    have I1 := inv_table (t' := tk) (q := X.env.qual ++ "<lambda>") (more := #[rawInt pos.line, rawInt pos.col, .ref c1]) I tP e1 ta ge ⟨oc, vs, t, goc, doc, vq⟩
    have I2 := I1.laid (t' := tk) (o := LamO h1.objs.size c1 (X.env.qual ++ "<lambda>") ps bd sc) (h' := h1.push (PySem.W.kla_obj "<lambda>" (X.env.qual ++ "<lambda>") ps bd sc [] ((X.mg "__name__").getD .none) c1 ctv))
      (fun b o e => Heap.get?_push_of_some _ e) (Nat.le_refl _) (lamO_ok (Heap.get?_push_size _ rfl))
    have hF : upd (upd H P (.tbl (tb ++ #[rawInt pos.line, rawInt pos.col, .ref c1]))) c1 (CodeO c1 (X.env.qual ++ "<lambda>")) h1.objs.size = none := I1.hok.fresh (Nat.le_refl _)
    have hf : H h1.objs.size = none := I.hok.fresh le1
    have e12 : ExtN H (upd (upd H P (.tbl (tb ++ #[rawInt pos.line, rawInt pos.col, .ref c1]))) c1 (CodeO c1 (X.env.qual ++ "<lambda>"))) := fun b o e n => by
      have nb : b ≠ P := fun z => by
        rw [z, tP] at e
        exact n tb (Option.some.inj e).symm
      rw [upd_ne (ne_of_none e nC), upd_ne nb]
      exact e
    have e2 : ∀ b o, upd (upd H P (.tbl (tb ++ #[rawInt pos.line, rawInt pos.col, .ref c1]))) c1 (CodeO c1 (X.env.qual ++ "<lambda>")) b = some o → upd (upd (upd H P (.tbl (tb ++ #[rawInt pos.line, rawInt pos.col, .ref c1]))) c1 (CodeO c1 (X.env.qual ++ "<lambda>"))) h1.objs.size (LamO h1.objs.size c1 (X.env.qual ++ "<lambda>") ps bd sc) b = some o := fun b o e => by
      rw [upd_ne (ne_of_none e hF)]
      exact e
    have eL : (tb ++ #[rawInt pos.line, rawInt pos.col, .ref c1]).toList = tb.toList ++ [rawInt pos.line, rawInt pos.col, .ref c1] := by simp
    have T1 : Tabs T (upd (upd H P (.tbl (tb ++ #[rawInt pos.line, rawInt pos.col, .ref c1]))) c1 (CodeO c1 (X.env.qual ++ "<lambda>"))) := fun p hp => by
      by_cases hb : p.1 = P
      · refine ⟨tb ++ #[rawInt pos.line, rawInt pos.col, .ref c1], ?_, ?_, fun p2 cv hcv => ?_⟩
        · rw [hb, upd_ne (ne_of_none tP nC)]
          exact upd_same
        · rw [eL]
          exact PySem.TriplesOk_snoc _ _ _ _ tt
        · rw [eL] at hcv
          rw [hu p hp hb]
          rcases among_app _ tt hcv with z | z
          · obtain ⟨c0, y1, y2⟩ := tc p2 cv z
            exact ⟨c0, y1, e12 _ _ y2 codeO_ne⟩
          · exact ⟨c1, z, upd_same⟩
      · obtain ⟨t2, a1, a2, a3⟩ := hT p hp
        refine ⟨t2, ?_, a2, fun p2 cv hcv => ?_⟩
        · rw [upd_ne (ne_of_none a1 nC), upd_ne hb]
          exact a1
        · obtain ⟨c0, y1, y2⟩ := a3 p2 cv hcv
          exact ⟨c0, y1, e12 _ _ y2 codeO_ne⟩
    exact k _ _ _ I2 (e12.trans (ExtN.of e2)) (T1.ext e2) hf ⟨c1, upd_same, e2 _ _ upd_same⟩
  · obtain ⟨c1, rfl, hco⟩ := tc pos cv among
    refine PySem.W.kla_makeFunctionHit clo I.ok.glob (I.mod.glob.keeps I.bk) hcode (TB.code.keeps I.bk) gP tt among bP (fun ctv h1 tk kp le1 => ?_)
    have hf : H h1.objs.size = none := I.hok.fresh le1
    have I2 := I.laid (t' := tk) (o := LamO h1.objs.size c1 (X.env.qual ++ "<lambda>") ps bd sc) (h' := h1.push (PySem.W.kla_obj "<lambda>" (X.env.qual ++ "<lambda>") ps bd sc [] ((X.mg "__name__").getD .none) c1 ctv))
      (fun b o e => Heap.get?_push_of_some _ (kp b o e)) le1 (lamO_ok (Heap.get?_push_size _ rfl))
    have e2 : ∀ b o, H b = some o → upd H h1.objs.size (LamO h1.objs.size c1 (X.env.qual ++ "<lambda>") ps bd sc) b = some o := fun b o e => by
      rw [upd_ne (ne_of_none e hf)]
      exact e
    exact k _ _ _ I2 (ExtN.of e2) (hT.ext e2) hf ⟨c1, upd_same, e2 _ _ hco⟩
end
end Own

set_option Elab.async false
set_option linter.all false
set_option maxRecDepth 100000
set_option maxHeartbeats 2000000
namespace Own
open PySem PySem.Spec PyProof.Rows L2 LamX
abbrev LSp := List V → Hp → VK → Prop
/-- the text of a lambda keeps the promise sp -/
structure LamCode (P : Program) (w : World) (K : PySem.W.Frag) (mg : Str → Option Value) (base : Heap) (k : Nat) (q : Str) (ps : Arguments) (bd : Expr) (sc : Scope) (sp : LSp) : Prop where
  ex : ∃ N pn : List Str, FnScope N pn sc ∧
    (∀ (us : List Value) (pm cv ctv : Value), us.length = pn.length → bindArgs (PySem.W.kla_fn "<lambda>" q ps bd sc [] pm cv ctv) ⟨us, []⟩ = pure (pn.zip us)) ∧
    (∀ vs H Q, sp vs H Q → vs.length = pn.length) ∧
    ∀ (f c : Addr) (A : Around) (outer : List Env) (s : Shared) (H : Hp) (vs : List V) (Q : VK), Room k (A.deeper (envOfC q sc s.heap.objs.size f (.ref c))) → sp vs H Q →
      ∃ t, PE (cxOf CX0 P w K mg base N q sc f (.ref c) A outer s H E0) bd t ∧ t (L2.start N vs) H Q
theorem run_lam {P : Program} {w : World} {K : PySem.W.Frag} {mg : Str → Option Value} {base : Heap} {k : Nat} {q : Str} {ps : Arguments} {bd : Expr} {sc : Scope} {sp : LSp} (C : LamCode P w K mg base k q ps bd sc sp)
    {A : Around} {outer : List Env} {s : Shared} {H : Hp} {f : Addr} {us : List Value} {vs : List V} {Q : VK} (la : LamAt H f q ps bd sc) (e0 : Env0 P w K mg base A outer s H) (hr : Room (k + 1) A) (r : Vals vs us) (h : sp vs H Q) :
    codeAny (model P w) A (.call (.ref f) ⟨us, []⟩) (CR CX0 outer P w H s Q E0) s := by
  obtain ⟨N, pn, S, bi, len, body⟩ := C.ex
  obtain ⟨c, hf, hc⟩ := la
  have hl := len _ _ _ h
  have lu : us.length = pn.length := r.length.symm.trans hl
  have lim : s.heap.NoLimit := e0.mod.nolimit.keeps fun b o e => (e0.bs b o e).1
  obtain ⟨⟨pm, ctv, ho⟩, _, _⟩ := e0.hok f _ hf
  obtain ⟨⟨oc, vs', t', e1, e2, e3⟩, _, _⟩ := e0.hok c _ hc
  have kinds : ∀ y ∈ pn.zip us, sc.names.lookup y.1 = some .local ∨ (sc.names.lookup y.1 = some .cell ∧ ((cellsFrom (s.heap.objs.size + 1) sc.names []).lookup y.1).isSome = true) := fun ⟨n, v⟩ hy => by
    rcases S.par n (List.of_mem_zip hy).1 with z | z
    · exact .inl z
    · exact .inr ⟨z, PySem.W.cellsFrom_some _ _ _ (.inl z)⟩
  refine PySem.W.kla_callFunE hr.depth ho rfl S.co S.gen rfl ⟨c, oc, vs', t', rfl, e1, e2, e3⟩ ?_
  rw [bi us _ _ _ lu]
  refine wpAny_pure (wpAny_newFunctionEnv_cells S.kind kinds fun env he s1 x => ?_)
  subst he
  refine ⟨lim.keeps x.toInCall.keep, ?_⟩
  show codeAny _ _ (.expr bd (envOfC q sc s.heap.objs.size f (.ref c))) _ _
  obtain ⟨t, ht, hq⟩ := body f c A outer s H vs Q (hr.deeper _) h
  have I : Inv (cxOf CX0 P w K mg base N q sc f (.ref c) A outer s H E0) [] (L2.start N vs) H s1 := inv_start S hr.hd e0 hl r x
  refine PySem.W.kla_codeExpr (wpAny_mono (ht.run [] s1 (L2.start N vs) H Q I hq) (fun v s' hs => ?_) fun e s' hs => hs)
  obtain ⟨w', H', J, rv, z⟩ := hs
  exact ⟨w', H', J.os, J.bare, J.base, J.hok, rv, z⟩
/-- x(e, ..), x a local name that holds a lambda -/
def tLamCall (P : Program) (w : World) (K : PySem.W.Frag) (mg : Str → Option Value) (base : Heap) (k i : Nat) (ta : TA) : TE := fun σ H Q =>
  ∃ (f : Addr) (q : Str) (ps : Arguments) (bd : Expr) (sc : Scope) (sp : LSp), σ[i]? = some (some (.ref f)) ∧ LamAt H f q ps bd sc ∧ LamCode P w K mg base k q ps bd sc sp ∧
    ta σ H fun vs H1 => LamAt H1 f q ps bd sc ∧ sp vs H1 Q
section
variable {X : Cx} {k i : Nat} {x : Str} {p pos : Pos} {e : Expr} {es : List Expr} {ta : TA}
theorem fnAt_of {H : Hp} {s : Shared} {f : Addr} {q : Str} {ps : Arguments} {bd : Expr} {sc : Scope} (hok : HOk X.prog X.w H s.heap) (l : LamAt H f q ps bd sc) : PySem.W.FnAt f s.heap := by
  obtain ⟨c, hf, _⟩ := l
  obtain ⟨⟨pm, ctv, ho⟩, _, _⟩ := hok f _ hf
  exact ⟨_, _, _, _, ho⟩
theorem pe_callLam (hr : Room (k + 1) X.A) (hN : X.N[i]? = some x) (hv : Vis X.env.scope x) (ha : PA X (e :: es) ta)
    (hdb : (x == ("__debug__" : Str)) = false := by decide) (hcd : (x == ("__classdict__" : Str)) = false := by decide)
    (he : starEach (e :: es) X.env = (false, eval e X.env) :: starEach es X.env := by rfl) (hpl : (backTo pos (starEach es X.env)).any (·.1) = false := by rfl) :
    PE X (.Call (.Name x p) (e :: es) [] pos) (tLamCall X.prog X.w X.K X.mg X.base k i ta) := by
  refine ⟨fun pins s σ H Q I h => ?_⟩
  obtain ⟨f, q, ps, bd, sc, sp, hs, la, C, ht⟩ := h
  refine wpAny_Call_Name_kw (thn ((pe_var (pos := p) hN hv hdb hcd).run pins s σ H (fun v H1 => v = .ref f ∧ H1 = H) I ⟨.ref f, hs, rfl, rfl⟩) fun u s1 ⟨v, H1, I1, r1, q1⟩ => ?_)
  obtain ⟨rfl, rfl⟩ := q1
  obtain rfl : u = Value.ref f := r1
  refine PySem.W.callWith_F (fnAt_of I1.hok la) (thn (ha.run pos pins s1 σ _ _ I1 ht) fun us s2 ⟨vs, H2, I2, r, la2, hq⟩ => ⟨fnAt_of I2.hok la2, ?_⟩) he hpl
  show wpAny _ _ (call (.ref f) us) _ _ _
  refine wpAny_call (codeAny_mono (run_lam C la2 I2.env0 hr r hq) fun r' s' z => ?_)
  cases r' with
  | error e => exact (show False from z).elim
  | ok fl =>
    cases fl with
    | ret u => exact I2.after z
    | next => exact False.elim z
    | brk => exact False.elim z
    | cont => exact False.elim z
/-- a lambda's making, as an expression -/
def tLamNew (T : List (Addr × Str)) (q : Str) (ps : Arguments) (bd : Expr) (sc : Scope) : TE := fun σ H Q =>
  Tabs T H ∧ ∀ (f : Addr) (H2 : Hp), ExtN H H2 → Tabs T H2 → H f = none → LamAt H2 f q ps bd sc → Q (.ref f) H2
theorem pe_lam {T : List (Addr × Str)} {c P : Addr} {ps : Arguments} {bd : Expr} {sc : Scope} (TB : TabB X.base X.mg c P)
    (hcode : X.env.code = .ref c) (hm : (P, X.env.qual ++ "<lambda>") ∈ T) (hu : ∀ p ∈ T, p.1 = P → p.2 = X.env.qual ++ "<lambda>")
    (hdef : defaultsOf ps X.env = ([], []) := by rfl) (hclo : cloFrom X.env.cells sc.names [] = [] := by rfl) (hnf : ∀ y ∈ sc.names, y.2 ≠ .free := by decide +kernel) :
    PE X (.Lambda ps bd sc pos) (tLamNew T (X.env.qual ++ "<lambda>") ps bd sc) := by
  refine ⟨fun pins s σ H Q I h => ?_⟩
  exact lam_new I TB hcode hm hu h.1 hdef hclo hnf fun f H2 s' I2 e2 T2 nf la => ⟨.ref f, H2, I2, rfl, h.2 f H2 e2 T2 nf la⟩
end
end Own

set_option Elab.async false
set_option linter.all false
set_option maxRecDepth 100000
set_option maxHeartbeats 4000000
/-! exceptions of own classes held as values: made, their fields read, asked for their class -/
namespace PySem.W
open PySem PySem.Spec PySem.Calls PyProof.Rows
section
variable {prog : Program} {w : World} {A : Around} {E : Value → Shared → Prop} {s : Shared} {K : Frag} {x D : Addr} {ox : Obj} {od : Option Obj}
theorem own_bound {name : Str} {a g : Value} (hc : (clsIn K D).isSome = true) (ha : findIn K (.ref D) name = some (some a)) (hg : specialIn K a "__get__" = some (some g)) (ht : takesIn K a = some true) :
    findObj K D od name = some (.bind g a) := by
  rcases Option.isSome_iff_exists.mp hc with ⟨cd, hcd⟩
  simp [findObj, hcd, ha, hg, ht]
/-- e.__class__ of an exception, with or without a dict of its own -/
theorem own_class {Q : Option Value → Shared → Prop} (T : L2.ExcC K D) (X : K.In s.heap) (I : InstAt s.heap x ox D od) (h : Q (some (.ref D)) { s with toks := s.toks + 1 }) :
    wpAny (model prog w) A (getAttr? (.ref x) "__class__") Q E s := by
  have isCls : (clsIn K D).isSome = true := by
    rcases any_some T.hd with ⟨cd, hcd, _⟩
    rw [hcd]
    rfl
  have f0 := own_bound (od := od) isCls T.ha T.hn T.ht
  rcases s with ⟨hp, g, d, t, os⟩
  have a0 := I.type (M := model prog w)
  have a1 := looks_findIn (M := model prog w) X T.hg
  have a2 := looks_findIn (M := model prog w) X T.hk
  have a3 := looks_find (M := model prog w) X I f0
  have isB : Looks (model prog w) hp (isInstance (.ref x) (.type "BaseException")) true := a0.andThen (looks_subIn X T.hs)
  have n1 : (onTheHeap (Value.ref D) && Value.builtin "BaseException.__getattribute__" == Value.builtin "object.__getattribute__") = false := by
    have z : (Value.builtin "BaseException.__getattribute__" == Value.builtin "object.__getattribute__") = false := by decide +kernel
    rw [z]
    rfl
  have n2 : (false && onTheHeap (Value.builtin "BaseException.__getattribute__")) = false := rfl
  unfold getAttr? getAttrBy? getAttrBy
  refine wpAny_bind (wpAny_mkText (wpAny_bind (wpAny_attempt (wpAny_holding (wpAny_bind (a0.at (wpAny_bind (a1.at ?_))))))))
  show wpAny _ _ (if (onTheHeap (Value.ref D) && Value.builtin "BaseException.__getattribute__" == Value.builtin "object.__getattribute__") = true then _ else _) _ _ _
  rw [n1, if_neg Bool.false_ne_true]
  unfold getAttrByItsOwn hookBefore
  refine wpAny_bind ?_
  rw [if_pos (show onTheHeap (Value.ref D) = true from rfl)]
  refine a2.at (wpAny_bind (wpAny_attempt (wpAny_holding ?_)))
  unfold callGetattribute
  rw [n2, if_neg Bool.false_ne_true]
  unfold boundAndCalled
  rw [PySem.F.excAttr_ValueError.ga.bind (.ref x)]
  refine wpAny_bind (wpAny_pure ?_)
  show wpAny _ _ (call (.builtin "BaseException.__getattribute__") [.ref x, .str "__class__" t]) _ _ _
  refine wpAny_call (codeAny_call_builtin PySem.F.excAttr_ValueError.ga.plain PySem.F.entry_bexc_ga ?_)
  refine @check_slot (model prog w) _ _ ⟨hp, g, d, t + 1, os⟩ "BaseException.__getattribute__" "BaseException" "__getattribute__" (.ref x) [.str "__class__" t] [] _ (by decide +kernel) (by decide +kernel) isB (PySem.F.args_bexc_ga (.ref x) (.str "__class__" t)) ?_
  unfold Builtin.«object.__getattribute__»
  refine wpAny_bind (wpAny_of_eq (a := ((Value.ref x : Value), [Value.str "__class__" t])) (by first | rfl | (simp only [slotArgs]; rfl)) ?_)
  refine wpAny_bind (wpAny_pure (wpAny_bind (a0.at (wpAny_bind (a3.at ?_)))))
  show wpAny _ _ (holding [Value.builtin "object.__class__"] (call (.builtin "getset_descriptor.__get__") [.builtin "object.__class__", .ref x, .ref D]) >>= ret) _ _ _
  refine wpAny_bind (wpAny_holding (wpAny_call (class_get (s := ⟨hp, g, d, t + 1, os⟩) (ox := ox) (od := od) X I T.hm (wpAny_pure ?_))))
  show wpAny _ _ (handedOut (.ref D)) _ _ _
  rw [handedOut_of (v := .ref D) rfl]
  first
    | exact wpAny_pure (wpAny_pure h)
    | exact wpAny_pure h
    | exact wpAny_pure (wpAny_bind (wpAny_pure (wpAny_pure h)))
theorem own_kit (T : L2.ExcC K D) : KitX K (.ref x) (.ref D) (fun h => ∃ ox od, InstAt h x ox D od) where
  ty := fun _ _ _ ⟨_, _, I⟩ => I.type
  it := fun _ _ X _ => by
    rcases any_some T.hd with ⟨cd, hcd, _⟩
    unfold clsIn at hcd
    split at hcd
    · rename_i c1 d1 cd1 sl1 ho
      intro A1 Q1 E1 s1 k q
      unfold isType loadHead
      exact wpAny_bind (wpAny_loadPart (k _ _ (X _ _ ho)) (wpAny_pure q))
    · cases hcd
  ne := fun h tp dd its n sl X htp => by
    rcases any_some T.hd with ⟨cd, hcd, _⟩
    refine Bool.eq_false_iff.mpr fun q => ?_
    obtain rfl : D = tp := Value.ref.inj (beq_iff_eq.mp q)
    unfold clsIn at hcd
    split at hcd
    · rename_i c1 d1 cd1 sl1 ho
      have z := (X _ _ ho).symm.trans htp
      cases z
    · cases hcd
  ca := fun X ⟨_, _, I⟩ k => own_class T X I k
end
end PySem.W
namespace Own
open PySem PySem.Spec PyProof.Rows L2
/-- at e: an exception of the class at C, made and not raised, whose own dict (where it has one) holds fs -/
structure ExcAt (H : Hp) (e C : Addr) (fs : List (Str × V)) : Prop where
  ex : ∃ d, H e = some (exo e C d) ∧ ((d = none ∧ fs = []) ∨ ∃ dd, d = some dd ∧ H dd = some (exd dd fs))
theorem exd_ne {d : Addr} {fs : List (Str × V)} {t : Array Value} : exd d fs ≠ .tbl t := fun z => by
  have z' : HO.ext _ = HO.tbl t := z
  cases z'
theorem ExcAt.keep {H H' : Hp} {e C : Addr} {fs : List (Str × V)} (x : ExcAt H e C fs) (k : ∀ b o, H b = some o → (∀ t, o ≠ .tbl t) → H' b = some o) : ExcAt H' e C fs := by
  obtain ⟨d, h1, h2⟩ := x.ex
  refine ⟨d, k _ _ h1 fun t => exo_tbl, ?_⟩
  rcases h2 with h2 | ⟨dd, e2, h2⟩
  · exact .inl h2
  · exact .inr ⟨dd, e2, k _ _ h2 fun t => exd_ne⟩
theorem ExcAt.inst {P : Program} {w : World} {H : Hp} {h : Heap} {e C : Addr} {fs : List (Str × V)} (x : ExcAt H e C fs) (hok : HOk P w H h) : ∃ ox od, PySem.W.InstAt h e ox C od := by
  obtain ⟨d, h1, h2⟩ := x.ex
  obtain ⟨t, ho⟩ := exo_at hok h1
  rcases h2 with ⟨rfl, _⟩ | ⟨dd, rfl, h2⟩
  · exact ⟨_, none, ho, rfl, rfl, trivial⟩
  · obtain ⟨mA, hn, _⟩ := exd_at hok h2
    obtain ⟨od, hd, _⟩ := lookIn_ns hn
    exact ⟨_, some od, ho, rfl, rfl, hd⟩
/-- isinstance(e, c) -/
def rIsE (K : PySem.W.Frag) : List V → Hp → VK → Prop := fun xs H Q =>
  ∃ (a D : Addr) (fs : List (Str × V)) (c : V) (cv : Value) (b : Bool), xs = [.ref a, c] ∧ ExcAt H a D fs ∧ ExcC K D ∧ ClsV c cv ∧ PySem.W.kitOne K (.ref D) cv = some b ∧ Q (.bl b) H
theorem call_isE {X : Cx} : CallR X (.builtin "isinstance") (rIsE X.K) := by
  intro pins s σ H xs us Q I r h
  obtain ⟨a, D, fs, c, cv, b, rfl, x, T, k, e, q⟩ := h
  obtain ⟨u1, u2, rfl, r1, r2⟩ := vals2 r
  obtain rfl : u1 = Value.ref a := r1
  obtain rfl := k.eq r2
  exact PySem.W.kia_one (PySem.W.own_kit T) I.kIn (x.inst I.hok) e (fun z => nomatch z) fun tk => ⟨.bl b, H, I.tok tk, rfl, q⟩
/-- e.f -/
def tExF (K : PySem.W.Frag) (ta : TE) (f : Str) : TE := fun σ H Q => ta σ H fun x H1 =>
  ∃ (a C : Addr) (fs : List (Str × V)) (v : V), x = .ref a ∧ ExcAt H1 a C fs ∧ ExcC K C ∧ PySem.W.findIn K (.ref C) f = some none ∧ fs.lookup f = some v ∧ Q v H1
section
variable {X : Cx} {e : Expr} {es : List Expr} {ta : TE} {t tk : TA} {f x : Str} {p pos kpos : Pos}
theorem pe_exF (he : PE X e ta) (hb : attributeBase e f X.env (eval e X.env) = eval e X.env := by rfl) : PE X (.Attribute e f pos) (tExF X.K ta f) := by
  refine ⟨fun pins s σ H Q I h => attr_of hb (thn (he.run pins s σ H _ I h) fun u s1 hh => ?_)⟩
  obtain ⟨y, H1, I1, ry, a, C, fs, v, rfl, xa, T, hno, hl, q⟩ := hh
  obtain rfl : u = Value.ref a := ry
  obtain ⟨d, h1, h2⟩ := xa.ex
  obtain ⟨t1, ho⟩ := exo_at I1.hok h1
  rcases h2 with ⟨_, rfl⟩ | ⟨dd, rfl, h2⟩
  · cases hl
  · obtain ⟨mA, hn, rel⟩ := exd_at I1.hok h2
    obtain ⟨od, hd, lk⟩ := lookIn_ns hn
    have r0 := rel f
    rw [hl] at r0
    obtain ⟨w0, hw, rw0⟩ := RelO.some_of r0
    have J : PySem.W.InstAt s1.heap a _ C (some od) := ⟨ho, rfl, rfl, hd⟩
    exact HandSPX.exc_get I1.kIn J T.hg T.hk T.hs (PySem.W.findObj_own T.hd hno rfl (by rw [lk, hw])) (handed_of rw0) ⟨v, H1, I1.tok _, rw0, q⟩
end
end Own

set_option Elab.async false
set_option linter.all false
set_option maxRecDepth 100000
set_option maxHeartbeats 4000000
/-! C(e, ..), C(k = e, ..), C() of an own exception class, as values -/
namespace PySem.HandSPX
open Builtin Builtin.ObjectAttr
section
variable {M : Model} {prog : Program} {w : World} {A : Around} {E : Value → Shared → Prop} {R : Result → Shared → Prop} {h : Heap} {g : Array GenState} {d : Drawn} {t : Nat} {os : OsState}
variable {nm q : Str} {C N : Addr} {bs bm bmB : List Value} {hdct : Bool} {sn : List Str} {sub : List Value} {ab : Bool} {col : Option Bool} {dd : Option Addr} {k0 k1 k2 k3 k5 : Option Value} {B newId initId : String}
theorem kw_check (F : ExcBaseFacts B newId initId bmB) (hT : ∀ X : String, bm.contains (.type X) = bmB.contains (.type X)) {us : List Value} {kw : List (Str × Value)} {Q : Unit → Shared → Prop}
    (hC : h.get? C = some (excClassObj nm q C N bs bm hdct sn sub ab col dd k0 k1 k2 k3 k5 newId)) (k : Q () ⟨h, g, d, t, os⟩) : wpAny M A (checkBuiltinCall newId ⟨.ref C :: us, kw⟩) Q E ⟨h, g, d, t, os⟩ := by
  have inB : (Value.ref C :: bm).contains (.type B) = true := by
    rw [List.contains_cons, hT, F.hasB]
    exact Bool.or_true _
  have st := F.noStar
  simp only [checkBuiltinCall, F.newKind, F.newSplit, F.newRow]
  repeat (first
    | refine wpAny_loadPart_at hC ?_
    | (refine wpAny_isSubtype_exc hC ?_; rw [inB])
    | refine wpAny_staticBase_exc hC ?_
    | refine wpAny_madeBy_exc hC ?_
    | simp only [bne_self_eq_false, Bool.false_eq_true, if_false]
    | wp_step)
  exact k
theorem kw_new (F : ExcBaseFacts B newId initId bmB) (hT : ∀ X : String, bm.contains (.type X) = bmB.contains (.type X)) {us : List Value} {kw : List (Str × Value)}
    (hC : h.get? C = some (excClassObj nm q C N bs bm hdct sn sub ab col dd k0 k1 k2 k3 k5 newId))
    (k : R (.ok (.ret (.ref (h.objs.size + 1)))) ⟨(h.push (W.kdv_tup us)).push (excO C h.objs.size), g, d, t, os⟩) (hl : us.length ≤ sizeLine) :
    codeAny (model prog w) A (.builtin newId ⟨.ref C :: us, kw⟩) R ⟨h, g, d, t, os⟩ := by
  have fe := F.ends
  have inB : (Value.ref C :: bm).contains (.type B) = true := by
    rw [List.contains_cons, hT, F.hasB]
    exact Bool.or_true _
  have inA : (Value.ref C :: bm).contains (.type "AttributeError") = false := by
    rw [List.contains_cons, hT, F.noAttr]
    rfl
  have inN : (Value.ref C :: bm).contains (.type "NameError") = false := by
    rw [List.contains_cons, hT, F.noName]
    rfl
  refine codeAny_builtinAt F.entry ?_
  unfold Builtin.«BaseException.__new__»
  refine wpAt_bind ?_
  show wpAt _ _ _ (stack >>= _) _ _ _
  refine wpAt_bind (wpAt_stack fun p below => wpAt_of_wpAny ?_)
  wp_walk
  refine wpAt_of_wpAny ?_
  rw [F.owner]
  repeat (first
    | with_reducible refine wpAny_madeHere_exc F.canon hC ?_
    | with_reducible refine wpAny_loadPart_at hC ?_
    | (with_reducible refine wpAny_isSubtype_exc hC ?_; first | rw [inB] | rw [inA] | rw [inN])
    | wp_step)
  show R _ _
  rw [Heap.size_push]
  exact k
theorem kw_typecall (F : ExcBaseFacts B newId initId bmB) (hT : ∀ X : String, bm.contains (.type X) = bmB.contains (.type X)) {us : List Value} {kw : List (Str × Value)} {fI : Addr} {Q : Fin → Shared → Prop}
    (hC : h.get? C = some (excClassObj nm q C N bs bm hdct sn sub ab col dd k0 k1 k2 k3 k5 newId))
    (hi : W.Looks (model prog w) h (typeLookup (.ref C) "__init__") (some (.ref fI))) (hb : ∀ self, W.Looks (model prog w) h (bindSpecial (.ref fI) self) (.ref fI, [self])) (hl : us.length ≤ sizeLine)
    (k : codeAny (model prog w) A (.call (.ref fI) ⟨.ref (h.objs.size + 1) :: us, kw⟩)
      (fun r s' => match r with | .ok (.ret v) => v = .none ∧ Q (.done (.ret (.ref (h.objs.size + 1)))) s' | .ok _ => False | .error e => E e s')
      ⟨(h.push (W.kdv_tup us)).push (excO C h.objs.size), g, d, t, os⟩) :
    wpAny (model prog w) A (Builtin.«type.__call__» ⟨.ref C :: us, kw⟩) Q E ⟨h, g, d, t, os⟩ := by
  repeat (first
    | with_reducible refine wpAny_loadPart_at hC ?_
    | with_reducible refine wpAny_madeBy_exc hC ?_
    | wp_step)
  refine codeAny_call_builtin_code (Code.quiet_builtin _ F.quiet) (kw_check F hT hC (kw_new F hT hC ?_ hl))
  show wpAny _ _ _ _ _ _
  have kp : ∀ b o, h.get? b = some o → ((h.push (W.kdv_tup us)).push (excO C h.objs.size)).get? b = some o := fun b o e => Heap.get?_push_of_some _ (Heap.get?_push_of_some _ e)
  have hC1 := kp _ _ hC
  have hE : ((h.push (W.kdv_tup us)).push (excO C h.objs.size)).get? (h.objs.size + 1) = some (excO C h.objs.size) := by heap_get
  have inC : (Value.ref C :: bm).contains (.ref C) = true := by simp
  have ii := hi.keeps kp
  have bb := (hb (.ref (h.objs.size + 1))).keeps kp
  unfold isInstance
  repeat (first
    | with_reducible refine wpAny_loadPart_at hE ?_
    | (with_reducible refine wpAny_isSubtype_exc hC1 ?_; rw [inC])
    | wp_step)
  show wpAny _ _ (typeLookup (.ref C) _) _ _ _
  refine ii.at (wpAny_holding (wpAny_bind (bb.at (wpAny_bind (wpAny_call (codeAny_mono k fun r s' z => ?_))))))
  rcases r with e | (v | _ | _ | _) <;> first | exact z | exact z.elim | skip
  obtain ⟨rfl, z⟩ := z
  first
    | exact wpAny_pure (wpAny_pure z)
    | (wp_walk; exact z)
theorem kw_call (F : ExcBaseFacts B newId initId bmB) (hT : ∀ X : String, bm.contains (.type X) = bmB.contains (.type X)) {us : List Value} {kw : List (Str × Value)} {fI : Addr}
    (hC : h.get? C = some (excClassObj nm q C N bs bm hdct sn sub ab col dd k0 k1 k2 k3 k5 newId))
    (hi : W.Looks (model prog w) h (typeLookup (.ref C) "__init__") (some (.ref fI))) (hb : ∀ self, W.Looks (model prog w) h (bindSpecial (.ref fI) self) (.ref fI, [self])) (hl : us.length ≤ sizeLine)
    (k : codeAny (model prog w) (A.under (.builtin "type.__call__" ⟨.ref C :: us, kw⟩)) (.call (.ref fI) ⟨.ref (h.objs.size + 1) :: us, kw⟩) (W.InitBack (h.objs.size + 1) R)
      ⟨(h.push (W.kdv_tup us)).push (excO C h.objs.size), g, d, t, os⟩) :
    codeAny (model prog w) A (.call (.ref C) ⟨us, kw⟩) R ⟨h, g, d, t, os⟩ := by
  have l1 := tc_lookup
  have l2 := tc_bind (.ref C)
  have ty : (⟨h, g, d, t, os⟩ : Shared).TypeIs (.ref C) "type" := ⟨_, hC, rfl⟩
  refine codeAny_of_tree ?_
  show wpAny _ _ (callAny (.ref C) _) _ _ _
  repeat (any_goals (first
    | assumption
    | with_reducible refine wpAny_loadPart_at hC ?_
    | wp_step))
  refine ⟨rfl, ?_⟩
  refine codeAny_call_builtin_at (Code.quiet_builtin _ (by decide +kernel)) entry_typeCall (wpAny_check_type_call_sub hC (kw_typecall F hT hC hi hb hl ?_))
  refine codeAny_mono k fun r s' z => ?_
  rcases r with e | (v | _ | _ | _) <;> exact z
end
end PySem.HandSPX

set_option Elab.async false
set_option linter.all false
set_option maxRecDepth 100000
set_option maxHeartbeats 4000000
namespace Own
open PySem PySem.Spec PyProof.Rows L2
/-- a class with its own __init__ (at fI), over ValueError -/
structure ExcI (K : PySem.W.Frag) (C fI : Addr) : Prop where
  ox : OexC K C
  init : PySem.W.findIn K (.ref C) "__init__" = some (some (.ref fI))
  fn : PySem.W.typeIn K (.ref fI) = some (.type "function")
/-- a new exception of the class at C, its __init__ called with it and the values -/
def tMkE (C : Addr) (sp : Sp) (ta : TA) : TE := fun σ H Q => ta σ H fun vs H1 => vs.length ≤ 1000 ∧ ∀ a, H1 a = none →
  sp (.ref a :: vs) (upd H1 a (exo a C none)) (fun v H2 => v = .non ∧ Q (.ref a) H2) E0
def tMkK (C : Addr) (sp : Sp) (rV : List V → List V) (tk : TA) : TE := fun σ H Q => tk σ H fun zs H1 => ∀ a, H1 a = none →
  sp (.ref a :: rV zs) (upd H1 a (exo a C none)) (fun v H2 => v = .non ∧ Q (.ref a) H2) E0
section
variable {X : Cx} {e : Expr} {es : List Expr} {kws : List Keyword} {t tk : TA} {x : Str} {p pos : Pos} {C fI : Addr} {k : Nat} {fd : FuncData} {ps ks : List Str} {sp : Sp}
/-- the making, behind the arguments -/
theorem run_mkE {us ws : List Value} {kw : List (Str × Value)} {vs : List V} {pins : List (Addr × Obj)} {σ : L2.St} {H : Hp} {s : Shared} {Q : VK} (T : ExcI X.K C fI) (G : FnOk X.prog X.w X.K X.mg X.base CX0 k fI fd ps sp) (hr : Room (k + 1) X.A)
    (I : Inv X pins σ H s) (hl : us.length ≤ sizeLine) (rel : ∀ a : Addr, Vals (.ref a :: vs) (.ref a :: ws)) (bind : ∀ (a : Addr) (s' : Shared), X.K.In s'.heap → (Value.ref a :: ws).length = ps.length → BindsTo s' fd ⟨.ref a :: us, kw⟩ (ps.zip (.ref a :: ws)))
    (h : ∀ a, H a = none → sp (.ref a :: vs) (upd H a (exo a C none)) (fun v H2 => v = .non ∧ Q (.ref a) H2) E0) :
    wpAny (model X.prog X.w) X.A (call (.ref C) us kw) (EP X pins σ Q) X.xe s := by
  obtain ⟨nm, q, N, bs, bm, sn, sub, ab, col, dd, k0, k1, k2, k3, k5, hC, hbm⟩ := T.ox.cls
  obtain ⟨hp, g, dr, tt, os⟩ := s
  have lt : hp.objs.size ≤ hp.objs.size + 1 := Nat.le_succ _
  have q0 := h (hp.objs.size + 1) (I.hok.fresh lt)
  have kp : ∀ b o, hp.get? b = some o → ((hp.push (PySem.W.kdv_tup us)).push (PySem.HandSPX.excO C hp.objs.size)).get? b = some o := fun b o z => Heap.get?_push_of_some _ (Heap.get?_push_of_some _ z)
  have hE : ((hp.push (PySem.W.kdv_tup us)).push (PySem.HandSPX.excO C hp.objs.size)).get? (hp.objs.size + 1) = some (PySem.HandSPX.excO C hp.objs.size) := by heap_get
  have I2 : Inv X pins σ (upd H (hp.objs.size + 1) (exo (hp.objs.size + 1) C none)) ⟨(hp.push (PySem.W.kdv_tup us)).push (PySem.HandSPX.excO C hp.objs.size), g, dr, tt, os⟩ :=
    I.laid (t' := tt) (a := hp.objs.size + 1) (o := exo (hp.objs.size + 1) C none) (h' := (hp.push (PySem.W.kdv_tup us)).push (PySem.HandSPX.excO C hp.objs.size)) kp lt (exo_ok hE)
  have rv := rel (hp.objs.size + 1)
  have ll : (Value.ref (hp.objs.size + 1) :: ws).length = ps.length := rv.length.symm.trans (G.len _ _ _ _ q0)
  refine wpAny_call (PySem.HandSPX.kw_call F.excBase_ValueError (fun Y => PySem.HandSPX.refsVE_contains Y bm hbm) (I.kIn _ _ hC) (PySem.W.looks_findIn I.kIn T.init) (fun self => PySem.W.bind_fn I.kIn self T.fn) hl ?_)
  refine codeAny_mono (G.run _ X.stack _ _ ⟨Value.ref (hp.objs.size + 1) :: us, kw⟩ (Value.ref (hp.objs.size + 1) :: ws) _ _ E0 (hr.make C us kw) (I2.env0.make C us kw) (bind _ _ I2.kIn ll) rv q0) fun r s' z => ?_
  cases r with
  | error er => exact (show False from z).elim
  | ok fl =>
    cases fl with
    | ret u =>
      obtain ⟨v, H2, os2, bare2, un2, hok2, rv2, ev, q2⟩ := z
      subst ev
      exact ⟨rv2, I2.after ⟨V.ref (hp.objs.size + 1), H2, os2, bare2, un2, hok2, rfl, q2⟩⟩
    | next => exact False.elim z
    | brk => exact False.elim z
    | cont => exact False.elim z
theorem pe_mkE (T : ExcI X.K C fI) (G : FnOk X.prog X.w X.K X.mg X.base CX0 k fI fd ps sp) (hr : Room (k + 1) X.A) (hb : Binds X.K fd ps []) (hg : Gl X x) (hm : X.mg x = some (.ref C)) (ha : PA X (e :: es) t)
    (hdb : (x == ("__debug__" : Str)) = false := by decide) (he : starEach (e :: es) X.env = (false, eval e X.env) :: starEach es X.env := by rfl) (hpl : (backTo pos (starEach es X.env)).any (·.1) = false := by rfl) :
    PE X (.Call (.Name x p) (e :: es) [] pos) (tMkE C sp t) := by
  refine ⟨fun pins s σ H Q I h => ?_⟩
  refine wpAny_Call_Name_kw (ld_glob I hg hm ?_ hdb)
  refine PySem.W.callWith_K (h₀ := X.base) I.ok.mod.kin T.ox.kC (thn (ha.run pos pins s σ H _ I h) fun us s1 ⟨vs, H1, I1, r1, hz, q1⟩ => ⟨I1.kIn, ?_⟩) he hpl
  show wpAny _ _ (call (.ref C) us) _ _ _
  have hl : us.length ≤ sizeLine := by
    rw [← Paired.length r1, sizeLine_eq]
    omega
  refine run_mkE T G hr I1 hl (fun a => .cons rfl r1) (fun a s' kin ll => ?_) q1
  have b := hb s' (.ref a :: us) kin (by rw [List.append_nil]; exact ll)
  rw [List.append_nil] at b
  exact b
theorem pe_mkK {r : List Value → List Value} {rV : List V → List V} (T : ExcI X.K C fI) (G : FnOk X.prog X.w X.K X.mg X.base CX0 k fI fd ps sp) (hr : Room (k + 1) X.A)
    (hb : ∀ (a : Addr) (ws : List Value) (s' : Shared), X.K.In s'.heap → (Value.ref a :: r ws).length = ps.length → BindsTo s' fd ⟨[.ref a], ks.zip ws⟩ (ps.zip (.ref a :: r ws)))
    (hrel : ∀ {zs : List V} {ws : List Value}, Vals zs ws → Vals (rV zs) (r ws)) (hg : Gl X x) (hm : X.mg x = some (.ref C)) (hkw : PK X kws tk)
    (hall : (backToKw pos (keywordEach kws X.env)).all (·.1.isSome) = true := by rfl) (hks : (backToKw pos (keywordEach kws X.env)).filterMap (·.1) = ks := by rfl)
    (hdb : (x == ("__debug__" : Str)) = false := by decide) (hpl : ((backTo pos (starEach [] X.env)).any (·.1) || (backToKw pos (keywordEach kws X.env)).any (·.1.isNone)) = false := by rfl) :
    PE X (.Call (.Name x p) [] kws pos) (tMkK C sp rV tk) := by
  refine ⟨fun pins s σ H Q I h => ?_⟩
  refine wpAny_Call_Name_kw (ld_glob I hg hm ?_ hdb)
  refine PySem.W.callWith_KW0 (h₀ := X.base) I.ok.mod.kin T.ox.kC hall ?_ hpl
  refine thn (hkw.run pos pins s σ H _ I h) fun ws s2 ⟨zs, H2, I2, rz, q2⟩ => ⟨I2.kIn, ?_⟩
  rw [hks]
  exact run_mkE (us := []) T G hr I2 (Nat.zero_le _) (fun a => .cons rfl (hrel rz)) (fun a s' kin ll => hb a ws s' kin ll) q2
/-- C(), C without an __init__ of its own -/
def tMk0 (C : Addr) : TE := fun _ H Q => ∀ a, H a = none → Q (.ref a) (upd H a (exo a C none))
theorem pe_mk0 {bmB : List Value} {B newId initId : String} (F : ExcBaseFacts B newId initId bmB) (q : PySem.W.excIn X.K C bmB newId = true) (gC : X.mg x = some (.ref C)) (kC : PySem.W.keepIn X.K (.ref C) = true) (hg : Gl X x)
    (hdb : (x == ("__debug__" : Str)) = false := by decide) : PE X (.Call (.Name x p) [] [] pos) (tMk0 C) := by
  refine ⟨fun pins s σ H Q I h => ?_⟩
  refine wpAny_Call_Name_kw (ld_glob I hg gC ?_ hdb)
  refine PySem.W.callWith_K0 I.kIn kC ?_
  show wpAny _ _ (call (.ref C) []) _ _ _
  obtain ⟨bm, N, nm, qn, bs, hdct, sn, sub, ab, col, dd, k0, k1, k2, k3, k5, mN, hC, hN, hni, T⟩ := exc_obj I.kIn q
  refine wpAny_call_exc_subT F T hC hN hni (fun h' a hm => ?_) (Nat.zero_le _)
  have hn : H a = none := I.hok.gone hm.new
  obtain ⟨t0, ht, _, _⟩ := hm.there
  exact ⟨.ref a, upd H a (exo a C none), I.laidN hm.keeps hm.new hn (exo_ok ht), rfl, h a hn⟩
end
end Own

set_option Elab.async false
set_option linter.all false
set_option maxRecDepth 100000
set_option maxHeartbeats 4000000
/-! error classes whose __init__ keeps its arguments as fields: made by place and by names -/
namespace Own
open PySem PySem.Spec PyProof.Rows L2
/-- all but what stands at a (and tables) stays -/
def But1 (a : Addr) (H H' : Hp) : Prop := ∀ b o, b ≠ a → H b = some o → H' b = some o
def spInit1 (C : Addr) (f : Str) : Sp := fun vs H Q _ => ∃ (a : Addr) (v : V), vs = [.ref a, v] ∧ H a = some (exo a C none) ∧ ∀ H', But1 a H H' → ExcAt H' a C [(f, v)] → Q .non H'
def spInit2 (C : Addr) (f g : Str) : Sp := fun vs H Q _ => ∃ (a : Addr) (v w : V), vs = [.ref a, v, w] ∧ H a = some (exo a C none) ∧ ∀ H', But1 a H H' → ExcAt H' a C [(g, w), (f, v)] → Q .non H'
theorem init1_end {H : Hp} {a C dx : Addr} {f : Str} {v : V} (ha : H a = some (exo a C none)) (hd : H dx = none) (ne : dx ≠ a) :
    But1 a H (upd (upd H dx (exd dx [(f, v)])) a (exo a C (some dx))) ∧ ExcAt (upd (upd H dx (exd dx [(f, v)])) a (exo a C (some dx))) a C [(f, v)] := by
  refine ⟨fun b o hb e => ?_, ⟨some dx, upd_same, .inr ⟨dx, rfl, ?_⟩⟩⟩
  · rw [upd_ne hb, upd_ne (ne_of_none e hd)]
    exact e
  · rw [upd_ne ne]
    exact upd_same
theorem init2_end {H : Hp} {a C dx : Addr} {f g : Str} {v w : V} (ha : H a = some (exo a C none)) (hd : H dx = none) (ne : dx ≠ a) :
    But1 a H (upd (upd (upd H dx (exd dx [(f, v)])) a (exo a C (some dx))) dx (exd dx [(g, w), (f, v)])) ∧ ExcAt (upd (upd (upd H dx (exd dx [(f, v)])) a (exo a C (some dx))) dx (exd dx [(g, w), (f, v)])) a C [(g, w), (f, v)] := by
  refine ⟨fun b o hb e => ?_, ⟨some dx, ?_, .inr ⟨dx, rfl, upd_same⟩⟩⟩
  · have nb := ne_of_none e hd
    rw [upd_ne nb, upd_ne hb, upd_ne nb]
    exact e
  · rw [upd_ne ne.symm]
    exact upd_same
/-- what is known of a class of one field -/
structure E1 (P : Program) (w : World) (K : PySem.W.Frag) (mg : Str → Option Value) (base : Heap) (x f : Str) (C : Addr) : Prop where
  g : mg x = some (.ref C)
  ec : ExcC K C
  no : PySem.W.findIn K (.ref C) f = some none
  ex : ∃ (fI : Addr) (fd : FuncData), ExcI K C fI ∧ FnOk P w K mg base CX0 1 fI fd ["self", f] (spInit1 C f) ∧ Binds K fd ["self", f] [] ∧ ∀ (a : Addr) (u : Value) (s' : Shared), BindsTo s' fd ⟨[.ref a], [(f, u)]⟩ [("self", .ref a), (f, u)]
structure E2 (P : Program) (w : World) (K : PySem.W.Frag) (mg : Str → Option Value) (base : Heap) (x f h : Str) (C : Addr) : Prop where
  g : mg x = some (.ref C)
  ec : ExcC K C
  no : PySem.W.findIn K (.ref C) f = some none
  no2 : PySem.W.findIn K (.ref C) h = some none
  ex : ∃ (fI : Addr) (fd : FuncData), ExcI K C fI ∧ FnOk P w K mg base CX0 1 fI fd ["self", f, h] (spInit2 C f h) ∧ Binds K fd ["self", f, h] [] ∧ ∀ (a : Addr) (u v : Value) (s' : Shared), BindsTo s' fd ⟨[.ref a], [(h, v), (f, u)]⟩ [("self", .ref a), (f, u), (h, v)]
/-- a new exception that holds the value -/
def tE1 (C : Addr) (f : Str) (te : TE) : TE := fun σ H Q => te σ H fun v H1 => ∀ a H2, H1 a = none → (∀ b o, H1 b = some o → H2 b = some o) → ExcAt H2 a C [(f, v)] → Q (.ref a) H2
def tE2 (C : Addr) (f h : Str) (te tu : TE) : TE := fun σ H Q => te σ H fun v H1 => tu σ H1 fun u H2 => ∀ a H3, H2 a = none → (∀ b o, H2 b = some o → H3 b = some o) → ExcAt H3 a C [(h, u), (f, v)] → Q (.ref a) H3
def tE2k (C : Addr) (f h : Str) (te tu : TE) : TE := fun σ H Q => te σ H fun u H1 => tu σ H1 fun v H2 => ∀ a H3, H2 a = none → (∀ b o, H2 b = some o → H3 b = some o) → ExcAt H3 a C [(h, u), (f, v)] → Q (.ref a) H3
def tE0 (C : Addr) : TE := fun _ H Q => ∀ a H2, H a = none → (∀ b o, H b = some o → H2 b = some o) → ExcAt H2 a C [] → Q (.ref a) H2
theorem but_new {H H' : Hp} {a : Addr} {o : HO} (n : H a = none) (b : But1 a (upd H a o) H') : ∀ c u, H c = some u → H' c = some u := fun c u e => b c u (ne_of_none e n) (by rw [upd_ne (ne_of_none e n)]; exact e)
section
variable {X : Cx} {e e2 : Expr} {te tu : TE} {x f h : Str} {p pos kp kp2 : Pos} {C : Addr}
theorem PE.imp {t t' : TE} (hp : PE X e t) (k : ∀ σ H Q, t' σ H Q → t σ H Q) : PE X e t' := ⟨fun pins s σ H Q I q => hp.run pins s σ H Q I (k σ H Q q)⟩
theorem TE_mono_of {te : TE} : True := trivial
theorem pe_E1 (E : E1 X.prog X.w X.K X.mg X.base x f C) (hr : Room 2 X.A) (hg : Gl X x) (he : PE X e te) (mono : ∀ σ H Q Q', (∀ v H1, Q v H1 → Q' v H1) → te σ H Q → te σ H Q')
    (hdb : (x == ("__debug__" : Str)) = false := by decide) (hs : starEach [e] X.env = (false, eval e X.env) :: starEach [] X.env := by rfl) : PE X (.Call (.Name x p) [e] [] pos) (tE1 C f te) := by
  obtain ⟨fI, fd, T, G, hb, _⟩ := E.ex
  refine PE.imp (pe_mkE (k := 1) T G hr hb hg E.g (pa_cons he pa_nil hs) hdb hs (by rfl)) fun σ H Q q => ?_
  refine mono σ H _ _ (fun v H1 q1 => ?_) q
  refine ⟨by show 1 ≤ 1000; decide, fun a na => ⟨a, v, rfl, upd_same, fun H2 b x2 => ⟨rfl, q1 a H2 na (but_new na b) x2⟩⟩⟩
theorem pe_E1k (E : E1 X.prog X.w X.K X.mg X.base x f C) (hr : Room 2 X.A) (hg : Gl X x) (he : PE X e te) (mono : ∀ σ H Q Q', (∀ v H1, Q v H1 → Q' v H1) → te σ H Q → te σ H Q')
    (hdb : (x == ("__debug__" : Str)) = false := by decide) : PE X (.Call (.Name x p) [] [⟨some f, e, kp⟩] pos) (tE1 C f te) := by
  obtain ⟨fI, fd, T, G, _, hb⟩ := E.ex
  refine PE.imp (pe_mkK (k := 1) (ks := [f]) (r := id) (rV := id) T G hr (fun a ws s' _ hl => ?_) (fun z => z) hg E.g (pk_cons he pk_nil) (by rfl) (by rfl) hdb (by rfl)) fun σ H Q q => ?_
  · match ws, hl with
    | [u], _ => exact hb a u s'
  · refine mono σ H _ _ (fun v H1 q1 => ?_) q
    exact fun a na => ⟨a, v, rfl, upd_same, fun H2 b x2 => ⟨rfl, q1 a H2 na (but_new na b) x2⟩⟩
theorem pe_E2 (E : E2 X.prog X.w X.K X.mg X.base x f h C) (hr : Room 2 X.A) (hg : Gl X x) (he : PE X e te) (he2 : PE X e2 tu) (mono : ∀ σ H Q Q', (∀ v H1, Q v H1 → Q' v H1) → te σ H Q → te σ H Q') (mono2 : ∀ σ H Q Q', (∀ v H1, Q v H1 → Q' v H1) → tu σ H Q → tu σ H Q')
    (hdb : (x == ("__debug__" : Str)) = false := by decide) (hs : starEach [e, e2] X.env = (false, eval e X.env) :: starEach [e2] X.env := by rfl) (hs2 : starEach [e2] X.env = (false, eval e2 X.env) :: starEach [] X.env := by rfl) (hpl : (backTo pos (starEach [e2] X.env)).any (·.1) = false := by rfl) :
    PE X (.Call (.Name x p) [e, e2] [] pos) (tE2 C f h te tu) := by
  obtain ⟨fI, fd, T, G, hb, _⟩ := E.ex
  refine PE.imp (pe_mkE (k := 1) T G hr hb hg E.g (pa_cons he (pa_cons he2 pa_nil hs2) hs) hdb hs hpl) fun σ H Q q => ?_
  refine mono σ H _ _ (fun v H1 q1 => mono2 σ H1 _ _ (fun u H2 q2 => ?_) q1) q
  exact ⟨by show 2 ≤ 1000; decide, fun a na => ⟨a, v, u, rfl, upd_same, fun H3 b x3 => ⟨rfl, q2 a H3 na (but_new na b) x3⟩⟩⟩
/-- x(h = e, f = e2) -/
theorem pe_E2k (E : E2 X.prog X.w X.K X.mg X.base x f h C) (hr : Room 2 X.A) (hg : Gl X x) (he : PE X e te) (he2 : PE X e2 tu) (mono : ∀ σ H Q Q', (∀ v H1, Q v H1 → Q' v H1) → te σ H Q → te σ H Q') (mono2 : ∀ σ H Q Q', (∀ v H1, Q v H1 → Q' v H1) → tu σ H Q → tu σ H Q')
    (hdb : (x == ("__debug__" : Str)) = false := by decide) : PE X (.Call (.Name x p) [] [⟨some h, e, kp⟩, ⟨some f, e2, kp2⟩] pos) (tE2k C f h te tu) := by
  obtain ⟨fI, fd, T, G, _, hb⟩ := E.ex
  refine PE.imp (pe_mkK (k := 1) (ks := [h, f]) (r := List.reverse) (rV := List.reverse) T G hr (fun a ws s' _ hl => ?_) (fun z => ?_) hg E.g (pk_cons he (pk_cons he2 pk_nil)) (by rfl) (by rfl) hdb (by rfl)) fun σ H Q q => ?_
  · have hl2 : ws.length = 2 := by simpa using hl
    match ws, hl2 with
    | [u, v], _ => exact hb a v u s'
  · rename_i zs ws
    induction z with
    | nil => exact .nil
    | cons r1 r2 ih =>
      rw [List.reverse_cons, List.reverse_cons]
      exact ih.append (.cons r1 .nil)
  · refine mono σ H _ _ (fun u H1 q1 => mono2 σ H1 _ _ (fun v H2 q2 => ?_) q1) q
    exact fun a na => ⟨a, v, u, rfl, upd_same, fun H3 b x3 => ⟨rfl, q2 a H3 na (but_new na b) x3⟩⟩
theorem pe_E0 {bmB : List Value} {B newId initId : String} (F : ExcBaseFacts B newId initId bmB) (q : PySem.W.excIn X.K C bmB newId = true) (gC : X.mg x = some (.ref C)) (kC : PySem.W.keepIn X.K (.ref C) = true) (hg : Gl X x)
    (hdb : (x == ("__debug__" : Str)) = false := by decide) : PE X (.Call (.Name x p) [] [] pos) (tE0 C) := by
  refine PE.imp (pe_mk0 F q gC kC hg hdb) fun σ H Q q a na => q a _ na (fun b o z => ?_) ⟨none, upd_same, .inl ⟨rfl, rfl⟩⟩
  rw [upd_ne (ne_of_none z na)]
  exact z
end
theorem mono_var (i : Nat) : ∀ (σ : L2.St) (H : Hp) (Q Q' : VK), (∀ v H1, Q v H1 → Q' v H1) → tVar i σ H Q → tVar i σ H Q' := fun σ H Q Q' k ⟨v, h, q⟩ => ⟨v, h, k _ _ q⟩
end Own

set_option Elab.async false
set_option linter.all false
set_option maxRecDepth 100000
namespace K00
open PySem PySem.Spec PyProof.Rows L2 Own
def topS (i : Nat) : Stmt := PySem.Challenge.pw_lastbell_k00_errors_made.main.body.getD i (.Pass ⟨0, 0, 0, 0⟩)
abbrev sStream : Stmt := topS 28
abbrev sDraw : Stmt := topS 29
abbrev sPick : Stmt := topS 30
abbrev sSame : Stmt := topS 31
abbrev sErrors : Stmt := topS 32
abbrev sKinds : Stmt := topS 33
abbrev sOwn : Stmt := topS 34
abbrev sRight : Stmt := topS 35
abbrev sLaw : Stmt := topS 36
/-- the names that the law's helpers use must be the built-in ones -/
structure Bt (mg : Str → Option Value) : Prop where
  abs : mg "abs" = none
  int : mg "int" = none
  list : mg "list" = none
  len : mg "len" = none
  isi : mg "isinstance" = none
  tuple : mg "tuple" = none
  dict : mg "dict" = none
  bool : mg "bool" = none
  all : mg "all" = none
  zip : mg "zip" = none
  range : mg "range" = none
  enum : mg "enumerate" = none
/-- all that was tracked stays but what stands at a and l -/
def But2 (a l : Addr) (H H' : Hp) : Prop := ∀ b o, b ≠ a → b ≠ l → H b = some o → H' b = some o
theorem But2.trans {a l : Addr} {H H1 H2 : Hp} (x : But2 a l H H1) (y : But2 a l H1 H2) : But2 a l H H2 := fun b o h1 h2 e => y b o h1 h2 (x b o h1 h2 e)
/-- the stream of draws: its list at a, the cells that are left at l -/
structure Strm (N : Int) (H : Hp) (a l : Addr) : Prop where
  ex : ∃ (xs : List Int) (c n m : Int), H a = some (.lst [.ref l, .int c, .int n, .int m]) ∧ H l = some (.lst (xs.map V.int)) ∧ xs.length ≤ 63 ∧ 0 ≤ c ∧ 0 ≤ n ∧ n ≤ N ∧ 0 ≤ m ∧ m < 2147483647
theorem Strm.ne {N : Int} {H : Hp} {a l : Addr} (x : Strm N H a l) : a ≠ l := by
  obtain ⟨xs, c, n, m, h1, h2, _⟩ := x.ex
  refine ne_of h1 h2 fun z => ?_
  have z1 := HO.lst.inj z
  cases xs with
  | nil => cases z1
  | cons y ys => cases z1
theorem Strm.mono {N M : Int} {H : Hp} {a l : Addr} (x : Strm N H a l) (h : N ≤ M) : Strm M H a l := by
  obtain ⟨xs, c, n, m, h1, h2, h3, h4, h5, h6, h7⟩ := x.ex
  exact ⟨xs, c, n, m, h1, h2, h3, h4, h5, Int.le_trans h6 h, h7⟩
theorem Strm.keep {N : Int} {H H' : Hp} {a l : Addr} (x : Strm N H a l) (k : ∀ b o, H b = some o → (∀ t, o ≠ .tbl t) → H' b = some o) : Strm N H' a l := by
  obtain ⟨xs, c, n, m, h1, h2, h3⟩ := x.ex
  exact ⟨xs, c, n, m, k _ _ h1 (fun t z => by cases z), k _ _ h2 (fun t z => by cases z), h3⟩
/-! ### lists of ints and of bools as data -/
theorem dp_ints {K : PySem.W.Frag} {H : Hp} : ∀ xs : List Int, DpAll K H (xs.map V.int) (xs.map PyData.int)
  | [] => .nil
  | x :: r => .cons (.int x) (dp_ints r)
theorem dp_bls {K : PySem.W.Frag} {H : Hp} : ∀ xs : List Bool, DpAll K H (xs.map V.bl) (xs.map PyData.bool)
  | [] => .nil
  | x :: r => .cons (.bl x) (dp_bls r)
theorem lay_ints : ∀ xs : List Int, PyData.canLayAll0 (xs.map PyData.int) = true ∧ PyData.depthAll (xs.map PyData.int) = 0
  | [] => ⟨rfl, rfl⟩
  | x :: r => by
    obtain ⟨h1, h2⟩ := lay_ints r
    constructor
    · show (PyData.canLay0 (.int x) && PyData.canLayAll0 (r.map PyData.int)) = true
      rw [h1] <;> rfl
    · show max (PyData.depth (.int x)) (PyData.depthAll (r.map PyData.int)) = 0
      rw [h2] <;> rfl
theorem lay_bls : ∀ xs : List Bool, PyData.canLayAll0 (xs.map PyData.bool) = true ∧ PyData.depthAll (xs.map PyData.bool) = 0
  | [] => ⟨rfl, rfl⟩
  | x :: r => by
    obtain ⟨h1, h2⟩ := lay_bls r
    constructor
    · show (PyData.canLay0 (.bool x) && PyData.canLayAll0 (r.map PyData.bool)) = true
      rw [h1] <;> rfl
    · show max (PyData.depth (.bool x)) (PyData.depthAll (r.map PyData.bool)) = 0
      rw [h2] <;> rfl
theorem sh_list {ds : List PyData} (h1 : PyData.canLayAll0 ds = true) (h2 : PyData.depthAll ds = 0) : SeqAt.shaped (.list ds) = true := by
  show (PyData.canLayAll0 ds && decide (PyData.depthAll ds + 1 ≤ 64)) = true
  rw [h1, h2]
  rfl
theorem sh_ints (xs : List Int) : SeqAt.shaped (.list (xs.map PyData.int)) = true := sh_list (lay_ints xs).1 (lay_ints xs).2
theorem sh_bls (xs : List Bool) : SeqAt.shaped (.list (xs.map PyData.bool)) = true := sh_list (lay_bls xs).1 (lay_bls xs).2
theorem eqv_bls : ∀ xs : List Bool, PyData.eqvAll (xs.map PyData.bool) (xs.map PyData.bool) = true
  | [] => rfl
  | x :: r => by
    show ((x == x) && PyData.eqvAll (r.map PyData.bool) (r.map PyData.bool)) = true
    rw [eqv_bls r, beq_self_eq_true] <;> rfl
end K00

set_option Elab.async false
set_option linter.all false
set_option maxRecDepth 100000
set_option maxHeartbeats 2000000
namespace K00
open PySem PySem.Spec PyProof.Rows L2 Own
theorem scDraw : FnScope ["_law_stream_here", "_law_many", "_law_cell", "_law_digit", "_law_mixed"] ["_law_stream_here", "_law_many"] (defScope sDraw) := ⟨rfl, rfl, rfl, by decide +kernel, rfl, by decide +kernel, by decide +kernel⟩
theorem scPick : FnScope ["_law_stream_here", "_law_things"] ["_law_stream_here", "_law_things"] (defScope sPick) := ⟨rfl, rfl, rfl, by decide +kernel, rfl, by decide +kernel, by decide +kernel⟩
theorem scStream : FnScope ["_law_script"] ["_law_script"] (defScope sStream) := ⟨rfl, rfl, rfl, by decide +kernel, rfl, by decide +kernel, by decide +kernel⟩
def spStream (K : PySem.W.Frag) : Sp := fun vs H Q _ => ∃ (s : Addr) (ns : List Int), vs = [.ref s] ∧ SqL K H s (ns.map V.int) ∧ ns.length ≤ 63 ∧
  ∀ H' a l, Same H H' → H a = none → H l = none → Strm 0 H' a l → Q (.ref a) H'
def spDraw : Sp := fun vs H Q _ => ∃ (a l : Addr) (N many : Int), vs = [.ref a, .int many] ∧ Strm N H a l ∧ 0 ≤ N ∧ N ≤ 1000000000 ∧ 0 < many ∧ many < 1073741824 ∧
  ∀ H' d, 0 ≤ d → d < many → But2 a l H H' → Strm (N + 1) H' a l → Q (.int d) H'
def spPick : Sp := fun vs H Q _ => ∃ (a l p : Addr) (N : Int) (xs : List V), vs = [.ref a, .ref p] ∧ Strm N H a l ∧ 0 ≤ N ∧ N ≤ 1000000000 ∧ p ≠ a ∧ p ≠ l ∧ H p = some (.lst xs) ∧ 0 < xs.length ∧ xs.length ≤ 1000 ∧
  ∀ H' v, v ∈ xs → But2 a l H H' → Strm (N + 1) H' a l → Q v H'
section
variable {P : Program} {w : World} {K : PySem.W.Frag} {mg : Str → Option Value} {base : Heap}
theorem ok_stream {f : Addr} {fd : FuncData} (F : Fun K "_law_stream" "_law_stream" sStream f fd) (T : Bt mg) : FnOk P w K mg base CX0 1 f fd ["_law_script"] (spStream K) := by
  refine F.ok scStream (fun vs H Q E h => ?_) (fun cdv A outer s H vs Q E hr h => ?_)
  · obtain ⟨s, ns, rfl, _⟩ := h
    rfl
  · obtain ⟨s0, ns, rfl, hS, hl, k⟩ := h
    refine ⟨_, pss_one (ps_ret (pe_lst (pa_cons (pe_callTy call_list_of (by rfl) T.list (by decide +kernel) (pa_cons (pv 0) pa_nil)) (pa_cons pe_int (pa_cons pe_int (pa_cons pe_int pa_nil)))))), ?_⟩
    refine ⟨_, rfl, s0, _, rfl, .inl hS, fun l hl0 => ⟨by show 4 ≤ sizeLine; decide, fun a ha => ?_⟩⟩
    have nal : a ≠ l := fun z => by
      rw [z, upd_same] at ha
      cases ha
    have ha0 : H a = none := by
      rw [upd_ne nal] at ha
      exact ha
    refine k _ a l (fun b o e => ?_) ha0 hl0 ⟨ns, 0, 0, 17, upd_same, ?_, hl, by decide, by decide, by decide, by decide, by decide⟩
    · rw [upd_ne (ne_of_none e ha0), upd_ne (ne_of_none e hl0)]
      exact e
    · rw [upd_ne nal.symm]
      exact upd_same
theorem but2_set {a l : Addr} {H H1 : Hp} {o : HO} (b : But2 a l H H1) : But2 a l H (upd H1 a o) := fun x y h1 h2 e => by
  rw [upd_ne h1]
  exact b x y h1 h2 e
theorem but2_setl {a l : Addr} {H H1 : Hp} {o : HO} (b : But2 a l H H1) : But2 a l H (upd H1 l o) := fun x y h1 h2 e => by
  rw [upd_ne h2]
  exact b x y h1 h2 e
theorem but2_new {a l p : Addr} {H H1 : Hp} {o : HO} (b : But2 a l H H1) (hp : H1 p = none) : But2 a l H (upd H1 p o) := fun x y h1 h2 e => by
  have z := b x y h1 h2 e
  rw [upd_ne (ne_of_none z hp)]
  exact z
theorem seq0 (n : Nat) : seqIndex? 0 (n + 1) = some 0 := by
  refine (ixN_seq (n := n + 1) (i := 0) (j := 0) ?_).1
  unfold ixN
  rw [if_pos (Int.le_refl 0), if_pos (by omega)]
  rfl
/-- the stream's state within a draw -/
structure Mid (a l : Addr) (n : Int) (H H' : Hp) (xs : List Int) (c m : Int) : Prop where
  ha : H' a = some (.lst [.ref l, .int c, .int n, .int m])
  hl : H' l = some (.lst (xs.map V.int))
  len : xs.length ≤ 63
  c0 : 0 ≤ c
  m0 : 0 ≤ m
  m1 : m < 2147483647
  but : But2 a l H H'
theorem Mid.ne {a l : Addr} {n : Int} {H H' : Hp} {xs : List Int} {c m : Int} (M : Mid a l n H H' xs c m) : a ≠ l := by
  refine ne_of M.ha M.hl fun z => ?_
  have z1 := HO.lst.inj z
  cases xs with
  | nil => cases z1
  | cons y ys => cases z1
theorem ok_draw {f : Addr} {fd : FuncData} (F : Fun K "_law_draw" "_law_draw" sDraw f fd) (T : Bt mg) : FnOk P w K mg base CX0 1 f fd ["_law_stream_here", "_law_many"] spDraw := by
  refine F.ok scDraw (fun vs H Q E h => ?_) (fun cdv A outer s H vs Q E hr h => ?_)
  · obtain ⟨a, l, N, many, rfl, _⟩ := h
    rfl
  · obtain ⟨a, l, N, many, rfl, S, hN0, hN1, hm0, hm1, k⟩ := h
    have nal := S.ne
    obtain ⟨xs, c, n, m, h1, h2, h3, h4, h5, h6, h7, h8⟩ := S.ex
    refine ⟨_, pss_cons (ps_asg (pe_op op_add (pe_ix ix_list (pv 0) pe_int (fun _ _ => rfl)) pe_int) (pg_sub (pv 0) pe_int set_list))
      (Evl.pss_cut (ps_while PassesOwn.never (PW.pt (pw_and (pt_cmpR op_eq (pe_ix ix_list (pv 0) pe_int (fun _ _ => rfl)) pe_int (nomark _)) (pw_and1 (pt_cmpR (op_neD hr.units) (pe_ix ix_list (pv 0) pe_int (fun _ _ => rfl)) (pe_lst pa_nil) (nomark _)))))
        (pss_cons (ps_set (i := 2) scDraw.nd rfl (Or.inl rfl) (pe_callB call_abs (by rfl) T.abs (by decide +kernel) (pa_cons (pe_bm PySem.F.plainAttrs_list PySem.F.slot_list_pop PySem.F.type_list_pop mt_popAt (pe_ix ix_list (pv 0) pe_int (fun _ _ => rfl)) (pa_cons pe_int pa_nil)) pa_nil)))
        (pss_cons (ps_asg (pe_op op_mod (pe_callTy call_int1 (by rfl) T.int (by decide +kernel) (pa_cons (pe_op op_add (pe_op op_add (pe_op op_mul (pe_ix ix_list (pv 0) pe_int (fun _ _ => rfl)) pe_int) (pv 2)) pe_int) pa_nil)) pe_int) (pg_sub (pv 0) pe_int set_list))
        (pss_one (ps_asg (pe_ifExp (pt_cmpR op_ge (pv 2) (pe_op op_pow pe_int pe_int) (nomark _)) (pv 2) pe_int) (pg_sub (pv 0) pe_int set_list))))))
      (pss_cons (ps_if (pt_cmpR op_gt (pe_ix ix_list (pv 0) pe_int (fun _ _ => rfl)) pe_int (nomark _))
        (pss_cons (ps_set (i := 3) scDraw.nd rfl (Or.inl rfl) (pe_op op_modN (pe_callTy call_int1 (by rfl) T.int (by decide +kernel) (pa_cons (pe_ix ix_list (pv 0) pe_int (fun _ _ => rfl)) pa_nil)) (pv 1)))
        (pss_cons (ps_asg (pe_op op_fdivN (pe_ix ix_list (pv 0) pe_int (fun _ _ => rfl)) (pv 1)) (pg_sub (pv 0) pe_int set_list))
        (pss_one (ps_ret (pv 3))))) pss_nil)
      (pss_cons (ps_set (i := 4) scDraw.nd rfl (Or.inl rfl) (pe_op op_mod (pe_callTy call_int1 (by rfl) T.int (by decide +kernel) (pa_cons (pe_op op_pow (pe_op op_add (pe_op op_add (pe_ix ix_list (pv 0) pe_int (fun _ _ => rfl)) (pe_op op_mul pe_int (pe_ix ix_list (pv 0) pe_int (fun _ _ => rfl)))) pe_int) pe_int) pa_nil)) pe_int))
      (pss_one (ps_ret (pe_op op_modN (pe_op op_mod (pe_callTy call_int1 (by rfl) T.int (by decide +kernel) (pa_cons (pe_op op_pow (pe_op op_add (pe_op op_add (pe_op op_mul (pv 4) pe_int) (pe_op op_mul pe_int (pe_ix ix_list (pv 0) pe_int (fun _ _ => rfl)))) pe_int) pe_int) pa_nil)) pe_int) (pv 1))))))), ?_⟩
    refine ⟨_, rfl, a, _, _, _, rfl, rfl, SqL.of h1, (by rfl), _, _, rfl, rfl, _, rfl, a, _, _, 2, rfl, rfl, h1, (by rfl), ?_⟩
    refine ⟨fun σ' H' => ∃ (xs : List Int) (c m : Int) (v : Option V), σ' = [some (.ref a), some (.int many), v, none, none] ∧ Mid a l (n + 1) H H' xs c m, ?_, ?_⟩
    · refine ⟨fun j σ' H' => ∃ (xs : List Int) (c m : Int) (v : Option V), σ' = [some (.ref a), some (.int many), v, none, none] ∧ Mid a l (n + 1) H H' xs c m ∧ j = xs.length, ⟨_, xs, c, m, none, rfl, ⟨upd_same, by rw [upd_ne nal.symm]; exact h2, h3, h4, h7, h8, fun b o q1 q2 e => by rw [upd_ne q1]; exact e⟩, rfl⟩, ?_⟩
      rintro j σ' H1 ⟨xs, c0, m0, v, rfl, M, rfl⟩
      refine ⟨_, rfl, a, _, _, _, rfl, rfl, SqL.of M.ha, (by rfl), rfl, _, rfl, ?_⟩
      refine ite2 (fun hc => ?_) (fun hc => ?_)
      · have hc0 : c0 = 0 := V.int.inj (of_decide_eq_true hc)
        refine ⟨_, rfl, a, _, _, _, rfl, rfl, SqL.of M.ha, (by rfl), Nat.zero_le _, fun p hp => ?_⟩
        have npa : a ≠ p := ne_of_none M.ha hp
        have npl : l ≠ p := ne_of_none M.hl hp
        have M2 : Mid a l (n + 1) H (upd H1 p (.lst [])) xs c0 m0 := ⟨by rw [upd_ne npa]; exact M.ha, by rw [upd_ne npl]; exact M.hl, M.len, M.c0, M.m0, M.m1, but2_new M.but hp⟩
        refine ⟨.list (xs.map PyData.int), .list [], .lst (SqL.of M2.hl) (dp_ints xs), .lst (SqL.of upd_same) .nil, sh_ints xs, rfl, _, rfl, ?_⟩
        cases xs with
        | nil =>
          refine iteF ?_
          exact ⟨[], c0, m0, v, rfl, M2⟩
        | cons y ys =>
          refine iteT ⟨fun σ2 H2 => ∃ (xs : List Int) (c m : Int) (v : Option V), σ2 = [some (.ref a), some (.int many), v, none, none] ∧ Mid a l (n + 1) H H2 xs c m ∧ ys.length = xs.length, ?_, ?_⟩
          · rintro σ2 H2 ⟨xs, c, m, v, e1, e2, e3⟩
            exact ⟨ys.length, Nat.lt_succ_self _, xs, c, m, v, e1, e2, e3⟩
          · have hl2 := M2.hl
            refine ⟨_, rfl, a, _, _, .ref l, rfl, rfl, SqL.of M2.ha, (by rfl), .inl ⟨rfl, _, SqL.of hl2⟩, l, _, 0, 0, .int y, rfl, rfl, hl2, by decide, by decide, (by rw [List.length_map]; exact seq0 _), rfl, _, rfl, ?_⟩
            have M3 : Mid a l (n + 1) H (upd (upd H1 p (.lst [])) l (.lst (ys.map V.int))) ys c0 m0 := ⟨by rw [upd_ne nal]; exact M2.ha, upd_same, by have := M2.len; simp at this; omega, M2.c0, M2.m0, M2.m1, but2_setl M2.but⟩
            have z0 : ((y :: ys).map V.int).eraseIdx 0 = ys.map V.int := rfl
            rw [z0]
            have cell0 : (0 : Int) ≤ (if y < 0 then -y else y) := by split <;> omega
            generalize (if y < 0 then -y else y) = cell at cell0 ⊢
            refine ⟨_, rfl, a, _, _, _, rfl, rfl, SqL.of M3.ha, (by rfl), _, _, rfl, rfl, .inl ⟨by have := M3.m0; omega, by have := M3.m1; omega⟩, _, rfl, _, _, rfl, rfl, _, _, rfl, rfl, .inl ⟨_, rfl, _, _, rfl, rfl, (show (0 : Int) < 2147483647 by decide), _, rfl, a, _, _, 3, rfl, rfl, M3.ha, (by rfl), ?_⟩⟩
            have r0 := Int.emod_nonneg (m0 * 8191 + cell + 3) (by decide : (2147483647 : Int) ≠ 0)
            have r1 := Int.emod_lt_of_pos (m0 * 8191 + cell + 3) (by decide : (0 : Int) < 2147483647)
            have M4 : Mid a l (n + 1) H (upd (upd (upd H1 p (.lst [])) l (.lst (ys.map V.int))) a (.lst [.ref l, .int c0, .int (n + 1), .int ((m0 * 8191 + cell + 3) % 2147483647)])) ys c0 ((m0 * 8191 + cell + 3) % 2147483647) :=
              ⟨upd_same, by rw [upd_ne nal.symm]; exact M3.hl, M3.len, M3.c0, r0, r1, but2_set M3.but⟩
            refine ⟨_, rfl, _, _, rfl, rfl, ⟨by decide, by decide, by decide⟩, _, _, rfl, rfl, _, rfl, ?_⟩
            have last : ∀ c2 : Int, 0 ≤ c2 → ∃ (xs : List Int) (c m : Int) (v : Option V), [some (V.ref a), some (V.int many), some (V.int cell), none, none] = [some (V.ref a), some (V.int many), v, none, none] ∧ Mid a l (n + 1) H (upd (upd (upd (upd H1 p (.lst [])) l (.lst (ys.map V.int))) a (.lst [.ref l, .int c0, .int (n + 1), .int ((m0 * 8191 + cell + 3) % 2147483647)])) a (.lst [.ref l, .int c2, .int (n + 1), .int ((m0 * 8191 + cell + 3) % 2147483647)])) xs c m ∧ ys.length = xs.length :=
              fun c2 hc2 => ⟨ys, c2, _, _, rfl, ⟨upd_same, by rw [upd_ne nal.symm]; exact M4.hl, M4.len, hc2, r0, r1, but2_set M4.but⟩, rfl⟩
            refine ite2 (fun hge => ?_) (fun hge => ?_)
            · exact ⟨_, rfl, _, rfl, a, _, _, 1, rfl, rfl, M4.ha, (by rfl), last _ cell0⟩
            · exact ⟨_, rfl, a, _, _, 1, rfl, rfl, M4.ha, (by rfl), last _ (Int.le_refl 0)⟩
      · refine iteF ?_
        exact ⟨xs, c0, m0, v, rfl, M⟩
    · rintro σ' H1 ⟨xs, c, m, v, rfl, M⟩
      have mod0 : ∀ z : Int, 0 ≤ z.fmod many ∧ z.fmod many < many := fun z => by
        rw [Int.fmod_eq_emod_of_nonneg z (by omega)]
        exact ⟨Int.emod_nonneg _ (by omega), Int.emod_lt_of_pos _ hm0⟩
      have c0 := M.c0
      have m0 := M.m0
      have m1 := M.m1
      have fin : ∀ (H2 : Hp) (c2 : Int), 0 ≤ c2 → H2 a = some (.lst [.ref l, .int c2, .int (n + 1), .int m]) → H2 l = some (.lst (xs.map V.int)) → Strm (N + 1) H2 a l := fun H2 c2 h0 ha hl => ⟨xs, c2, n + 1, m, ha, hl, M.len, h0, by omega, by omega, m0, m1⟩
      refine ⟨_, rfl, a, _, _, _, rfl, rfl, SqL.of M.ha, (by rfl), _, _, rfl, rfl, _, rfl, ite2 (fun hc => ?_) (fun hc => ?_)⟩
      · refine ⟨_, rfl, a, _, _, _, rfl, rfl, SqL.of M.ha, (by rfl), .inl ⟨_, rfl, _, rfl, _, _, rfl, rfl, (show many ≠ 0 by omega), ?_⟩⟩
        refine ⟨_, rfl, a, _, _, _, rfl, rfl, SqL.of M.ha, (by rfl), _, rfl, _, _, rfl, rfl, ⟨by omega, by omega⟩, _, rfl, a, _, _, 1, rfl, rfl, M.ha, (by rfl), _, rfl, ?_⟩
        refine k _ _ (mod0 c).1 (mod0 c).2 (but2_set M.but) (fin _ (c.fdiv many) ?_ upd_same (by rw [upd_ne nal.symm]; exact M.hl))
        rw [Int.fdiv_eq_ediv_of_nonneg _ (by omega)]
        exact Int.ediv_nonneg c0 (by omega)
      · refine ⟨_, rfl, a, _, _, _, rfl, rfl, SqL.of M.ha, (by rfl), _, rfl, a, _, _, _, rfl, rfl, SqL.of M.ha, (by rfl), _, _, rfl, rfl, .inl ⟨by decide, by decide⟩, _, _, rfl, rfl, _, _, rfl, rfl, _, _, rfl, rfl, ⟨by decide, by decide, ?_⟩, .inl ⟨_, rfl, _, _, rfl, rfl, (show (0 : Int) < 2147483629 by decide), ?_⟩⟩
        · show (m + 7919 * (n + 1) + 104729).natAbs < 2 ^ 64
          omega
        · have r0 := Int.emod_nonneg ((m + 7919 * (n + 1) + 104729) ^ (5 : Int).toNat) (by decide : (2147483629 : Int) ≠ 0)
          have r1 := Int.emod_lt_of_pos ((m + 7919 * (n + 1) + 104729) ^ (5 : Int).toNat) (by decide : (0 : Int) < 2147483629)
          refine ⟨_, rfl, _, _, rfl, rfl, .inl ⟨Int.lt_of_lt_of_le (by decide) r0, Int.lt_trans r1 (by decide)⟩, _, rfl, a, _, _, _, rfl, rfl, SqL.of M.ha, (by rfl), _, _, rfl, rfl, .inl ⟨by decide, by decide⟩, _, _, rfl, rfl, _, _, rfl, rfl, _, _, rfl, rfl, ⟨by decide, by decide, ?_⟩, .inl ⟨_, rfl, _, _, rfl, rfl, (show (0 : Int) < 1000000007 by decide), _, rfl, _, _, rfl, rfl, (show many ≠ 0 by omega), ?_⟩⟩
          · show ((m + 7919 * (n + 1) + 104729) ^ (5 : Int).toNat % 2147483629 * 48271 + 30011 * (n + 1) + 29).natAbs < 2 ^ 64
            generalize (m + 7919 * (n + 1) + 104729) ^ (5 : Int).toNat % 2147483629 = z at r0 r1
            omega
          · exact k _ _ (mod0 _).1 (mod0 _).2 M.but (fin _ c c0 M.ha M.hl)
theorem ok_pick {f fD : Addr} {fd fdD : FuncData} (F : Fun K "_law_pick" "_law_pick" sPick f fd) (T : Bt mg) (FD : Fun K "_law_draw" "_law_draw" sDraw fD fdD) (gD : mg "_law_draw" = some (.ref fD)) (bD : Binds K fdD ["_law_stream_here", "_law_many"] []) :
    FnOk P w K mg base CX0 2 f fd ["_law_stream_here", "_law_things"] spPick := by
  have GD : FnOk P w K mg base CX0 1 fD fdD ["_law_stream_here", "_law_many"] spDraw := ok_draw FD T
  refine F.ok scPick (fun vs H Q E h => ?_) (fun cdv A outer s H vs Q E hr h => ?_)
  · obtain ⟨a, l, p, N, xs, rfl, _⟩ := h
    rfl
  · obtain ⟨a, l, p, N, xs, rfl, S, hN0, hN1, hpa, hpl, hp, hx0, hx1, k⟩ := h
    refine ⟨_, pss_one (ps_ret (pe_ix ix_list (pv 1) (pe_call GD hr (by rfl) gD FD.kp bD .nil pass0 (pa_cons (pv 0) (pa_cons (pe_callB call_len_seq (by rfl) T.len PySem.boot_len (pa_cons (pv 1) pa_nil)) pa_nil))) (fun _ _ => rfl))), ?_⟩
    refine ⟨_, rfl, _, rfl, _, rfl, p, xs, rfl, .inl (SqL.of hp), a, l, N, (xs.length : Int), rfl, S, hN0, hN1, by omega, by omega, fun H' d d0 d1 b S' => ?_⟩
    have hd : d.toNat < xs.length := by omega
    have e : atI xs d = some xs[d.toNat] := at_of (j := d.toNat) (by omega) (List.getElem?_eq_getElem hd)
    exact ⟨p, xs, d, _, rfl, rfl, SqL.of (b _ _ hpa hpl hp), e, k H' _ (List.getElem_mem hd) b S'⟩
end
end K00

set_option Elab.async false
set_option linter.all false
set_option maxRecDepth 100000
set_option maxHeartbeats 4000000
namespace K00
open PySem PySem.Spec PyProof.Rows L2 Own
theorem scSame : FnScope ["_law_found", "_law_due", "_law_mine", "_law_theirs"] ["_law_found", "_law_due"] (defScope sSame) := ⟨rfl, rfl, rfl, by decide +kernel, rfl, by decide +kernel, by decide +kernel⟩
/-! ### equal trees -/
def atomV : V → Bool
  | .non => true
  | .bl _ => true
  | .int _ => true
  | .str _ => true
  | _ => false
def Eqt : Nat → Hp → V → V → Prop
  | 0, _, v, u => v = u ∧ atomV u = true
  | n + 1, H, v, u => (v = u ∧ atomV u = true) ∨
      (∃ (a b : Addr) (xs ys : List V), v = .ref a ∧ u = .ref b ∧ H a = some (.lst xs) ∧ H b = some (.lst ys) ∧ Paired (Eqt n H) xs ys ∧ xs.length ≤ 1000) ∨
      (∃ (a b : Addr) (xs ys : List V), v = .ref a ∧ u = .ref b ∧ H a = some (.tup xs) ∧ H b = some (.tup ys) ∧ Paired (Eqt n H) xs ys ∧ xs.length ≤ 1000) ∨
      (2 ≤ n ∧ ∃ (a b : Addr) (kvs : List (Key × V)), v = .ref a ∧ u = .ref b ∧ H a = some (.dK kvs) ∧ H b = some (.dK kvs) ∧ (∀ p ∈ kvs, atomV p.2 = true) ∧ kvs.length ≤ 1000)
theorem eqt_atom {n : Nat} {H : Hp} {v : V} (h : atomV v = true) : Eqt n H v v := by
  cases n with
  | zero => exact ⟨rfl, h⟩
  | succ n => exact .inl ⟨rfl, h⟩
/-- all but tables stays -/
abbrev Ext (H H' : Hp) : Prop := LamX.ExtN H H'
theorem paired_imp {α β : Type} {F G : α → β → Prop} : ∀ {xs : List α} {ys : List β}, Paired F xs ys → (∀ a b, F a b → G a b) → Paired G xs ys
  | _, _, .nil, _ => .nil
  | _, _, .cons h t, k => .cons (k _ _ h) (paired_imp t k)
theorem Eqt.ext : ∀ {n : Nat} {H H' : Hp} {v u : V}, Eqt n H v u → Ext H H' → Eqt n H' v u
  | 0, _, _, _, _, h, _ => h
  | n + 1, H, H', v, u, h, e => by
    rcases h with h | ⟨a, b, xs, ys, rfl, rfl, ha, hb, p, l⟩ | ⟨a, b, xs, ys, rfl, rfl, ha, hb, p, l⟩ | ⟨hn, a, b, kvs, rfl, rfl, ha, hb, p⟩
    · exact .inl h
    · exact .inr (.inl ⟨a, b, xs, ys, rfl, rfl, e _ _ ha (fun t z => by cases z), e _ _ hb (fun t z => by cases z), paired_imp p fun _ _ q => Eqt.ext q e, l⟩)
    · exact .inr (.inr (.inl ⟨a, b, xs, ys, rfl, rfl, e _ _ ha (fun t z => by cases z), e _ _ hb (fun t z => by cases z), paired_imp p fun _ _ q => Eqt.ext q e, l⟩))
    · exact .inr (.inr (.inr ⟨hn, a, b, kvs, rfl, rfl, e _ _ ha (fun t z => by cases z), e _ _ hb (fun t z => by cases z), p⟩))
theorem ext_of {H H' : Hp} (e : Same H H') : Ext H H' := fun b o h _ => e b o h
theorem same_new {H : Hp} {p : Addr} {o : HO} (h : H p = none) : Same H (upd H p o) := fun b u e => by
  rw [upd_ne (ne_of_none e h)]
  exact e
def spSame (n : Nat) : Sp := fun vs H Q _ => ∃ v u : V, vs = [v, u] ∧ Eqt n H v u ∧ ∀ H', Same H H' → Q (.bl true) H'
/-- a value's type, in this heap and in all that grow from it -/
def TyS (K : PySem.W.Frag) (H : Hp) (x : V) (T : String) : Prop := ∀ H', Same H H' → TyX K H' x (.type T)
theorem TyS.grow {K : PySem.W.Frag} {H H' : Hp} {x : V} {T : String} (h : TyS K H x T) (e : Same H H') : TyS K H' x T := fun H2 e2 => h H2 (e.trans e2)
theorem TyS.now {K : PySem.W.Frag} {H : Hp} {x : V} {T : String} (h : TyS K H x T) : TyX K H x (.type T) := h H (Same.refl H)
theorem kit3 {K : PySem.W.Frag} {T a b c : String} {x y z r : Bool} (ha : kitB T a = some x) (hb : kitB T b = some y) (hc : kitB T c = some z) (h : (x || y || z) = r) : PySem.W.kitAny K (.type T) [.type a, .type b, .type c] = some r := by
  subst h
  refine kitAny_cons (kit_ty ha) (fun e => ?_) (fun e => by rw [e]; rfl)
  rw [e]
  refine kitAny_cons (kit_ty hb) (fun e => ?_) (fun e => by rw [e]; rfl)
  rw [e]
  refine kitAny_cons (kit_ty hc) (fun e => ?_) (fun e => by rw [e]; rfl)
  rw [e]
  exact kitAny_nil
theorem kit2 {K : PySem.W.Frag} {T a b : String} {x y r : Bool} (ha : kitB T a = some x) (hb : kitB T b = some y) (h : (x || y) = r) : PySem.W.kitAny K (.type T) [.type a, .type b] = some r := by
  subst h
  refine kitAny_cons (kit_ty ha) (fun e => ?_) (fun e => by rw [e]; rfl)
  rw [e]
  refine kitAny_cons (kit_ty hb) (fun e => ?_) (fun e => by rw [e]; rfl)
  rw [e]
  exact kitAny_nil
/-- zip of two tuples, as one walk -/
theorem walk_zipT {K : PySem.W.Frag} {a b : Addr} {xs ys : List V} {n : Nat} (hn : n = min xs.length ys.length) : Walk (RZ.ItzT K a b) n (fun H => SqT K H a xs ∧ SqT K H b ys) (YPair (fun i => xs[i]?) (fun i => ys[i]?)) := by
  subst hn
  refine ⟨fun i _ hi q => ?_, fun _ q => ⟨xs, ys, q.1, q.2, by omega⟩, fun i H v H' _ q y => ?_⟩
  · have h1 : i < xs.length := by omega
    have h2 : i < ys.length := by omega
    exact ⟨xs, ys, xs[i], ys[i], q.1, q.2, by simp [h1], by simp [h2]⟩
  · obtain ⟨T, x, z, h1, h2, h3, h4, h5⟩ := y
    exact ⟨T, x, z, h1, h2, h3, h4 xs q.1, h5 ys q.2⟩
theorem paired_at {α β : Type} {F : α → β → Prop} : ∀ {xs : List α} {ys : List β} {i : Nat} {x : α} {y : β}, Paired F xs ys → xs[i]? = some x → ys[i]? = some y → F x y
  | _, _, 0, _, _, .cons h t, e1, e2 => by
    cases e1
    cases e2
    exact h
  | _, _, i + 1, x, y, .cons h t, e1, e2 => paired_at (i := i) t e1 e2
section
variable {P : Program} {w : World} {K : PySem.W.Frag} {mg : Str → Option Value} {base : Heap}
theorem atom_ty {H : Hp} {u : V} (h : atomV u = true) : ∃ (T : String) (b : Bool), TyS K H u T ∧ kitB T "list" = some false ∧ kitB T "tuple" = some false ∧ kitB T "dict" = some false ∧ kitB T "bool" = some b ∧ scal u u = true := by
  cases u with
  | non => exact ⟨"NoneType", false, fun _ _ => .base .non, by decide +kernel, by decide +kernel, by decide +kernel, by decide +kernel, rfl⟩
  | bl b => exact ⟨"bool", true, fun _ _ => .base (.bl b), by decide +kernel, by decide +kernel, by decide +kernel, by decide +kernel, rfl⟩
  | int i => exact ⟨"int", false, fun _ _ => .base (.int i), by decide +kernel, by decide +kernel, by decide +kernel, by decide +kernel, rfl⟩
  | str x => exact ⟨"str", false, fun _ _ => .base (.str x), by decide +kernel, by decide +kernel, by decide +kernel, by decide +kernel, rfl⟩
  | _ => cases h
theorem eq_done {u : V} {H : Hp} {Q : VK} (h : Q (.bl true) H) : Q (.bl (decide (u = u))) H := by
  rw [decide_eq_true rfl]
  exact h
theorem two_fit : 2 ≤ sizeLine := by decide
theorem three_fit : 3 ≤ sizeLine := by decide
theorem atom_key (k : Key) : atomV (kV k) = true := by
  cases k with
  | inl i => rfl
  | inr x => rfl
theorem items_eqt {H : Hp} {m : Nat} : ∀ {ts us : List Addr} {kvs : List (Key × V)}, Paired (fun (t : Addr) (q : Key × V) => H t = some (.tup [kV q.1, q.2])) ts kvs → Paired (fun (t : Addr) (q : Key × V) => H t = some (.tup [kV q.1, q.2])) us kvs →
    (∀ p ∈ kvs, atomV p.2 = true) → Paired (Eqt (m + 1) H) (ts.map V.ref) (us.map V.ref)
  | _, _, _, .nil, .nil, _ => .nil
  | _, _, p :: kvs, .cons h1 t1, .cons h2 t2, hp => .cons
      (.inr (.inr (.inl ⟨_, _, _, _, rfl, rfl, h1, h2, .cons (eqt_atom (atom_key p.1)) (.cons (eqt_atom (hp p List.mem_cons_self)) .nil), by show 2 ≤ 1000; decide⟩)))
      (items_eqt t1 t2 fun q hq => hp q (List.mem_cons_of_mem _ hq))
theorem step_same {f : Addr} {fd : FuncData} (F : Fun K "_law_same" "_law_same" sSame f fd) (T : Bt mg) (gS : mg "_law_same" = some (.ref f)) (bS : Binds K fd ["_law_found", "_law_due"] [])
    (n : Nat) (sp : Sp) (G : FnOk P w K mg base CX0 (n + 1) f fd ["_law_found", "_law_due"] sp) (hsub : ∀ m, n = m + 1 → sp = spSame m) : FnOk P w K mg base CX0 (n + 2) f fd ["_law_found", "_law_due"] (spSame n) := by
  refine F.ok scSame (fun vs H Q E h => ?_) (fun cdv A outer s H vs Q E hr h => ?_)
  · obtain ⟨v, u, rfl, _⟩ := h
    rfl
  · obtain ⟨v, u, rfl, h, k⟩ := h
    have hs : (v = u ∧ atomV u = true) ∨ (∃ m, n = m + 1 ∧ (
        (∃ (a b : Addr) (xs ys : List V), v = .ref a ∧ u = .ref b ∧ H a = some (.lst xs) ∧ H b = some (.lst ys) ∧ Paired (Eqt m H) xs ys ∧ xs.length ≤ 1000) ∨
        (∃ (a b : Addr) (xs ys : List V), v = .ref a ∧ u = .ref b ∧ H a = some (.tup xs) ∧ H b = some (.tup ys) ∧ Paired (Eqt m H) xs ys ∧ xs.length ≤ 1000) ∨
        (2 ≤ m ∧ ∃ (a b : Addr) (kvs : List (Key × V)), v = .ref a ∧ u = .ref b ∧ H a = some (.dK kvs) ∧ H b = some (.dK kvs) ∧ (∀ p ∈ kvs, atomV p.2 = true) ∧ kvs.length ≤ 1000))) := by
      cases n with
      | zero => exact .inl h
      | succ m =>
        rcases h with h | h
        · exact .inl h
        · exact .inr ⟨m, rfl, h⟩
    refine ⟨_, (pss_cons (ps_if (pt_val (pe_callB call_isiT (by rfl) T.isi (by decide +kernel) (pa_cons (pv 1) (pa_cons (pe_tup (pa_cons (pe_bltn (v := .ty "list") (by rfl) T.list (by decide +kernel) rfl) (pa_cons (pe_bltn (v := .ty "tuple") (by rfl) T.tuple (by decide +kernel) rfl) pa_nil))) pa_nil)))) (pss_cons (ps_if (PW.pt (pw_or (pt_cmpR op_ne (pe_callB call_isi (by rfl) T.isi (by decide +kernel) (pa_cons (pv 0) (pa_cons (pe_bltn (v := .ty "list") (by rfl) T.list (by decide +kernel) rfl) pa_nil))) (pe_callB call_isi (by rfl) T.isi (by decide +kernel) (pa_cons (pv 1) (pa_cons (pe_bltn (v := .ty "list") (by rfl) T.list (by decide +kernel) rfl) pa_nil))) (nomark _)) (pw_or1 (pt_cmpR op_ne (pe_callB call_isi (by rfl) T.isi (by decide +kernel) (pa_cons (pv 0) (pa_cons (pe_bltn (v := .ty "tuple") (by rfl) T.tuple (by decide +kernel) rfl) pa_nil))) (pe_callB call_isi (by rfl) T.isi (by decide +kernel) (pa_cons (pv 1) (pa_cons (pe_bltn (v := .ty "tuple") (by rfl) T.tuple (by decide +kernel) rfl) pa_nil))) (nomark _))))) (pss_one (ps_ret pe_bl)) pss_nil)
  (pss_one (ps_ret (pe_and (pe_cmpR op_eq (pe_callB call_len_seq (by rfl) T.len (by decide +kernel) (pa_cons (pv 0) pa_nil)) (pe_callB call_len_seq (by rfl) T.len (by decide +kernel) (pa_cons (pv 1) pa_nil)) (nomark _)) (pe_one (pe_callB (cr_all rfl) (by rfl) T.all (by decide +kernel) (pa_cons (pe_lc (own := [("_law_mine", 2), ("_law_theirs", 3)]) (g := gTup K 2 (gCons (gName 2) (gCons (gName 3) gNil))) (tt := tYes) rfl scSame.nd (RZ.pi_zipA (by rfl) T.zip (pa_cons (pv 0) (pa_cons (pv 1) pa_nil))) (blkOk_by (N := ["_law_found", "_law_due", "_law_mine", "_law_theirs"]) (sc := defScope sSame) (by decide +kernel)) (fun _ _ _ _ _ => (pg_tup rfl (pgs_cons (pg_name (i := 2) (x := "_law_mine") scSame.nd rfl (Or.inl rfl)) (pgs_cons (pg_name (i := 3) (x := "_law_theirs") scSame.nd rfl (Or.inl rfl)) pgs_nil)))) (fun _ _ _ _ _ => pts_nil) (fun _ _ _ _ _ => (pe_call G hr (by rfl) gS F.kp bS .nil pass0 (pa_cons (pv 2) (pa_cons (pv 3) pa_nil))))) pa_nil))))))) pss_nil)
  (pss_cons (ps_if (pt_val (pe_callB call_isi (by rfl) T.isi (by decide +kernel) (pa_cons (pv 1) (pa_cons (pe_bltn (v := .ty "dict") (by rfl) T.dict (by decide +kernel) rfl) pa_nil)))) (pss_one (ps_ret (pe_and (pe_callB call_isi (by rfl) T.isi (by decide +kernel) (pa_cons (pv 0) (pa_cons (pe_bltn (v := .ty "dict") (by rfl) T.dict (by decide +kernel) rfl) pa_nil))) (pe_one (pe_call G hr (by rfl) gS F.kp bS .nil pass0 (pa_cons (LiI.pe_listItems rfl (pv 0) (by rfl) T.list (by decide +kernel)) (pa_cons (LiI.pe_listItems rfl (pv 1) (by rfl) T.list (by decide +kernel)) pa_nil))))))) pss_nil)
  (pss_cons (ps_if (PW.pt (pw_or (pt_val (pe_callB call_isi (by rfl) T.isi (by decide +kernel) (pa_cons (pv 1) (pa_cons (pe_bltn (v := .ty "bool") (by rfl) T.bool (by decide +kernel) rfl) pa_nil)))) (pw_or1 (pt_val (pe_callB call_isi (by rfl) T.isi (by decide +kernel) (pa_cons (pv 0) (pa_cons (pe_bltn (v := .ty "bool") (by rfl) T.bool (by decide +kernel) rfl) pa_nil))))))) (pss_one (ps_ret (pe_and (pe_callB call_isi (by rfl) T.isi (by decide +kernel) (pa_cons (pv 1) (pa_cons (pe_bltn (v := .ty "bool") (by rfl) T.bool (by decide +kernel) rfl) pa_nil))) (pe_and (pe_callB call_isi (by rfl) T.isi (by decide +kernel) (pa_cons (pv 0) (pa_cons (pe_bltn (v := .ty "bool") (by rfl) T.bool (by decide +kernel) rfl) pa_nil))) (pe_one (pe_cmpR op_eq (pv 0) (pv 1) (nomark _))))))) pss_nil)
  (pss_one (ps_ret (pe_and (pe_not (pe_callB call_isiT (by rfl) T.isi (by decide +kernel) (pa_cons (pv 0) (pa_cons (pe_tup (pa_cons (pe_bltn (v := .ty "list") (by rfl) T.list (by decide +kernel) rfl) (pa_cons (pe_bltn (v := .ty "tuple") (by rfl) T.tuple (by decide +kernel) rfl) (pa_cons (pe_bltn (v := .ty "dict") (by rfl) T.dict (by decide +kernel) rfl) pa_nil)))) pa_nil)))) (pe_one (pe_cmpR op_eq (pv 0) (pv 1) (nomark _))))))))), ?_⟩
    rcases hs with ⟨rfl, ha⟩ | ⟨m, rfl, ⟨a, b, xs, ys, rfl, rfl, ha, hb, hp, hl⟩ | ⟨a, b, xs, ys, rfl, rfl, ha, hb, hp, hl⟩ | ⟨hm, a, b, kvs, rfl, rfl, ha, hb, hp, hl⟩⟩
    · obtain ⟨Ty, c, ty, kL, kT, kD, kB, sc⟩ := atom_ty (K := K) (H := H) ha
      refine ⟨_, rfl, two_fit, fun tp htp => ?_⟩
      have e1 := same_new (o := HO.tup [V.ty "list", V.ty "tuple"]) htp
      have ty1 := ty.grow e1
      refine ⟨_, tp, _, _, _, false, rfl, upd_same, .cons (.ty _) (.cons (.ty _) .nil), ty1.now, kit2 kL kT rfl, _, rfl, iteF ?_⟩
      refine ⟨_, rfl, _, _, _, _, false, rfl, .ty _, ty1.now, kit_ty kD, _, rfl, iteF ?_⟩
      refine ⟨_, rfl, _, _, _, _, c, rfl, .ty _, ty1.now, kit_ty kB, _, rfl, ?_⟩
      cases c with
      | true =>
        refine iteT (iteT ?_)
        refine ⟨_, rfl, _, _, _, _, true, rfl, .ty _, ty1.now, kit_ty kB, _, rfl, iteT ⟨_, rfl, _, _, _, _, true, rfl, .ty _, ty1.now, kit_ty kB, _, rfl, iteT ⟨_, rfl, _, rfl, sc, ?_⟩⟩⟩
        exact eq_done (k _ e1)
      | false =>
        refine iteF ⟨_, rfl, _, _, _, _, false, rfl, .ty _, ty1.now, kit_ty kB, _, rfl, iteF ?_⟩
        refine ⟨_, rfl, three_fit, fun tq htq => ?_⟩
        have e2 := same_new (o := HO.tup [V.ty "list", V.ty "tuple", V.ty "dict"]) htq
        have ty2 := ty1.grow e2
        refine ⟨_, tq, _, _, _, false, rfl, upd_same, .cons (.ty _) (.cons (.ty _) (.cons (.ty _) .nil)), ty2.now, kit3 kL kT kD rfl, _, rfl, _, rfl, iteT ⟨_, rfl, _, rfl, sc, ?_⟩⟩
        exact eq_done (k _ (e1.trans e2))
    · obtain rfl := hsub m rfl
      have tyA : TyS K H (.ref a) "list" := fun H' e => .base (.lst (e _ _ ha))
      have tyB : TyS K H (.ref b) "list" := fun H' e => .base (.lst (e _ _ hb))
      have kL : kitB "list" "list" = some true := by decide +kernel
      have kT : kitB "list" "tuple" = some false := by decide +kernel
      refine ⟨_, rfl, two_fit, fun tp htp => ?_⟩
      have e1 := same_new (o := HO.tup [V.ty "list", V.ty "tuple"]) htp
      have tA := tyA.grow e1
      have tB := tyB.grow e1
      refine ⟨_, tp, _, _, _, true, rfl, upd_same, .cons (.ty _) (.cons (.ty _) .nil), tB.now, kit2 kL kT rfl, _, rfl, iteT ?_⟩
      refine ⟨_, rfl, _, _, _, _, true, rfl, .ty _, tA.now, kit_ty kL, _, rfl, _, _, _, _, true, rfl, .ty _, tB.now, kit_ty kL, rfl, false, rfl, iteF ?_⟩
      refine ⟨_, rfl, _, _, _, _, false, rfl, .ty _, tA.now, kit_ty kT, _, rfl, _, _, _, _, false, rfl, .ty _, tB.now, kit_ty kT, rfl, false, rfl, iteF ?_⟩
      refine ⟨_, rfl, a, xs, rfl, .inl (SqL.of (e1 _ _ ha)), _, rfl, b, ys, rfl, .inl (SqL.of (e1 _ _ hb)), rfl, true, ?_, iteT ?_⟩
      · exact congrArg V.bl (decide_eq_true (congrArg V.int (congrArg Int.ofNat hp.length)))
      · refine ⟨_, rfl, _, rfl, a, b, xs, ys, rfl, .inl ⟨SqL.of (e1 _ _ ha), SqL.of (e1 _ _ hb), fun D hD => ?_⟩⟩
        have e2 := same_new (o := HO.lst []) hD
        refine lc_it (walk_zip (xs := xs) (ys := ys) (n := xs.length) (by rw [← hp.length]; simp)) (fun i H' => Same (upd H tp (.tup [V.ty "list", V.ty "tuple"])) H' ∧ H' D = some (.lst (List.replicate i (V.bl true)))) ⟨e2, upd_same⟩ (fun i H' _ q => ⟨SqL.of (q.1 _ _ (e1 _ _ ha)), SqL.of (q.1 _ _ (e1 _ _ hb))⟩) ?_ ?_
        · rintro i x H3 H4 hi ⟨q1, q2⟩ ⟨t, x1, y1, rfl, ht, rfl, hx, hy⟩
          have e3 := same_new (o := HO.tup [x1, y1]) ht
          refine ⟨t, _, rfl, SqT.of upd_same, rfl, _, _, rfl, _, _, rfl, rfl, rfl, ?_⟩
          dsimp only [tYes]
          refine iteT ?_
          refine ⟨_, rfl, _, rfl, x1, y1, rfl, (paired_at hp hx hy).ext (ext_of ((e1.trans q1).trans e3)), fun H5 e5 => ?_⟩
          refine ⟨List.replicate i (V.bl true), e5 _ _ (e3 _ _ q2), ?_, fun p o z => ?_, ?_⟩
          · rw [List.length_replicate]
            exact Nat.lt_of_lt_of_le hi (Nat.le_trans hl (by decide))
          · have np : p ≠ D := ne_of_none z hD
            rw [upd_ne np]
            exact e5 _ _ (e3 _ _ (q1 _ _ z))
          · rw [upd_same, List.replicate_succ']
        · rintro H3 ⟨q1, q2⟩
          refine ⟨D, List.replicate xs.length true, rfl, SqL.of ?_, ?_⟩
          · rw [List.map_replicate]
            exact q2
          · have z : (List.replicate xs.length true).all id = true := by simp
            rw [z]
            exact k _ (e1.trans q1)
    · obtain rfl := hsub m rfl
      have tyA : TyS K H (.ref a) "tuple" := fun H' e => .base (.tup (e _ _ ha))
      have tyB : TyS K H (.ref b) "tuple" := fun H' e => .base (.tup (e _ _ hb))
      have kL : kitB "tuple" "list" = some false := by decide +kernel
      have kT : kitB "tuple" "tuple" = some true := by decide +kernel
      refine ⟨_, rfl, two_fit, fun tp htp => ?_⟩
      have e1 := same_new (o := HO.tup [V.ty "list", V.ty "tuple"]) htp
      have tA := tyA.grow e1
      have tB := tyB.grow e1
      refine ⟨_, tp, _, _, _, true, rfl, upd_same, .cons (.ty _) (.cons (.ty _) .nil), tB.now, kit2 kL kT rfl, _, rfl, iteT ?_⟩
      refine ⟨_, rfl, _, _, _, _, false, rfl, .ty _, tA.now, kit_ty kL, _, rfl, _, _, _, _, false, rfl, .ty _, tB.now, kit_ty kL, rfl, false, rfl, iteF ?_⟩
      refine ⟨_, rfl, _, _, _, _, true, rfl, .ty _, tA.now, kit_ty kT, _, rfl, _, _, _, _, true, rfl, .ty _, tB.now, kit_ty kT, rfl, false, rfl, iteF ?_⟩
      refine ⟨_, rfl, a, xs, rfl, .inr (SqT.of (e1 _ _ ha)), _, rfl, b, ys, rfl, .inr (SqT.of (e1 _ _ hb)), rfl, true, ?_, iteT ?_⟩
      · exact congrArg V.bl (decide_eq_true (congrArg V.int (congrArg Int.ofNat hp.length)))
      · refine ⟨_, rfl, _, rfl, a, b, xs, ys, rfl, .inr ⟨SqT.of (e1 _ _ ha), SqT.of (e1 _ _ hb), fun D hD => ?_⟩⟩
        have e2 := same_new (o := HO.lst []) hD
        refine lc_it (walk_zipT (xs := xs) (ys := ys) (n := xs.length) (by rw [← hp.length]; simp)) (fun i H' => Same (upd H tp (.tup [V.ty "list", V.ty "tuple"])) H' ∧ H' D = some (.lst (List.replicate i (V.bl true)))) ⟨e2, upd_same⟩ (fun i H' _ q => ⟨SqT.of (q.1 _ _ (e1 _ _ ha)), SqT.of (q.1 _ _ (e1 _ _ hb))⟩) ?_ ?_
        · rintro i x H3 H4 hi ⟨q1, q2⟩ ⟨t, x1, y1, rfl, ht, rfl, hx, hy⟩
          have e3 := same_new (o := HO.tup [x1, y1]) ht
          refine ⟨t, _, rfl, SqT.of upd_same, rfl, _, _, rfl, _, _, rfl, rfl, rfl, ?_⟩
          dsimp only [tYes]
          refine iteT ?_
          refine ⟨_, rfl, _, rfl, x1, y1, rfl, (paired_at hp hx hy).ext (ext_of ((e1.trans q1).trans e3)), fun H5 e5 => ?_⟩
          refine ⟨List.replicate i (V.bl true), e5 _ _ (e3 _ _ q2), ?_, fun p o z => ?_, ?_⟩
          · rw [List.length_replicate]
            exact Nat.lt_of_lt_of_le hi (Nat.le_trans hl (by decide))
          · have np : p ≠ D := ne_of_none z hD
            rw [upd_ne np]
            exact e5 _ _ (e3 _ _ (q1 _ _ z))
          · rw [upd_same, List.replicate_succ']
        · rintro H3 ⟨q1, q2⟩
          refine ⟨D, List.replicate xs.length true, rfl, SqL.of ?_, ?_⟩
          · rw [List.map_replicate]
            exact q2
          · have z : (List.replicate xs.length true).all id = true := by simp
            rw [z]
            exact k _ (e1.trans q1)
    · obtain rfl := hsub m rfl
      have tyA : TyS K H (.ref a) "dict" := fun H' e => .base (.dK (e _ _ ha))
      have tyB : TyS K H (.ref b) "dict" := fun H' e => .base (.dK (e _ _ hb))
      have kD : kitB "dict" "dict" = some true := by decide +kernel
      refine ⟨_, rfl, two_fit, fun tp htp => ?_⟩
      have e1 := same_new (o := HO.tup [V.ty "list", V.ty "tuple"]) htp
      have tA := tyA.grow e1
      have tB := tyB.grow e1
      refine ⟨_, tp, _, _, _, false, rfl, upd_same, .cons (.ty _) (.cons (.ty _) .nil), tB.now, kit2 (T := "dict") (x := false) (y := false) (by decide +kernel) (by decide +kernel) rfl, _, rfl, iteF ?_⟩
      refine ⟨_, rfl, _, _, _, _, true, rfl, .ty _, tB.now, kit_ty kD, _, rfl, iteT ?_⟩
      refine ⟨_, rfl, _, _, _, _, true, rfl, .ty _, tA.now, kit_ty kD, _, rfl, iteT ?_⟩
      refine ⟨_, rfl, a, kvs, rfl, e1 _ _ ha, fun H2 p ts e2 _ _ _ hl2 hp2 => ?_⟩
      refine ⟨_, rfl, b, kvs, rfl, e2 _ _ (e1 _ _ hb), fun H3 q us e3 _ _ _ hl3 hp3 => ?_⟩
      refine ⟨.ref p, .ref q, rfl, ?_, fun H4 e4 => k _ (((e1.trans e2).trans e3).trans e4)⟩
      obtain ⟨m2, rfl⟩ : ∃ m2, m = m2 + 2 := ⟨m - 2, by omega⟩
      have hp2' := paired_imp hp2 fun t q z => e3 _ _ z
      refine .inr (.inl ⟨p, q, _, _, rfl, rfl, e3 _ _ hl2, hl3, items_eqt hp2' hp3 hp, ?_⟩)
      rw [List.length_map, hp2.length]
      exact hl
theorem ok_same {f : Addr} {fd : FuncData} (F : Fun K "_law_same" "_law_same" sSame f fd) (T : Bt mg) (gS : mg "_law_same" = some (.ref f)) (bS : Binds K fd ["_law_found", "_law_due"] []) :
    ∀ n : Nat, FnOk P w K mg base CX0 (n + 2) f fd ["_law_found", "_law_due"] (spSame n)
  | 0 => step_same F T gS bS 0 (fun _ _ _ _ => False) ⟨fun _ _ _ _ z => z.elim, fun _ _ _ _ _ _ _ _ _ _ _ _ _ z => z.elim⟩ fun m z => by omega
  | n + 1 => step_same F T gS bS (n + 1) (spSame n) (ok_same F T gS bS n) fun m z => by
    have e : n = m := by omega
    rw [e]
end
end K00

set_option Elab.async false
set_option linter.all false
set_option maxRecDepth 100000
set_option maxHeartbeats 4000000
namespace K00
open PySem PySem.Spec PyProof.Rows L2 Own
def nms : List Str := ["BadHouse", "BadPlaces", "BadRoads", "BadDoors", "BadSteps", "BadTurn", "BadTurns", "BadPlan", "BadLot", "BadBell", "BadAmount", "BadMoments", "BadOrder", "BadWishes", "BadParts", "Never", "BadDoor", "SameDoor", "NotKept", "BadNumbers", "BadPrices", "OtherDoors", "BadLoads", "Lacks", "NotBooked"]
/-- the class stands as an own exception class over ValueError -/
def oexB (K : PySem.W.Frag) (C : Addr) : Bool := match K.lookup C with
  | some ⟨.type ty, _, .cls cd, sl⟩ => (match cd.mro, sl.toList with
    | .ref C1 :: bm, [_, _, _, _, some (.builtin n), _] => ty == "type" && (C1 == C && (n == "ValueError.__new__" && (!cd.hasDel && (cd.hasDict && PySem.HandSPX.refsVE bm))))
    | _, _ => false)
  | _ => false
theorem oexB_ok {K : PySem.W.Frag} {C : Addr} (h : oexB K C = true) : ∃ nm q N bs bm sn sub ab col dd k0 k1 k2 k3 k5, K.lookup C = some (excClassObj nm q C N bs bm true sn sub ab col dd k0 k1 k2 k3 k5 "ValueError.__new__") ∧ PySem.HandSPX.refsVE bm = true := by
  unfold oexB at h
  split at h
  · rename_i ty dd cd sl ho
    split at h
    · rename_i C1 bm k0 k1 k2 k3 n k5 hm hs
      simp only [Bool.and_eq_true, beq_iff_eq, Bool.not_eq_true'] at h
      obtain ⟨rfl, rfl, rfl, hdel, hdict, hr⟩ := h
      obtain ⟨nm, bs, mro, ns, qn, hd, sn, sub, ab, col, del⟩ := cd
      dsimp only at hm hdel hdict
      subst hm hdel hdict
      obtain ⟨l⟩ := sl
      dsimp only at hs
      subst hs
      exact ⟨nm, qn, ns, bs, bm, sn, sub, ab, col, dd, k0, k1, k2, k3, k5, ho, hr⟩
    · cases h
  · cases h
def clsB (K : PySem.W.Frag) (C : Addr) : Bool :=
  oexB K C && (He.eqO (PySem.W.findIn K (.ref C) "__setattr__") (some (some (.builtin "object.__setattr__"))) && (decide (PySem.W.subIn K (.ref C) (.type "BaseException") = some true) &&
  (decide (PySem.W.typeIn K (.ref C) = some (.type "type")) && (PySem.W.keepIn K (.ref C) && (He.eqO (PySem.W.findIn K (.ref C) "__getattribute__") (some (some (.builtin "BaseException.__getattribute__"))) &&
  (He.eqO (PySem.W.findIn K (.ref C) "__getattr__") (some none) && (PySem.W.hasDictIn K C && (He.eqO (PySem.W.findIn K (.ref C) "__class__") (some (some (.builtin "object.__class__"))) &&
  (He.eqO (PySem.W.specialIn K (.builtin "object.__class__") "__get__") (some (some (.builtin "getset_descriptor.__get__"))) && (decide (PySem.W.takesIn K (.builtin "object.__class__") = some true) && decide (PySem.W.mroIn K C (.type "object") = some true)))))))))))
theorem clsB_ok {K : PySem.W.Frag} {C : Addr} (h : clsB K C = true) : OexC K C ∧ ExcC K C := by
  unfold clsB at h
  simp only [Bool.and_eq_true, decide_eq_true_eq] at h
  obtain ⟨h1, h2, h3, h4, h5, h6, h7, h8, h9, h10, h11, h12⟩ := h
  exact ⟨⟨oexB_ok h1, He.eqO_ok h2, h3, h4, h5⟩, ⟨He.eqO_ok h6, He.eqO_ok h7, h3, h8, He.eqO_ok h9, He.eqO_ok h10, h11, h12⟩⟩
def kitB1 (K : PySem.W.Frag) (t c : Value) (b : Bool) : Bool := decide (PySem.W.kitOne K t c = some b)
/-- the j-th error class -/
def cAt (K : PySem.W.Frag) (j : Nat) : Addr := He.ga K (nms.getD j "")
/-- what is asked of the written part, beyond the defs -/
def exB (K : PySem.W.Frag) : Bool :=
  ((List.range 25).all fun i => clsB K (cAt K i)) &&
  (((List.range 25).all fun i => (List.range 25).all fun j => kitB1 K (.ref (cAt K i)) (.ref (cAt K j)) (decide (i = j))) &&
  ((List.range 25).all fun i => kitB1 K (.ref (cAt K i)) (.ref (He.ga K "BellError")) true && (kitB1 K (.ref (cAt K i)) (.type "ValueError") true && (kitB1 K (.ref (cAt K i)) (.type "LookupError") false &&
    (kitB1 K (.ref (cAt K i)) (.type "TypeError") false && (kitB1 K (.ref (cAt K i)) (.type "ArithmeticError") false && kitB1 K (.ref (cAt K i)) (.type "RuntimeError") false))))))
def nIn : List (Str × Str) := [("BadHouse", "thing"), ("BadPlaces", "places"), ("BadRoads", "index"), ("BadDoors", "index"), ("BadSteps", "steps"), ("BadTurn", "turn"), ("BadTurns", "turns"), ("BadPlan", "plan"), ("BadLot", "lot"), ("BadBell", "bell"), ("BadAmount", "amount"), ("BadMoments", "moments"), ("BadOrder", "order"), ("BadWishes", "wishes"), ("BadParts", "index"), ("Never", "lot"), ("BadDoor", "door"), ("SameDoor", "door"), ("NotKept", "lot"), ("BadNumbers", "numbers"), ("BadPrices", "prices"), ("BadLoads", "loads"), ("Lacks", "lot"), ("Lacks", "left"), ("NotBooked", "loads")]
def initB (K : PySem.W.Frag) : Bool := nIn.all fun p => He.eqO (PySem.W.findIn K (.ref (He.ga K p.1)) "__init__") (some (some (.ref (He.ma K (He.ga K p.1) "__init__")))) &&
  (decide (PySem.W.typeIn K (.ref (He.ma K (He.ga K p.1) "__init__")) = some (.type "function")) && He.eqO (PySem.W.findIn K (.ref (He.ga K p.1)) p.2) (some none))
def defD (x : Str) (st : Stmt) : He.DefD := ⟨(x, none), x, x, defArgs st, defBody st, defScope st, [], []⟩
def iniD (c q : Str) (st : Stmt) : He.DefD := ⟨(c, some "__init__"), "__init__", q, defArgs st, defBody st, defScope st, [], []⟩
def fnD : List He.DefD := [defD "_law_stream" (topS 28), defD "_law_draw" (topS 29), defD "_law_pick" (topS 30), defD "_law_same" (topS 31), defD "_law_errors" (topS 32), defD "_law_kinds" (topS 33), defD "_law_is_own" (topS 34), defD "_law_right" (topS 35), defD "law" (topS 36),
  iniD "BadHouse" "BadHouse.__init__" (inClass (topS 2) 0), iniD "BadPlaces" "BadPlaces.__init__" (inClass (topS 3) 0), iniD "BadRoads" "BadRoads.__init__" (inClass (topS 4) 0), iniD "BadDoors" "BadDoors.__init__" (inClass (topS 5) 0), iniD "BadSteps" "BadSteps.__init__" (inClass (topS 6) 0), iniD "BadTurn" "BadTurn.__init__" (inClass (topS 7) 0), iniD "BadTurns" "BadTurns.__init__" (inClass (topS 8) 0), iniD "BadPlan" "BadPlan.__init__" (inClass (topS 9) 0), iniD "BadLot" "BadLot.__init__" (inClass (topS 10) 0), iniD "BadBell" "BadBell.__init__" (inClass (topS 11) 0), iniD "BadAmount" "BadAmount.__init__" (inClass (topS 12) 0), iniD "BadMoments" "BadMoments.__init__" (inClass (topS 13) 0), iniD "BadOrder" "BadOrder.__init__" (inClass (topS 14) 0), iniD "BadWishes" "BadWishes.__init__" (inClass (topS 15) 0), iniD "BadParts" "BadParts.__init__" (inClass (topS 16) 0), iniD "Never" "Never.__init__" (inClass (topS 17) 0), iniD "BadDoor" "BadDoor.__init__" (inClass (topS 18) 0), iniD "SameDoor" "SameDoor.__init__" (inClass (topS 19) 0), iniD "NotKept" "NotKept.__init__" (inClass (topS 20) 0), iniD "BadNumbers" "BadNumbers.__init__" (inClass (topS 21) 0), iniD "BadPrices" "BadPrices.__init__" (inClass (topS 22) 0), iniD "BadLoads" "BadLoads.__init__" (inClass (topS 24) 0), iniD "Lacks" "Lacks.__init__" (inClass (topS 25) 0), iniD "NotBooked" "NotBooked.__init__" (inClass (topS 26) 0)]
def faD : List He.Fa := [.glo "_law_stream", .glo "_law_draw", .glo "_law_pick", .glo "_law_same", .glo "_law_errors", .glo "_law_kinds", .glo "_law_is_own", .glo "_law_right", .glo "law", .glo "BadHouse", .glo "BadPlaces", .glo "BadRoads", .glo "BadDoors", .glo "BadSteps", .glo "BadTurn", .glo "BadTurns", .glo "BadPlan", .glo "BadLot", .glo "BadBell", .glo "BadAmount", .glo "BadMoments", .glo "BadOrder", .glo "BadWishes", .glo "BadParts", .glo "Never", .glo "BadDoor", .glo "SameDoor", .glo "NotKept", .glo "BadNumbers", .glo "BadPrices", .glo "OtherDoors", .glo "BadLoads", .glo "Lacks", .glo "NotBooked", .glo "BellError",
  .free "abs", .free "int", .free "list", .free "len", .free "isinstance", .free "tuple", .free "dict", .free "bool", .free "all", .free "zip", .free "range", .free "enumerate", .free "ValueError", .free "LookupError", .free "TypeError", .free "ArithmeticError", .free "RuntimeError",
  .exc "OtherDoors"]
def tfD : List He.Defn := [("_law_errors", none)]
abbrev R : PySem.W.OpenRow := PySem.W.OpenLaw.row PySem.Challenge.rw_lastbell_k00_errors_made
def exA (K : PySem.W.Frag) : Bool := exB K && initB K
abbrev hk : PySem.W.Hook := He.hookX 6 faD fnD [] tfD exA
def ob (s : PySem.W.SharedT) : He.AlX := He.obsX 6 faD fnD [] tfD exA (HandSHeadRun.getT s)
theorem ob_eq (s : PySem.W.SharedT) : ob s = hk.obs s.abs := He.obsX_eq (HandSHeadRun.getT_eq s)
end K00

set_option Elab.async false
set_option linter.all false
set_option maxRecDepth 100000
set_option maxHeartbeats 0
namespace K00
open PySem PySem.Spec PyProof.Rows L2 Own
def looseN : List Str := (["__name__", "BellError", "BadHouse", "BadPlaces", "BadRoads", "BadDoors", "BadSteps", "BadTurn", "BadTurns", "BadPlan", "BadLot", "BadBell"] : List Str) ++ (["BadAmount", "BadMoments", "BadOrder", "BadWishes", "BadParts", "Never", "BadDoor", "SameDoor", "NotKept", "BadNumbers", "BadPrices", "OtherDoors"] : List Str) ++ (["BadLoads", "Lacks", "NotBooked", "_law_stream", "_law_draw", "_law_pick", "_law_same", "_law_errors", "_law_kinds", "_law_is_own", "_law_right"] : List Str)
theorem run (w : World) : HandSHeadRun.RunEq R (PySem.W.view R.prog [36]) hk ob 9000 looseN w := by
  intro os
  kernel_rfl
end K00

set_option Elab.async false
set_option linter.all false
set_option maxRecDepth 100000
set_option maxHeartbeats 2000000
/-! what _law_errors makes -/
namespace K00
open PySem PySem.Spec PyProof.Rows L2 Own LamX
/-- the lambda of the j-th row of _law_errors -/
def lamOf : Stmt → Arguments × Expr × Scope
  | .Expr (.Call _ [.Tuple [_, _, .Lambda ps bd sc _, _] _ _] _ _) _ => (ps, bd, sc)
  | _ => ({ posonlyargs := [], args := [], vararg := none, kwonlyargs := [], kw_defaults := [], kwarg := none, defaults := [] }, .Constant .none 0 ⟨0, 0, 0, 0⟩, ⟨.function, [], false, false, []⟩)
def lamJ (j : Nat) : Arguments × Expr × Scope := lamOf ((defBody sErrors).getD (j + 1) (.Pass ⟨0, 0, 0, 0⟩))
abbrev qLam : Str := ("_law_errors.<locals>." : Str) ++ "<lambda>"
/-- the fields of the j-th error, made with vx (and vy) -/
def fldJ (vx vy : V) : Nat → List (Str × V)
  | 0 => [("thing", vx)] | 1 => [("places", vx)] | 2 => [("index", vx)] | 3 => [("index", vx)] | 4 => [("steps", vx)] | 5 => [("turn", vx)] | 6 => [("turns", vx)] | 7 => [("plan", vx)]
  | 8 => [("lot", vx)] | 9 => [("bell", vx)] | 10 => [("amount", vx)] | 11 => [("moments", vx)] | 12 => [("order", vx)] | 13 => [("wishes", vx)] | 14 => [("index", vx)] | 15 => [("lot", vx)]
  | 16 => [("door", vx)] | 17 => [("door", vx)] | 18 => [("lot", vx)] | 19 => [("numbers", vx)] | 20 => [("prices", vx)] | 21 => [] | 22 => [("loads", vx)] | 23 => [("left", vy), ("lot", vx)] | 24 => [("loads", vx)] | _ => []
def dueJ (vx vy : V) : Nat → List V
  | 21 => [] | 23 => [vx, vy] | _ => [vx]
/-- a row: the error made by place, by names, the lambda, what is due -/
structure Row (C : Nat → Addr) (H0 H : Hp) (p : Addr) (vx vy : V) (j : Nat) (t : Addr) : Prop where
  ex : ∃ m n f d : Addr, H t = some (.tup [.ref m, .ref n, .ref f, .ref d]) ∧ ExcAt H m (C j) (fldJ vx vy j) ∧ ExcAt H n (C j) (fldJ vx vy j) ∧
    LamAt H f qLam (lamJ j).1 (lamJ j).2.1 (lamJ j).2.2 ∧ H d = some (.lst (dueJ vx vy j)) ∧ d ≠ p ∧ ∀ o, H0 d = some o → ∃ tb, o = .tbl tb
/-- all stays but what stands at a, and tables -/
def ButT (a : Addr) (H H' : Hp) : Prop := ∀ b o, b ≠ a → H b = some o → (∀ t, o ≠ .tbl t) → H' b = some o
theorem exc_but {H H' : Hp} {e C a : Addr} {fs : List (Str × V)} (x : ExcAt H e C fs) (k : ButT a H H') (ha : ∀ φ, H a ≠ some (.ext φ)) : ExcAt H' e C fs := by
  obtain ⟨d, h1, h2⟩ := x.ex
  have ne : e ≠ a := fun z => by
    rw [z] at h1
    exact ha _ h1
  refine ⟨d, k _ _ ne h1 fun t => exo_tbl, ?_⟩
  rcases h2 with h2 | ⟨dd, e2, h2⟩
  · exact .inl h2
  · have ne2 : dd ≠ a := fun z => by
      rw [z] at h2
      exact ha _ h2
    exact .inr ⟨dd, e2, k _ _ ne2 h2 fun t => exd_ne⟩
theorem lam_but {H H' : Hp} {f a : Addr} {q : Str} {ps : Arguments} {bd : Expr} {sc : Scope} (x : LamAt H f q ps bd sc) (k : ButT a H H') (ha : ∀ φ, H a ≠ some (.ext φ)) : LamAt H' f q ps bd sc := by
  obtain ⟨c, h1, h2⟩ := x
  refine ⟨c, k _ _ (fun z => ?_) h1 fun t => lamO_ne t, k _ _ (fun z => ?_) h2 fun t => codeO_ne t⟩
  · rw [z] at h1
    exact ha _ h1
  · rw [z] at h2
    exact ha _ h2
/-- a row stays where what changed is a list or a dict that H0 had, or the list at p -/
theorem Row.but {C : Nat → Addr} {H0 H H' : Hp} {p a t : Addr} {vx vy : V} {j : Nat} (r : Row C H0 H p vx vy j t) (k : ButT a H H') (h0 : a = p ∨ ∃ o, H0 a = some o ∧ ∀ tb, o ≠ .tbl tb) (ha : (∃ xs, H a = some (.lst xs)) ∨ ∃ ks, H a = some (.dK ks)) : Row C H0 H' p vx vy j t := by
  obtain ⟨m, n, f, d, h1, h2, h3, h4, h5, h6, h7⟩ := r.ex
  have nx : ∀ φ, H a ≠ some (.ext φ) := fun φ z => by
    rcases ha with ⟨xs, e⟩ | ⟨ks, e⟩
    · rw [e] at z
      cases z
    · rw [e] at z
      cases z
  have nt : t ≠ a := fun z => by
    rw [z] at h1
    rcases ha with ⟨xs, e⟩ | ⟨ks, e⟩
    · rw [e] at h1
      cases h1
    · rw [e] at h1
      cases h1
  have nd : d ≠ a := fun z => by
    rcases h0 with e | e
    · exact h6 (z.trans e)
    · obtain ⟨o, e1, e2⟩ := e
      rw [← z] at e1
      obtain ⟨tb, e3⟩ := h7 o e1
      exact e2 tb e3
  exact ⟨m, n, f, d, k _ _ nt h1 (fun t z => by cases z), exc_but h2 k nx, exc_but h3 k nx, lam_but h4 k nx, k _ _ nd h5 (fun t z => by cases z), h6, h7⟩
theorem Row.ext {C : Nat → Addr} {H0 H H' : Hp} {p t : Addr} {vx vy : V} {j : Nat} (r : Row C H0 H p vx vy j t) (k : ExtN H H') : Row C H0 H' p vx vy j t := by
  obtain ⟨m, n, f, d, h1, h2, h3, h4, h5, h6, h7⟩ := r.ex
  exact ⟨m, n, f, d, k _ _ h1 (fun t z => by cases z), h2.keep k, h3.keep k, h4.ext k, k _ _ h5 (fun t z => by cases z), h6, h7⟩
/-- the first i rows stand in the list at p -/
structure Rows (C : Nat → Addr) (H0 H : Hp) (p : Addr) (vx vy : V) (i : Nat) : Prop where
  ex : ∃ ts : List V, H p = some (.lst ts) ∧ ts.length = i ∧ ∀ j, j < i → ∃ t, ts[j]? = some (.ref t) ∧ Row C H0 H p vx vy j t
theorem Rows.ext {C : Nat → Addr} {H0 H H' : Hp} {p : Addr} {vx vy : V} {i : Nat} (r : Rows C H0 H p vx vy i) (k : ExtN H H') : Rows C H0 H' p vx vy i := by
  obtain ⟨ts, h1, h2, h3⟩ := r.ex
  refine ⟨ts, k _ _ h1 (fun t z => by cases z), h2, fun j hj => ?_⟩
  obtain ⟨t, e, r⟩ := h3 j hj
  exact ⟨t, e, r.ext k⟩
theorem Rows.but {C : Nat → Addr} {H0 H H' : Hp} {p a : Addr} {vx vy : V} {i : Nat} (r : Rows C H0 H p vx vy i) (k : ButT a H H') (hp : a ≠ p) (h0 : ∃ o, H0 a = some o ∧ ∀ tb, o ≠ .tbl tb) (ha : (∃ xs, H a = some (.lst xs)) ∨ ∃ ks, H a = some (.dK ks)) : Rows C H0 H' p vx vy i := by
  obtain ⟨ts, h1, h2, h3⟩ := r.ex
  refine ⟨ts, k _ _ hp.symm h1 (fun t z => by cases z), h2, fun j hj => ?_⟩
  obtain ⟨t, e, r⟩ := h3 j hj
  exact ⟨t, e, r.but k (.inr h0) ha⟩
/-- one row more -/
theorem Rows.more {C : Nat → Addr} {H0 H : Hp} {p t : Addr} {vx vy : V} {i : Nat} {ts : List V} (r : Rows C H0 H p vx vy i) (h1 : H p = some (.lst ts)) (h : Row C H0 H p vx vy i t) : Rows C H0 (upd H p (.lst (ts ++ [.ref t]))) p vx vy (i + 1) := by
  obtain ⟨ts', e1, e2, e3⟩ := r.ex
  obtain rfl : ts' = ts := HO.lst.inj (Option.some.inj (e1.symm.trans h1))
  have k : ButT p H (upd H p (.lst (ts' ++ [.ref t]))) := fun b o hb e _ => by
    rw [upd_ne hb]
    exact e
  refine ⟨_, upd_same, by simp [e2], fun j hj => ?_⟩
  by_cases hji : j < i
  · obtain ⟨t', a1, a2⟩ := e3 j hji
    exact ⟨t', by rw [List.getElem?_append_left (by omega)]; exact a1, a2.but k (.inl rfl) (.inl ⟨_, h1⟩)⟩
  · obtain rfl : j = i := by omega
    exact ⟨t, by rw [← e2, List.getElem?_concat_length], h.but k (.inl rfl) (.inl ⟨_, h1⟩)⟩
end K00

set_option Elab.async false
set_option linter.all false
set_option maxRecDepth 100000
set_option maxHeartbeats 2000000
namespace K00
open PySem PySem.Spec PyProof.Rows L2 Own
section
variable {P : Program} {w : World} {K : PySem.W.Frag} {mg : Str → Option Value} {base : Heap}
theorem sc0 : FnScope ["self", "thing"] ["self", "thing"] (defScope (inClass (topS 2) 0)) := ⟨rfl, rfl, rfl, by decide +kernel, rfl, by decide +kernel, by decide +kernel⟩
theorem e0 {C fI : Addr} {fd : FuncData} (F : Fun K "__init__" "BadHouse.__init__" (inClass (topS 2) 0) fI fd) (g : mg "BadHouse" = some (.ref C)) (I : ExcI K C fI) (ec : ExcC K C) (no : PySem.W.findIn K (.ref C) "thing" = some none) : E1 P w K mg base "BadHouse" "thing" C := by
  refine ⟨g, ec, no, fI, fd, I, F.ok sc0 (fun vs H Q E h => ?_) (fun cdv A outer s H vs Q E hr h => ?_), F.binds fun _ _ _ _ _ _ us hl => match us, hl with | [_, _], _ => rfl, fun a u s' => ?_⟩
  · obtain ⟨a, v, rfl, _⟩ := h
    rfl
  · obtain ⟨a, v, rfl, ha, k⟩ := h
    refine ⟨_, pss_one (ps_ost (pv 0) (pv 1)), ?_⟩
    exact ⟨_, rfl, _, rfl, a, C, rfl, I.ox, no, .inl ⟨ha, fun dx nd ne => k _ (init1_end ha nd ne).1 (init1_end ha nd ne).2⟩⟩
  · obtain ⟨oc, od, kV, doc, pm, an, cdv, ct, osl, rfl, _, _⟩ := F.ex
    exact .of_eq rfl
theorem sc1 : FnScope ["self", "places"] ["self", "places"] (defScope (inClass (topS 3) 0)) := ⟨rfl, rfl, rfl, by decide +kernel, rfl, by decide +kernel, by decide +kernel⟩
theorem e1 {C fI : Addr} {fd : FuncData} (F : Fun K "__init__" "BadPlaces.__init__" (inClass (topS 3) 0) fI fd) (g : mg "BadPlaces" = some (.ref C)) (I : ExcI K C fI) (ec : ExcC K C) (no : PySem.W.findIn K (.ref C) "places" = some none) : E1 P w K mg base "BadPlaces" "places" C := by
  refine ⟨g, ec, no, fI, fd, I, F.ok sc1 (fun vs H Q E h => ?_) (fun cdv A outer s H vs Q E hr h => ?_), F.binds fun _ _ _ _ _ _ us hl => match us, hl with | [_, _], _ => rfl, fun a u s' => ?_⟩
  · obtain ⟨a, v, rfl, _⟩ := h
    rfl
  · obtain ⟨a, v, rfl, ha, k⟩ := h
    refine ⟨_, pss_one (ps_ost (pv 0) (pv 1)), ?_⟩
    exact ⟨_, rfl, _, rfl, a, C, rfl, I.ox, no, .inl ⟨ha, fun dx nd ne => k _ (init1_end ha nd ne).1 (init1_end ha nd ne).2⟩⟩
  · obtain ⟨oc, od, kV, doc, pm, an, cdv, ct, osl, rfl, _, _⟩ := F.ex
    exact .of_eq rfl
theorem sc2 : FnScope ["self", "index"] ["self", "index"] (defScope (inClass (topS 4) 0)) := ⟨rfl, rfl, rfl, by decide +kernel, rfl, by decide +kernel, by decide +kernel⟩
theorem e2 {C fI : Addr} {fd : FuncData} (F : Fun K "__init__" "BadRoads.__init__" (inClass (topS 4) 0) fI fd) (g : mg "BadRoads" = some (.ref C)) (I : ExcI K C fI) (ec : ExcC K C) (no : PySem.W.findIn K (.ref C) "index" = some none) : E1 P w K mg base "BadRoads" "index" C := by
  refine ⟨g, ec, no, fI, fd, I, F.ok sc2 (fun vs H Q E h => ?_) (fun cdv A outer s H vs Q E hr h => ?_), F.binds fun _ _ _ _ _ _ us hl => match us, hl with | [_, _], _ => rfl, fun a u s' => ?_⟩
  · obtain ⟨a, v, rfl, _⟩ := h
    rfl
  · obtain ⟨a, v, rfl, ha, k⟩ := h
    refine ⟨_, pss_one (ps_ost (pv 0) (pv 1)), ?_⟩
    exact ⟨_, rfl, _, rfl, a, C, rfl, I.ox, no, .inl ⟨ha, fun dx nd ne => k _ (init1_end ha nd ne).1 (init1_end ha nd ne).2⟩⟩
  · obtain ⟨oc, od, kV, doc, pm, an, cdv, ct, osl, rfl, _, _⟩ := F.ex
    exact .of_eq rfl
theorem sc3 : FnScope ["self", "index"] ["self", "index"] (defScope (inClass (topS 5) 0)) := ⟨rfl, rfl, rfl, by decide +kernel, rfl, by decide +kernel, by decide +kernel⟩
theorem e3 {C fI : Addr} {fd : FuncData} (F : Fun K "__init__" "BadDoors.__init__" (inClass (topS 5) 0) fI fd) (g : mg "BadDoors" = some (.ref C)) (I : ExcI K C fI) (ec : ExcC K C) (no : PySem.W.findIn K (.ref C) "index" = some none) : E1 P w K mg base "BadDoors" "index" C := by
  refine ⟨g, ec, no, fI, fd, I, F.ok sc3 (fun vs H Q E h => ?_) (fun cdv A outer s H vs Q E hr h => ?_), F.binds fun _ _ _ _ _ _ us hl => match us, hl with | [_, _], _ => rfl, fun a u s' => ?_⟩
  · obtain ⟨a, v, rfl, _⟩ := h
    rfl
  · obtain ⟨a, v, rfl, ha, k⟩ := h
    refine ⟨_, pss_one (ps_ost (pv 0) (pv 1)), ?_⟩
    exact ⟨_, rfl, _, rfl, a, C, rfl, I.ox, no, .inl ⟨ha, fun dx nd ne => k _ (init1_end ha nd ne).1 (init1_end ha nd ne).2⟩⟩
  · obtain ⟨oc, od, kV, doc, pm, an, cdv, ct, osl, rfl, _, _⟩ := F.ex
    exact .of_eq rfl
theorem sc4 : FnScope ["self", "steps"] ["self", "steps"] (defScope (inClass (topS 6) 0)) := ⟨rfl, rfl, rfl, by decide +kernel, rfl, by decide +kernel, by decide +kernel⟩
theorem e4 {C fI : Addr} {fd : FuncData} (F : Fun K "__init__" "BadSteps.__init__" (inClass (topS 6) 0) fI fd) (g : mg "BadSteps" = some (.ref C)) (I : ExcI K C fI) (ec : ExcC K C) (no : PySem.W.findIn K (.ref C) "steps" = some none) : E1 P w K mg base "BadSteps" "steps" C := by
  refine ⟨g, ec, no, fI, fd, I, F.ok sc4 (fun vs H Q E h => ?_) (fun cdv A outer s H vs Q E hr h => ?_), F.binds fun _ _ _ _ _ _ us hl => match us, hl with | [_, _], _ => rfl, fun a u s' => ?_⟩
  · obtain ⟨a, v, rfl, _⟩ := h
    rfl
  · obtain ⟨a, v, rfl, ha, k⟩ := h
    refine ⟨_, pss_one (ps_ost (pv 0) (pv 1)), ?_⟩
    exact ⟨_, rfl, _, rfl, a, C, rfl, I.ox, no, .inl ⟨ha, fun dx nd ne => k _ (init1_end ha nd ne).1 (init1_end ha nd ne).2⟩⟩
  · obtain ⟨oc, od, kV, doc, pm, an, cdv, ct, osl, rfl, _, _⟩ := F.ex
    exact .of_eq rfl
theorem sc5 : FnScope ["self", "turn"] ["self", "turn"] (defScope (inClass (topS 7) 0)) := ⟨rfl, rfl, rfl, by decide +kernel, rfl, by decide +kernel, by decide +kernel⟩
theorem e5 {C fI : Addr} {fd : FuncData} (F : Fun K "__init__" "BadTurn.__init__" (inClass (topS 7) 0) fI fd) (g : mg "BadTurn" = some (.ref C)) (I : ExcI K C fI) (ec : ExcC K C) (no : PySem.W.findIn K (.ref C) "turn" = some none) : E1 P w K mg base "BadTurn" "turn" C := by
  refine ⟨g, ec, no, fI, fd, I, F.ok sc5 (fun vs H Q E h => ?_) (fun cdv A outer s H vs Q E hr h => ?_), F.binds fun _ _ _ _ _ _ us hl => match us, hl with | [_, _], _ => rfl, fun a u s' => ?_⟩
  · obtain ⟨a, v, rfl, _⟩ := h
    rfl
  · obtain ⟨a, v, rfl, ha, k⟩ := h
    refine ⟨_, pss_one (ps_ost (pv 0) (pv 1)), ?_⟩
    exact ⟨_, rfl, _, rfl, a, C, rfl, I.ox, no, .inl ⟨ha, fun dx nd ne => k _ (init1_end ha nd ne).1 (init1_end ha nd ne).2⟩⟩
  · obtain ⟨oc, od, kV, doc, pm, an, cdv, ct, osl, rfl, _, _⟩ := F.ex
    exact .of_eq rfl
theorem sc6 : FnScope ["self", "turns"] ["self", "turns"] (defScope (inClass (topS 8) 0)) := ⟨rfl, rfl, rfl, by decide +kernel, rfl, by decide +kernel, by decide +kernel⟩
theorem e6 {C fI : Addr} {fd : FuncData} (F : Fun K "__init__" "BadTurns.__init__" (inClass (topS 8) 0) fI fd) (g : mg "BadTurns" = some (.ref C)) (I : ExcI K C fI) (ec : ExcC K C) (no : PySem.W.findIn K (.ref C) "turns" = some none) : E1 P w K mg base "BadTurns" "turns" C := by
  refine ⟨g, ec, no, fI, fd, I, F.ok sc6 (fun vs H Q E h => ?_) (fun cdv A outer s H vs Q E hr h => ?_), F.binds fun _ _ _ _ _ _ us hl => match us, hl with | [_, _], _ => rfl, fun a u s' => ?_⟩
  · obtain ⟨a, v, rfl, _⟩ := h
    rfl
  · obtain ⟨a, v, rfl, ha, k⟩ := h
    refine ⟨_, pss_one (ps_ost (pv 0) (pv 1)), ?_⟩
    exact ⟨_, rfl, _, rfl, a, C, rfl, I.ox, no, .inl ⟨ha, fun dx nd ne => k _ (init1_end ha nd ne).1 (init1_end ha nd ne).2⟩⟩
  · obtain ⟨oc, od, kV, doc, pm, an, cdv, ct, osl, rfl, _, _⟩ := F.ex
    exact .of_eq rfl
theorem sc7 : FnScope ["self", "plan"] ["self", "plan"] (defScope (inClass (topS 9) 0)) := ⟨rfl, rfl, rfl, by decide +kernel, rfl, by decide +kernel, by decide +kernel⟩
theorem e7 {C fI : Addr} {fd : FuncData} (F : Fun K "__init__" "BadPlan.__init__" (inClass (topS 9) 0) fI fd) (g : mg "BadPlan" = some (.ref C)) (I : ExcI K C fI) (ec : ExcC K C) (no : PySem.W.findIn K (.ref C) "plan" = some none) : E1 P w K mg base "BadPlan" "plan" C := by
  refine ⟨g, ec, no, fI, fd, I, F.ok sc7 (fun vs H Q E h => ?_) (fun cdv A outer s H vs Q E hr h => ?_), F.binds fun _ _ _ _ _ _ us hl => match us, hl with | [_, _], _ => rfl, fun a u s' => ?_⟩
  · obtain ⟨a, v, rfl, _⟩ := h
    rfl
  · obtain ⟨a, v, rfl, ha, k⟩ := h
    refine ⟨_, pss_one (ps_ost (pv 0) (pv 1)), ?_⟩
    exact ⟨_, rfl, _, rfl, a, C, rfl, I.ox, no, .inl ⟨ha, fun dx nd ne => k _ (init1_end ha nd ne).1 (init1_end ha nd ne).2⟩⟩
  · obtain ⟨oc, od, kV, doc, pm, an, cdv, ct, osl, rfl, _, _⟩ := F.ex
    exact .of_eq rfl
theorem sc8 : FnScope ["self", "lot"] ["self", "lot"] (defScope (inClass (topS 10) 0)) := ⟨rfl, rfl, rfl, by decide +kernel, rfl, by decide +kernel, by decide +kernel⟩
theorem e8 {C fI : Addr} {fd : FuncData} (F : Fun K "__init__" "BadLot.__init__" (inClass (topS 10) 0) fI fd) (g : mg "BadLot" = some (.ref C)) (I : ExcI K C fI) (ec : ExcC K C) (no : PySem.W.findIn K (.ref C) "lot" = some none) : E1 P w K mg base "BadLot" "lot" C := by
  refine ⟨g, ec, no, fI, fd, I, F.ok sc8 (fun vs H Q E h => ?_) (fun cdv A outer s H vs Q E hr h => ?_), F.binds fun _ _ _ _ _ _ us hl => match us, hl with | [_, _], _ => rfl, fun a u s' => ?_⟩
  · obtain ⟨a, v, rfl, _⟩ := h
    rfl
  · obtain ⟨a, v, rfl, ha, k⟩ := h
    refine ⟨_, pss_one (ps_ost (pv 0) (pv 1)), ?_⟩
    exact ⟨_, rfl, _, rfl, a, C, rfl, I.ox, no, .inl ⟨ha, fun dx nd ne => k _ (init1_end ha nd ne).1 (init1_end ha nd ne).2⟩⟩
  · obtain ⟨oc, od, kV, doc, pm, an, cdv, ct, osl, rfl, _, _⟩ := F.ex
    exact .of_eq rfl
theorem sc9 : FnScope ["self", "bell"] ["self", "bell"] (defScope (inClass (topS 11) 0)) := ⟨rfl, rfl, rfl, by decide +kernel, rfl, by decide +kernel, by decide +kernel⟩
theorem e9 {C fI : Addr} {fd : FuncData} (F : Fun K "__init__" "BadBell.__init__" (inClass (topS 11) 0) fI fd) (g : mg "BadBell" = some (.ref C)) (I : ExcI K C fI) (ec : ExcC K C) (no : PySem.W.findIn K (.ref C) "bell" = some none) : E1 P w K mg base "BadBell" "bell" C := by
  refine ⟨g, ec, no, fI, fd, I, F.ok sc9 (fun vs H Q E h => ?_) (fun cdv A outer s H vs Q E hr h => ?_), F.binds fun _ _ _ _ _ _ us hl => match us, hl with | [_, _], _ => rfl, fun a u s' => ?_⟩
  · obtain ⟨a, v, rfl, _⟩ := h
    rfl
  · obtain ⟨a, v, rfl, ha, k⟩ := h
    refine ⟨_, pss_one (ps_ost (pv 0) (pv 1)), ?_⟩
    exact ⟨_, rfl, _, rfl, a, C, rfl, I.ox, no, .inl ⟨ha, fun dx nd ne => k _ (init1_end ha nd ne).1 (init1_end ha nd ne).2⟩⟩
  · obtain ⟨oc, od, kV, doc, pm, an, cdv, ct, osl, rfl, _, _⟩ := F.ex
    exact .of_eq rfl
theorem sc10 : FnScope ["self", "amount"] ["self", "amount"] (defScope (inClass (topS 12) 0)) := ⟨rfl, rfl, rfl, by decide +kernel, rfl, by decide +kernel, by decide +kernel⟩
theorem e10 {C fI : Addr} {fd : FuncData} (F : Fun K "__init__" "BadAmount.__init__" (inClass (topS 12) 0) fI fd) (g : mg "BadAmount" = some (.ref C)) (I : ExcI K C fI) (ec : ExcC K C) (no : PySem.W.findIn K (.ref C) "amount" = some none) : E1 P w K mg base "BadAmount" "amount" C := by
  refine ⟨g, ec, no, fI, fd, I, F.ok sc10 (fun vs H Q E h => ?_) (fun cdv A outer s H vs Q E hr h => ?_), F.binds fun _ _ _ _ _ _ us hl => match us, hl with | [_, _], _ => rfl, fun a u s' => ?_⟩
  · obtain ⟨a, v, rfl, _⟩ := h
    rfl
  · obtain ⟨a, v, rfl, ha, k⟩ := h
    refine ⟨_, pss_one (ps_ost (pv 0) (pv 1)), ?_⟩
    exact ⟨_, rfl, _, rfl, a, C, rfl, I.ox, no, .inl ⟨ha, fun dx nd ne => k _ (init1_end ha nd ne).1 (init1_end ha nd ne).2⟩⟩
  · obtain ⟨oc, od, kV, doc, pm, an, cdv, ct, osl, rfl, _, _⟩ := F.ex
    exact .of_eq rfl
theorem sc11 : FnScope ["self", "moments"] ["self", "moments"] (defScope (inClass (topS 13) 0)) := ⟨rfl, rfl, rfl, by decide +kernel, rfl, by decide +kernel, by decide +kernel⟩
theorem e11 {C fI : Addr} {fd : FuncData} (F : Fun K "__init__" "BadMoments.__init__" (inClass (topS 13) 0) fI fd) (g : mg "BadMoments" = some (.ref C)) (I : ExcI K C fI) (ec : ExcC K C) (no : PySem.W.findIn K (.ref C) "moments" = some none) : E1 P w K mg base "BadMoments" "moments" C := by
  refine ⟨g, ec, no, fI, fd, I, F.ok sc11 (fun vs H Q E h => ?_) (fun cdv A outer s H vs Q E hr h => ?_), F.binds fun _ _ _ _ _ _ us hl => match us, hl with | [_, _], _ => rfl, fun a u s' => ?_⟩
  · obtain ⟨a, v, rfl, _⟩ := h
    rfl
  · obtain ⟨a, v, rfl, ha, k⟩ := h
    refine ⟨_, pss_one (ps_ost (pv 0) (pv 1)), ?_⟩
    exact ⟨_, rfl, _, rfl, a, C, rfl, I.ox, no, .inl ⟨ha, fun dx nd ne => k _ (init1_end ha nd ne).1 (init1_end ha nd ne).2⟩⟩
  · obtain ⟨oc, od, kV, doc, pm, an, cdv, ct, osl, rfl, _, _⟩ := F.ex
    exact .of_eq rfl
theorem sc12 : FnScope ["self", "order"] ["self", "order"] (defScope (inClass (topS 14) 0)) := ⟨rfl, rfl, rfl, by decide +kernel, rfl, by decide +kernel, by decide +kernel⟩
theorem e12 {C fI : Addr} {fd : FuncData} (F : Fun K "__init__" "BadOrder.__init__" (inClass (topS 14) 0) fI fd) (g : mg "BadOrder" = some (.ref C)) (I : ExcI K C fI) (ec : ExcC K C) (no : PySem.W.findIn K (.ref C) "order" = some none) : E1 P w K mg base "BadOrder" "order" C := by
  refine ⟨g, ec, no, fI, fd, I, F.ok sc12 (fun vs H Q E h => ?_) (fun cdv A outer s H vs Q E hr h => ?_), F.binds fun _ _ _ _ _ _ us hl => match us, hl with | [_, _], _ => rfl, fun a u s' => ?_⟩
  · obtain ⟨a, v, rfl, _⟩ := h
    rfl
  · obtain ⟨a, v, rfl, ha, k⟩ := h
    refine ⟨_, pss_one (ps_ost (pv 0) (pv 1)), ?_⟩
    exact ⟨_, rfl, _, rfl, a, C, rfl, I.ox, no, .inl ⟨ha, fun dx nd ne => k _ (init1_end ha nd ne).1 (init1_end ha nd ne).2⟩⟩
  · obtain ⟨oc, od, kV, doc, pm, an, cdv, ct, osl, rfl, _, _⟩ := F.ex
    exact .of_eq rfl
theorem sc13 : FnScope ["self", "wishes"] ["self", "wishes"] (defScope (inClass (topS 15) 0)) := ⟨rfl, rfl, rfl, by decide +kernel, rfl, by decide +kernel, by decide +kernel⟩
theorem e13 {C fI : Addr} {fd : FuncData} (F : Fun K "__init__" "BadWishes.__init__" (inClass (topS 15) 0) fI fd) (g : mg "BadWishes" = some (.ref C)) (I : ExcI K C fI) (ec : ExcC K C) (no : PySem.W.findIn K (.ref C) "wishes" = some none) : E1 P w K mg base "BadWishes" "wishes" C := by
  refine ⟨g, ec, no, fI, fd, I, F.ok sc13 (fun vs H Q E h => ?_) (fun cdv A outer s H vs Q E hr h => ?_), F.binds fun _ _ _ _ _ _ us hl => match us, hl with | [_, _], _ => rfl, fun a u s' => ?_⟩
  · obtain ⟨a, v, rfl, _⟩ := h
    rfl
  · obtain ⟨a, v, rfl, ha, k⟩ := h
    refine ⟨_, pss_one (ps_ost (pv 0) (pv 1)), ?_⟩
    exact ⟨_, rfl, _, rfl, a, C, rfl, I.ox, no, .inl ⟨ha, fun dx nd ne => k _ (init1_end ha nd ne).1 (init1_end ha nd ne).2⟩⟩
  · obtain ⟨oc, od, kV, doc, pm, an, cdv, ct, osl, rfl, _, _⟩ := F.ex
    exact .of_eq rfl
theorem sc14 : FnScope ["self", "index"] ["self", "index"] (defScope (inClass (topS 16) 0)) := ⟨rfl, rfl, rfl, by decide +kernel, rfl, by decide +kernel, by decide +kernel⟩
theorem e14 {C fI : Addr} {fd : FuncData} (F : Fun K "__init__" "BadParts.__init__" (inClass (topS 16) 0) fI fd) (g : mg "BadParts" = some (.ref C)) (I : ExcI K C fI) (ec : ExcC K C) (no : PySem.W.findIn K (.ref C) "index" = some none) : E1 P w K mg base "BadParts" "index" C := by
  refine ⟨g, ec, no, fI, fd, I, F.ok sc14 (fun vs H Q E h => ?_) (fun cdv A outer s H vs Q E hr h => ?_), F.binds fun _ _ _ _ _ _ us hl => match us, hl with | [_, _], _ => rfl, fun a u s' => ?_⟩
  · obtain ⟨a, v, rfl, _⟩ := h
    rfl
  · obtain ⟨a, v, rfl, ha, k⟩ := h
    refine ⟨_, pss_one (ps_ost (pv 0) (pv 1)), ?_⟩
    exact ⟨_, rfl, _, rfl, a, C, rfl, I.ox, no, .inl ⟨ha, fun dx nd ne => k _ (init1_end ha nd ne).1 (init1_end ha nd ne).2⟩⟩
  · obtain ⟨oc, od, kV, doc, pm, an, cdv, ct, osl, rfl, _, _⟩ := F.ex
    exact .of_eq rfl
theorem sc15 : FnScope ["self", "lot"] ["self", "lot"] (defScope (inClass (topS 17) 0)) := ⟨rfl, rfl, rfl, by decide +kernel, rfl, by decide +kernel, by decide +kernel⟩
theorem e15 {C fI : Addr} {fd : FuncData} (F : Fun K "__init__" "Never.__init__" (inClass (topS 17) 0) fI fd) (g : mg "Never" = some (.ref C)) (I : ExcI K C fI) (ec : ExcC K C) (no : PySem.W.findIn K (.ref C) "lot" = some none) : E1 P w K mg base "Never" "lot" C := by
  refine ⟨g, ec, no, fI, fd, I, F.ok sc15 (fun vs H Q E h => ?_) (fun cdv A outer s H vs Q E hr h => ?_), F.binds fun _ _ _ _ _ _ us hl => match us, hl with | [_, _], _ => rfl, fun a u s' => ?_⟩
  · obtain ⟨a, v, rfl, _⟩ := h
    rfl
  · obtain ⟨a, v, rfl, ha, k⟩ := h
    refine ⟨_, pss_one (ps_ost (pv 0) (pv 1)), ?_⟩
    exact ⟨_, rfl, _, rfl, a, C, rfl, I.ox, no, .inl ⟨ha, fun dx nd ne => k _ (init1_end ha nd ne).1 (init1_end ha nd ne).2⟩⟩
  · obtain ⟨oc, od, kV, doc, pm, an, cdv, ct, osl, rfl, _, _⟩ := F.ex
    exact .of_eq rfl
theorem sc16 : FnScope ["self", "door"] ["self", "door"] (defScope (inClass (topS 18) 0)) := ⟨rfl, rfl, rfl, by decide +kernel, rfl, by decide +kernel, by decide +kernel⟩
theorem e16 {C fI : Addr} {fd : FuncData} (F : Fun K "__init__" "BadDoor.__init__" (inClass (topS 18) 0) fI fd) (g : mg "BadDoor" = some (.ref C)) (I : ExcI K C fI) (ec : ExcC K C) (no : PySem.W.findIn K (.ref C) "door" = some none) : E1 P w K mg base "BadDoor" "door" C := by
  refine ⟨g, ec, no, fI, fd, I, F.ok sc16 (fun vs H Q E h => ?_) (fun cdv A outer s H vs Q E hr h => ?_), F.binds fun _ _ _ _ _ _ us hl => match us, hl with | [_, _], _ => rfl, fun a u s' => ?_⟩
  · obtain ⟨a, v, rfl, _⟩ := h
    rfl
  · obtain ⟨a, v, rfl, ha, k⟩ := h
    refine ⟨_, pss_one (ps_ost (pv 0) (pv 1)), ?_⟩
    exact ⟨_, rfl, _, rfl, a, C, rfl, I.ox, no, .inl ⟨ha, fun dx nd ne => k _ (init1_end ha nd ne).1 (init1_end ha nd ne).2⟩⟩
  · obtain ⟨oc, od, kV, doc, pm, an, cdv, ct, osl, rfl, _, _⟩ := F.ex
    exact .of_eq rfl
theorem sc17 : FnScope ["self", "door"] ["self", "door"] (defScope (inClass (topS 19) 0)) := ⟨rfl, rfl, rfl, by decide +kernel, rfl, by decide +kernel, by decide +kernel⟩
theorem e17 {C fI : Addr} {fd : FuncData} (F : Fun K "__init__" "SameDoor.__init__" (inClass (topS 19) 0) fI fd) (g : mg "SameDoor" = some (.ref C)) (I : ExcI K C fI) (ec : ExcC K C) (no : PySem.W.findIn K (.ref C) "door" = some none) : E1 P w K mg base "SameDoor" "door" C := by
  refine ⟨g, ec, no, fI, fd, I, F.ok sc17 (fun vs H Q E h => ?_) (fun cdv A outer s H vs Q E hr h => ?_), F.binds fun _ _ _ _ _ _ us hl => match us, hl with | [_, _], _ => rfl, fun a u s' => ?_⟩
  · obtain ⟨a, v, rfl, _⟩ := h
    rfl
  · obtain ⟨a, v, rfl, ha, k⟩ := h
    refine ⟨_, pss_one (ps_ost (pv 0) (pv 1)), ?_⟩
    exact ⟨_, rfl, _, rfl, a, C, rfl, I.ox, no, .inl ⟨ha, fun dx nd ne => k _ (init1_end ha nd ne).1 (init1_end ha nd ne).2⟩⟩
  · obtain ⟨oc, od, kV, doc, pm, an, cdv, ct, osl, rfl, _, _⟩ := F.ex
    exact .of_eq rfl
theorem sc18 : FnScope ["self", "lot"] ["self", "lot"] (defScope (inClass (topS 20) 0)) := ⟨rfl, rfl, rfl, by decide +kernel, rfl, by decide +kernel, by decide +kernel⟩
theorem e18 {C fI : Addr} {fd : FuncData} (F : Fun K "__init__" "NotKept.__init__" (inClass (topS 20) 0) fI fd) (g : mg "NotKept" = some (.ref C)) (I : ExcI K C fI) (ec : ExcC K C) (no : PySem.W.findIn K (.ref C) "lot" = some none) : E1 P w K mg base "NotKept" "lot" C := by
  refine ⟨g, ec, no, fI, fd, I, F.ok sc18 (fun vs H Q E h => ?_) (fun cdv A outer s H vs Q E hr h => ?_), F.binds fun _ _ _ _ _ _ us hl => match us, hl with | [_, _], _ => rfl, fun a u s' => ?_⟩
  · obtain ⟨a, v, rfl, _⟩ := h
    rfl
  · obtain ⟨a, v, rfl, ha, k⟩ := h
    refine ⟨_, pss_one (ps_ost (pv 0) (pv 1)), ?_⟩
    exact ⟨_, rfl, _, rfl, a, C, rfl, I.ox, no, .inl ⟨ha, fun dx nd ne => k _ (init1_end ha nd ne).1 (init1_end ha nd ne).2⟩⟩
  · obtain ⟨oc, od, kV, doc, pm, an, cdv, ct, osl, rfl, _, _⟩ := F.ex
    exact .of_eq rfl
theorem sc19 : FnScope ["self", "numbers"] ["self", "numbers"] (defScope (inClass (topS 21) 0)) := ⟨rfl, rfl, rfl, by decide +kernel, rfl, by decide +kernel, by decide +kernel⟩
theorem e19 {C fI : Addr} {fd : FuncData} (F : Fun K "__init__" "BadNumbers.__init__" (inClass (topS 21) 0) fI fd) (g : mg "BadNumbers" = some (.ref C)) (I : ExcI K C fI) (ec : ExcC K C) (no : PySem.W.findIn K (.ref C) "numbers" = some none) : E1 P w K mg base "BadNumbers" "numbers" C := by
  refine ⟨g, ec, no, fI, fd, I, F.ok sc19 (fun vs H Q E h => ?_) (fun cdv A outer s H vs Q E hr h => ?_), F.binds fun _ _ _ _ _ _ us hl => match us, hl with | [_, _], _ => rfl, fun a u s' => ?_⟩
  · obtain ⟨a, v, rfl, _⟩ := h
    rfl
  · obtain ⟨a, v, rfl, ha, k⟩ := h
    refine ⟨_, pss_one (ps_ost (pv 0) (pv 1)), ?_⟩
    exact ⟨_, rfl, _, rfl, a, C, rfl, I.ox, no, .inl ⟨ha, fun dx nd ne => k _ (init1_end ha nd ne).1 (init1_end ha nd ne).2⟩⟩
  · obtain ⟨oc, od, kV, doc, pm, an, cdv, ct, osl, rfl, _, _⟩ := F.ex
    exact .of_eq rfl
theorem sc20 : FnScope ["self", "prices"] ["self", "prices"] (defScope (inClass (topS 22) 0)) := ⟨rfl, rfl, rfl, by decide +kernel, rfl, by decide +kernel, by decide +kernel⟩
theorem e20 {C fI : Addr} {fd : FuncData} (F : Fun K "__init__" "BadPrices.__init__" (inClass (topS 22) 0) fI fd) (g : mg "BadPrices" = some (.ref C)) (I : ExcI K C fI) (ec : ExcC K C) (no : PySem.W.findIn K (.ref C) "prices" = some none) : E1 P w K mg base "BadPrices" "prices" C := by
  refine ⟨g, ec, no, fI, fd, I, F.ok sc20 (fun vs H Q E h => ?_) (fun cdv A outer s H vs Q E hr h => ?_), F.binds fun _ _ _ _ _ _ us hl => match us, hl with | [_, _], _ => rfl, fun a u s' => ?_⟩
  · obtain ⟨a, v, rfl, _⟩ := h
    rfl
  · obtain ⟨a, v, rfl, ha, k⟩ := h
    refine ⟨_, pss_one (ps_ost (pv 0) (pv 1)), ?_⟩
    exact ⟨_, rfl, _, rfl, a, C, rfl, I.ox, no, .inl ⟨ha, fun dx nd ne => k _ (init1_end ha nd ne).1 (init1_end ha nd ne).2⟩⟩
  · obtain ⟨oc, od, kV, doc, pm, an, cdv, ct, osl, rfl, _, _⟩ := F.ex
    exact .of_eq rfl
theorem sc22 : FnScope ["self", "loads"] ["self", "loads"] (defScope (inClass (topS 24) 0)) := ⟨rfl, rfl, rfl, by decide +kernel, rfl, by decide +kernel, by decide +kernel⟩
theorem e22 {C fI : Addr} {fd : FuncData} (F : Fun K "__init__" "BadLoads.__init__" (inClass (topS 24) 0) fI fd) (g : mg "BadLoads" = some (.ref C)) (I : ExcI K C fI) (ec : ExcC K C) (no : PySem.W.findIn K (.ref C) "loads" = some none) : E1 P w K mg base "BadLoads" "loads" C := by
  refine ⟨g, ec, no, fI, fd, I, F.ok sc22 (fun vs H Q E h => ?_) (fun cdv A outer s H vs Q E hr h => ?_), F.binds fun _ _ _ _ _ _ us hl => match us, hl with | [_, _], _ => rfl, fun a u s' => ?_⟩
  · obtain ⟨a, v, rfl, _⟩ := h
    rfl
  · obtain ⟨a, v, rfl, ha, k⟩ := h
    refine ⟨_, pss_one (ps_ost (pv 0) (pv 1)), ?_⟩
    exact ⟨_, rfl, _, rfl, a, C, rfl, I.ox, no, .inl ⟨ha, fun dx nd ne => k _ (init1_end ha nd ne).1 (init1_end ha nd ne).2⟩⟩
  · obtain ⟨oc, od, kV, doc, pm, an, cdv, ct, osl, rfl, _, _⟩ := F.ex
    exact .of_eq rfl
theorem sc23 : FnScope ["self", "lot", "left"] ["self", "lot", "left"] (defScope (inClass (topS 25) 0)) := ⟨rfl, rfl, rfl, by decide +kernel, rfl, by decide +kernel, by decide +kernel⟩
theorem e23 {C fI : Addr} {fd : FuncData} (F : Fun K "__init__" "Lacks.__init__" (inClass (topS 25) 0) fI fd) (g : mg "Lacks" = some (.ref C)) (I : ExcI K C fI) (ec : ExcC K C) (no : PySem.W.findIn K (.ref C) "lot" = some none) (no2 : PySem.W.findIn K (.ref C) "left" = some none) : E2 P w K mg base "Lacks" "lot" "left" C := by
  refine ⟨g, ec, no, no2, fI, fd, I, F.ok sc23 (fun vs H Q E h => ?_) (fun cdv A outer s H vs Q E hr h => ?_), F.binds fun _ _ _ _ _ _ us hl => match us, hl with | [_, _, _], _ => rfl, fun a u v s' => ?_⟩
  · obtain ⟨a, v, w, rfl, _⟩ := h
    rfl
  · obtain ⟨a, v, w, rfl, ha, k⟩ := h
    refine ⟨_, pss_cons (ps_ost (pv 0) (pv 1)) (pss_one (ps_ost (pv 0) (pv 2))), ?_⟩
    refine ⟨_, rfl, _, rfl, a, C, rfl, I.ox, no, .inl ⟨ha, fun dx nd ne => ?_⟩⟩
    refine ⟨_, rfl, _, rfl, a, C, rfl, I.ox, no2, .inr ⟨dx, [("lot", v)], upd_same, ?_, by show 1 ≤ 900; decide, ?_⟩⟩
    · rw [upd_ne ne]
      exact upd_same
    · exact k _ (init2_end ha nd ne).1 (init2_end ha nd ne).2
  · obtain ⟨oc, od, kV, doc, pm, an, cdv, ct, osl, rfl, _, _⟩ := F.ex
    exact .of_eq rfl
theorem sc24 : FnScope ["self", "loads"] ["self", "loads"] (defScope (inClass (topS 26) 0)) := ⟨rfl, rfl, rfl, by decide +kernel, rfl, by decide +kernel, by decide +kernel⟩
theorem e24 {C fI : Addr} {fd : FuncData} (F : Fun K "__init__" "NotBooked.__init__" (inClass (topS 26) 0) fI fd) (g : mg "NotBooked" = some (.ref C)) (I : ExcI K C fI) (ec : ExcC K C) (no : PySem.W.findIn K (.ref C) "loads" = some none) : E1 P w K mg base "NotBooked" "loads" C := by
  refine ⟨g, ec, no, fI, fd, I, F.ok sc24 (fun vs H Q E h => ?_) (fun cdv A outer s H vs Q E hr h => ?_), F.binds fun _ _ _ _ _ _ us hl => match us, hl with | [_, _], _ => rfl, fun a u s' => ?_⟩
  · obtain ⟨a, v, rfl, _⟩ := h
    rfl
  · obtain ⟨a, v, rfl, ha, k⟩ := h
    refine ⟨_, pss_one (ps_ost (pv 0) (pv 1)), ?_⟩
    exact ⟨_, rfl, _, rfl, a, C, rfl, I.ox, no, .inl ⟨ha, fun dx nd ne => k _ (init1_end ha nd ne).1 (init1_end ha nd ne).2⟩⟩
  · obtain ⟨oc, od, kV, doc, pm, an, cdv, ct, osl, rfl, _, _⟩ := F.ex
    exact .of_eq rfl
end
end K00

set_option Elab.async false
set_option linter.all false
set_option maxRecDepth 100000
set_option maxHeartbeats 4000000
namespace K00
open PySem PySem.Spec PyProof.Rows L2 Own LamX
theorem scErr : FnScope ["_law_x", "_law_y", "_law_found"] ["_law_x", "_law_y"] (defScope sErrors) := ⟨rfl, rfl, rfl, by decide +kernel, rfl, by decide +kernel, by decide +kernel⟩
/-- a def of the text whose code object stands at c -/
structure FunC (K : PySem.W.Frag) (x qual : Str) (st : Stmt) (f : Addr) (fd : FuncData) (c : Addr) : Prop where
  ex : ∃ (oc : Value) (od : Option Addr) (kV doc pm : Value) (an : Option Addr) (ct : Value) (osl : Array (Option Value)),
    fd = PySem.W.fnOf x qual (defArgs st) (defBody st) (defScope st) .none kV doc pm an (.ref c) ct ∧ K.lookup f = some ⟨oc, od, .func fd, osl⟩ ∧ PySem.W.codeIn K (.ref c) qual = true
  kp : PySem.W.keepIn K (.ref f) = true
theorem FunC.ok {P : Program} {w : World} {K : PySem.W.Frag} {mg : Str → Option Value} {base : Heap} {x qual : Str} {st : Stmt} {f c : Addr} {fd : FuncData} {N ps : List Str} {k : Nat} {sp : Sp} (F : FunC K x qual st f fd c) (S : FnScope N ps (defScope st)) (len : ∀ vs H Q E, sp vs H Q E → vs.length = ps.length)
    (hbody : ∀ (A : Around) (outer : List Env) (s : Shared) (H : Hp) (vs : List V) (Q : VK) (E : XK), Room k (A.deeper (envOfC qual (defScope st) s.heap.objs.size f (.ref c))) → sp vs H Q E →
      ∃ t, PSs (cxOf CX0 P w K mg base N qual (defScope st) f (.ref c) A outer s H E).nox (defBody st) t ∧ t { nx := fun _ H' => Q .non H', rt := Q } (L2.start N vs) H) : FnOk P w K mg base CX0 (k + 1) f fd ps sp := by
  obtain ⟨oc, od, kV, doc, pm, an, ct, osl, rfl, lk, hcd⟩ := F.ex
  refine fn_of lk hcd S len fun A outer s H vs Q E hr hsp => ?_
  obtain ⟨t, h, q⟩ := hbody A outer s H vs Q E hr hsp
  exact ⟨t, h.nox, q⟩
theorem FunC.binds {K : PySem.W.Frag} {x qual : Str} {st : Stmt} {f c : Addr} {fd : FuncData} {ps : List Str} (F : FunC K x qual st f fd c)
    (h : ∀ (kV doc pm : Value) (an : Option Addr) (cdv ct : Value) (us : List Value), us.length = ps.length → bindArgs (PySem.W.fnOf x qual (defArgs st) (defBody st) (defScope st) .none kV doc pm an cdv ct) ⟨us, []⟩ = pure (ps.zip us)) : Binds K fd ps [] := by
  obtain ⟨oc, od, kV, doc, pm, an, ct, osl, rfl, lk, hcd⟩ := F.ex
  exact .all (h kV doc pm an (.ref c) ct)
theorem PS.imp {X : Cx} {st : Stmt} {t t' : TS} (h : PS X st t) (k : ∀ D σ H, t' D σ H → t D σ H) : PS X st t' := ⟨fun pins s σ H D I q => h.run pins s σ H D I (k D σ H q)⟩
/-- behind j rows -/
structure Good (T : List (Addr × Str)) (C : Nat → Addr) (H0 : Hp) (vx vy : V) (p : Addr) (j : Nat) (σ : L2.St) (H : Hp) : Prop where
  s : σ = [some vx, some vy, some (.ref p)]
  e : ExtN H0 H
  t : Tabs T H
  n : H0 p = none
  r : Rows C H0 H p vx vy j
def tStep (T : List (Addr × Str)) (C : Nat → Addr) (j : Nat) : TS := fun D σ H => ∃ (H0 : Hp) (vx vy : V) (p : Addr), Good T C H0 vx vy p j σ H ∧ ∀ H', Good T C H0 vx vy p (j + 1) σ H' → D.nx σ H'
theorem fresh_of {H0 H : Hp} {d : Addr} (e : ExtN H0 H) (h : H d = none) : ∀ o, H0 d = some o → ∃ tb, o = .tbl tb := fun o z => by
  cases o with
  | tbl t => exact ⟨t, rfl⟩
  | _ =>
    have q := e _ _ z (fun t y => by cases y)
    rw [h] at q
    cases q
/-- the row's end: the list of what is due, the tuple, the append -/
theorem row_end {T : List (Addr × Str)} {C : Nat → Addr} {H0 H H3 : Hp} {vx vy : V} {p m n f : Addr} {j : Nat} {σ : L2.St} (g : Good T C H0 vx vy p j σ H) (e : ExtN H H3) (T3 : Tabs T H3) (xm : ExcAt H3 m (C j) (fldJ vx vy j)) (xn : ExcAt H3 n (C j) (fldJ vx vy j))
    (la : LamAt H3 f qLam (lamJ j).1 (lamJ j).2.1 (lamJ j).2.2) {d t : Addr} (hd : H3 d = none) (ht : upd H3 d (.lst (dueJ vx vy j)) t = none) {ts : List V} (hp : H p = some (.lst ts)) :
    Good T C H0 vx vy p (j + 1) σ (upd (upd (upd H3 d (.lst (dueJ vx vy j))) t (.tup [.ref m, .ref n, .ref f, .ref d])) p (.lst (ts ++ [.ref t]))) := by
  have hp3 : H3 p = some (.lst ts) := e _ _ hp (fun t z => by cases z)
  have s1 := same_new (o := HO.lst (dueJ vx vy j)) hd
  have s2 := same_new (o := HO.tup [.ref m, .ref n, .ref f, .ref d]) ht
  have s12 := s1.trans s2
  have e5 := e.trans (ext_of s12)
  have ndp : d ≠ p := fun z => by
    rw [z, hp3] at hd
    cases hd
  have e05 := g.e.trans e5
  have r5 : Row C H0 (upd (upd H3 d (.lst (dueJ vx vy j))) t (.tup [.ref m, .ref n, .ref f, .ref d])) p vx vy j t :=
    ⟨m, n, f, d, upd_same, xm.keep fun b o z _ => s12 _ _ z, xn.keep fun b o z _ => s12 _ _ z, la.ext (ext_of s12), s2 _ _ upd_same, ndp, fresh_of (g.e.trans e) hd⟩
  have R5 := (g.r.ext e5).more (s12 _ _ hp3) r5
  refine ⟨g.s, fun b o z nt => ?_, fun q hq => ?_, g.n, R5⟩
  · have nb : b ≠ p := fun y => by
      rw [y, g.n] at z
      cases z
    rw [upd_ne nb]
    exact e05 _ _ z nt
  · obtain ⟨tb, a1, a2, a3⟩ := (T3.ext s12) q hq
    refine ⟨tb, ?_, a2, fun p2 cv hc => ?_⟩
    · have nq : q.1 ≠ p := fun y => by
        rw [y, s12 _ _ hp3] at a1
        cases a1
      rw [upd_ne nq]
      exact a1
    · obtain ⟨c, b1, b2⟩ := a3 p2 cv hc
      refine ⟨c, b1, ?_⟩
      have nq : c ≠ p := fun y => by
        rw [y, s12 _ _ hp3] at b2
        cases b2
      rw [upd_ne nq]
      exact b2
theorem j_fit {j : Nat} {ts : List V} (h : ts.length = j) (hj : j < 30) : ts.length < sizeLine := by
  rw [h]
  exact Nat.lt_trans hj (by decide)
section
variable {P : Program} {w : World} {K : PySem.W.Frag} {mg : Str → Option Value} {base : Heap} {fE cE tP : Addr} {A : Around} {outer : List Env} {s : Shared} {H : Hp} {E : XK} {C : Nat → Addr} {T : List (Addr × Str)}
abbrev cxE (P : Program) (w : World) (K : PySem.W.Frag) (mg : Str → Option Value) (base : Heap) (fE cE : Addr) (A : Around) (outer : List Env) (s : Shared) (H : Hp) (E : XK) : Cx :=
  (cxOf CX0 P w K mg base ["_law_x", "_law_y", "_law_found"] "_law_errors" (defScope sErrors) fE (.ref cE) A outer s H E).nox
theorem ps_row1 {x f : Str} {j : Nat} {p1 p2 p3 p4 p5 p6 p7 p8 p9 p10 p11 p12 p13 p14 p15 : Pos} {kk : Nat} {ps : Arguments} {bd : Expr} {sc : Scope} (E1x : E1 P w K mg base x f (C j)) (hr : Room 2 (cxE P w K mg base fE cE A outer s H E).A)
    (TB : TabB base mg cE tP) (hm : (tP, qLam) ∈ T) (hu : ∀ p ∈ T, p.1 = tP → p.2 = qLam) (hj : j < 30) (hf : ∀ vx vy, fldJ vx vy j = [(f, vx)]) (hd : ∀ vx vy, dueJ vx vy j = [vx]) (hl : lamJ j = (ps, bd, sc))
    (hg : Gl (cxE P w K mg base fE cE A outer s H E) x) (hdb : (x == ("__debug__" : Str)) = false) (hdef : defaultsOf ps (cxE P w K mg base fE cE A outer s H E).env = ([], [])) (hclo : cloFrom (cxE P w K mg base fE cE A outer s H E).env.cells sc.names [] = []) (hnf : ∀ y ∈ sc.names, y.2 ≠ .free)
    (hsh1 : p2.endLine == p14.line) :
    PS (cxE P w K mg base fE cE A outer s H E) (.Expr (.Call (.Attribute (.Name "_law_found" p1) "append" p2) [.Tuple [.Call (.Name x p3) [.Name "_law_x" p4] [] p5, .Call (.Name x p6) [] [⟨some f, .Name "_law_x" p7, p8⟩] p9, .Lambda ps bd sc p10, .List [.Name "_law_x" p11] p12] kk p13] [] p14) p15) (tStep T C j) := by
  refine PS.imp (ps_expr (pe_bm PySem.F.plainAttrs_list PySem.F.slot_list_append PySem.F.type_list_append mt_append (hline := hsh1) (pv 2) (pa_cons (pe_tup (pa_cons (pe_E1 E1x hr hg (pv 0) (mono_var 0) hdb) (pa_cons (pe_E1k E1x hr hg (pv 0) (mono_var 0) hdb) (pa_cons (pe_lam (T := T) TB rfl hm hu hdef hclo hnf) (pa_cons (pe_lst (pa_cons (pv 0) pa_nil)) pa_nil))))) pa_nil))) fun D σ H1 q => ?_
  obtain ⟨H0, vx, vy, p, g, k⟩ := q
  obtain ⟨ts, hp, hlen, _⟩ := g.r.ex
  have hs := g.s
  subst hs
  refine ⟨_, rfl, .inl ⟨rfl, _, SqL.of hp⟩, ?_⟩
  refine ⟨_, rfl, fun m H2 nm k2 xm => ⟨_, rfl, fun n H3 nn k3 xn => ⟨(g.t.ext k2).ext k3, fun fl H4 e4 T4 nf la => ⟨_, rfl, by show 1 ≤ sizeLine; decide, fun d nd => ⟨by show 4 ≤ sizeLine; decide, fun t nt => ?_⟩⟩⟩⟩⟩
  have e14 : ExtN H1 H4 := ((ExtN.of k2).trans (ExtN.of k3)).trans e4
  have ed : upd H4 d (.lst (dueJ vx vy j)) = upd H4 d (.lst [vx]) := by rw [hd vx vy]
  have z := row_end g e14 T4 (m := m) (n := n) (f := fl) (d := d) (t := t) (by rw [hf vx vy]; exact (xm.keep fun b o y _ => k3 _ _ y).keep e4) (by rw [hf vx vy]; exact xn.keep e4) (by rw [hl]; exact la) nd (by rw [ed]; exact nt) hp
  rw [ed] at z
  have hp4 : H4 p = some (.lst ts) := e14 _ _ hp (fun t z => by cases z)
  refine ⟨p, ts, .ref t, rfl, rfl, ?_, j_fit hlen hj, k _ z⟩
  exact same_new nt _ _ (same_new nd _ _ hp4)
theorem ps_row0 {x : Str} {j : Nat} {p1 p2 p3 p5 p6 p9 p10 p12 p13 p14 p15 : Pos} {kk : Nat} {ps : Arguments} {bd : Expr} {sc : Scope} (q0 : PySem.W.excIn K (C j) He.veBase "ValueError.__new__" = true) (gC : mg x = some (.ref (C j))) (kC : PySem.W.keepIn K (.ref (C j)) = true) (hr : Room 2 (cxE P w K mg base fE cE A outer s H E).A)
    (TB : TabB base mg cE tP) (hm : (tP, qLam) ∈ T) (hu : ∀ p ∈ T, p.1 = tP → p.2 = qLam) (hj : j < 30) (hf : ∀ vx vy, fldJ vx vy j = []) (hd : ∀ vx vy, dueJ vx vy j = []) (hl : lamJ j = (ps, bd, sc))
    (hg : Gl (cxE P w K mg base fE cE A outer s H E) x) (hdb : (x == ("__debug__" : Str)) = false) (hdef : defaultsOf ps (cxE P w K mg base fE cE A outer s H E).env = ([], [])) (hclo : cloFrom (cxE P w K mg base fE cE A outer s H E).env.cells sc.names [] = []) (hnf : ∀ y ∈ sc.names, y.2 ≠ .free)
    (hsh1 : p2.endLine == p14.line) :
    PS (cxE P w K mg base fE cE A outer s H E) (.Expr (.Call (.Attribute (.Name "_law_found" p1) "append" p2) [.Tuple [.Call (.Name x p3) [] [] p5, .Call (.Name x p6) [] [] p9, .Lambda ps bd sc p10, .List [] p12] kk p13] [] p14) p15) (tStep T C j) := by
  refine PS.imp (ps_expr (pe_bm PySem.F.plainAttrs_list PySem.F.slot_list_append PySem.F.type_list_append mt_append (hline := hsh1) (pv 2) (pa_cons (pe_tup (pa_cons (pe_E0 PySem.F.excBase_ValueError q0 gC kC hg hdb) (pa_cons (pe_E0 PySem.F.excBase_ValueError q0 gC kC hg hdb) (pa_cons (pe_lam (T := T) TB rfl hm hu hdef hclo hnf) (pa_cons (pe_lst pa_nil) pa_nil))))) pa_nil))) fun D σ H1 q => ?_
  obtain ⟨H0, vx, vy, p, g, k⟩ := q
  obtain ⟨ts, hp, hlen, _⟩ := g.r.ex
  have hs := g.s
  subst hs
  refine ⟨_, rfl, .inl ⟨rfl, _, SqL.of hp⟩, ?_⟩
  refine fun m H2 nm k2 xm => fun n H3 nn k3 xn => ⟨(g.t.ext k2).ext k3, fun fl H4 e4 T4 nf la => ⟨Nat.zero_le _, fun d nd => ⟨by show 4 ≤ sizeLine; decide, fun t nt => ?_⟩⟩⟩
  have e14 : ExtN H1 H4 := ((ExtN.of k2).trans (ExtN.of k3)).trans e4
  have ed : upd H4 d (.lst (dueJ vx vy j)) = upd H4 d (.lst []) := by rw [hd vx vy]
  have z := row_end g e14 T4 (m := m) (n := n) (f := fl) (d := d) (t := t) (by rw [hf vx vy]; exact (xm.keep fun b o y _ => k3 _ _ y).keep e4) (by rw [hf vx vy]; exact xn.keep e4) (by rw [hl]; exact la) nd (by rw [ed]; exact nt) hp
  rw [ed] at z
  have hp4 : H4 p = some (.lst ts) := e14 _ _ hp (fun t z => by cases z)
  refine ⟨p, ts, .ref t, rfl, rfl, ?_, j_fit hlen hj, k _ z⟩
  exact same_new nt _ _ (same_new nd _ _ hp4)
theorem ps_row2 {x f h : Str} {j : Nat} {p1 p2 p3 p4 p4' p5 p6 p7 p8 p7' p8' p9 p10 p11 p11' p12 p13 p14 p15 : Pos} {kk : Nat} {ps : Arguments} {bd : Expr} {sc : Scope} (E2x : E2 P w K mg base x f h (C j)) (hr : Room 2 (cxE P w K mg base fE cE A outer s H E).A)
    (TB : TabB base mg cE tP) (hm : (tP, qLam) ∈ T) (hu : ∀ p ∈ T, p.1 = tP → p.2 = qLam) (hj : j < 30) (hf : ∀ vx vy, fldJ vx vy j = [(h, vy), (f, vx)]) (hd : ∀ vx vy, dueJ vx vy j = [vx, vy]) (hl : lamJ j = (ps, bd, sc))
    (hg : Gl (cxE P w K mg base fE cE A outer s H E) x) (hdb : (x == ("__debug__" : Str)) = false) (hdef : defaultsOf ps (cxE P w K mg base fE cE A outer s H E).env = ([], [])) (hclo : cloFrom (cxE P w K mg base fE cE A outer s H E).env.cells sc.names [] = []) (hnf : ∀ y ∈ sc.names, y.2 ≠ .free)
    (hsh1 : p2.endLine == p14.line) :
    PS (cxE P w K mg base fE cE A outer s H E) (.Expr (.Call (.Attribute (.Name "_law_found" p1) "append" p2) [.Tuple [.Call (.Name x p3) [.Name "_law_x" p4, .Name "_law_y" p4'] [] p5, .Call (.Name x p6) [] [⟨some h, .Name "_law_y" p7, p8⟩, ⟨some f, .Name "_law_x" p7', p8'⟩] p9, .Lambda ps bd sc p10, .List [.Name "_law_x" p11, .Name "_law_y" p11'] p12] kk p13] [] p14) p15) (tStep T C j) := by
  refine PS.imp (ps_expr (pe_bm PySem.F.plainAttrs_list PySem.F.slot_list_append PySem.F.type_list_append mt_append (hline := hsh1) (pv 2) (pa_cons (pe_tup (pa_cons (pe_E2 E2x hr hg (pv 0) (pv 1) (mono_var 0) (mono_var 1) hdb) (pa_cons (pe_E2k E2x hr hg (pv 1) (pv 0) (mono_var 1) (mono_var 0) hdb) (pa_cons (pe_lam (T := T) TB rfl hm hu hdef hclo hnf) (pa_cons (pe_lst (pa_cons (pv 0) (pa_cons (pv 1) pa_nil))) pa_nil))))) pa_nil))) fun D σ H1 q => ?_
  obtain ⟨H0, vx, vy, p, g, k⟩ := q
  obtain ⟨ts, hp, hlen, _⟩ := g.r.ex
  have hs := g.s
  subst hs
  refine ⟨_, rfl, .inl ⟨rfl, _, SqL.of hp⟩, ?_⟩
  refine ⟨_, rfl, _, rfl, fun m H2 nm k2 xm => ⟨_, rfl, _, rfl, fun n H3 nn k3 xn => ⟨(g.t.ext k2).ext k3, fun fl H4 e4 T4 nf la => ⟨_, rfl, _, rfl, by show 2 ≤ sizeLine; decide, fun d nd => ⟨by show 4 ≤ sizeLine; decide, fun t nt => ?_⟩⟩⟩⟩⟩
  have e14 : ExtN H1 H4 := ((ExtN.of k2).trans (ExtN.of k3)).trans e4
  have ed : upd H4 d (.lst (dueJ vx vy j)) = upd H4 d (.lst [vx, vy]) := by rw [hd vx vy]
  have z := row_end g e14 T4 (m := m) (n := n) (f := fl) (d := d) (t := t) (by rw [hf vx vy]; exact (xm.keep fun b o y _ => k3 _ _ y).keep e4) (by rw [hf vx vy]; exact xn.keep e4) (by rw [hl]; exact la) nd (by rw [ed]; exact nt) hp
  rw [ed] at z
  have hp4 : H4 p = some (.lst ts) := e14 _ _ hp (fun t z => by cases z)
  refine ⟨p, ts, .ref t, rfl, rfl, ?_, j_fit hlen hj, k _ z⟩
  exact same_new nt _ _ (same_new nd _ _ hp4)
/-- what is known of all the classes -/
structure Es (P : Program) (w : World) (K : PySem.W.Frag) (mg : Str → Option Value) (base : Heap) (C : Nat → Addr) : Prop where
  e0 : E1 P w K mg base "BadHouse" "thing" (C 0)
  e1 : E1 P w K mg base "BadPlaces" "places" (C 1)
  e2 : E1 P w K mg base "BadRoads" "index" (C 2)
  e3 : E1 P w K mg base "BadDoors" "index" (C 3)
  e4 : E1 P w K mg base "BadSteps" "steps" (C 4)
  e5 : E1 P w K mg base "BadTurn" "turn" (C 5)
  e6 : E1 P w K mg base "BadTurns" "turns" (C 6)
  e7 : E1 P w K mg base "BadPlan" "plan" (C 7)
  e8 : E1 P w K mg base "BadLot" "lot" (C 8)
  e9 : E1 P w K mg base "BadBell" "bell" (C 9)
  e10 : E1 P w K mg base "BadAmount" "amount" (C 10)
  e11 : E1 P w K mg base "BadMoments" "moments" (C 11)
  e12 : E1 P w K mg base "BadOrder" "order" (C 12)
  e13 : E1 P w K mg base "BadWishes" "wishes" (C 13)
  e14 : E1 P w K mg base "BadParts" "index" (C 14)
  e15 : E1 P w K mg base "Never" "lot" (C 15)
  e16 : E1 P w K mg base "BadDoor" "door" (C 16)
  e17 : E1 P w K mg base "SameDoor" "door" (C 17)
  e18 : E1 P w K mg base "NotKept" "lot" (C 18)
  e19 : E1 P w K mg base "BadNumbers" "numbers" (C 19)
  e20 : E1 P w K mg base "BadPrices" "prices" (C 20)
  q21 : PySem.W.excIn K (C 21) He.veBase "ValueError.__new__" = true
  g21 : mg "OtherDoors" = some (.ref (C 21))
  k21 : PySem.W.keepIn K (.ref (C 21)) = true
  e22 : E1 P w K mg base "BadLoads" "loads" (C 22)
  e23 : E2 P w K mg base "Lacks" "lot" "left" (C 23)
  e24 : E1 P w K mg base "NotBooked" "loads" (C 24)
def spErr (C : Nat → Addr) (T : List (Addr × Str)) : Sp := fun vs H Q _ => ∃ vx vy : V, vs = [vx, vy] ∧ Tabs T H ∧ ∀ H' p, ExtN H H' → Tabs T H' → H p = none → Rows C H H' p vx vy 25 → Q (.ref p) H'
theorem ok_errors {f c tP : Addr} {fd : FuncData} (F : FunC K "_law_errors" "_law_errors" sErrors f fd c) (S : Es P w K mg base C) (TB : TabB base mg c tP) (hm : (tP, qLam) ∈ T) (hu : ∀ p ∈ T, p.1 = tP → p.2 = qLam) :
    FnOk P w K mg base CX0 3 f fd ["_law_x", "_law_y"] (spErr C T) := by
  refine F.ok scErr (fun vs H Q E h => ?_) (fun A outer s H vs Q E hr h => ?_)
  · obtain ⟨vx, vy, rfl, _⟩ := h
    rfl
  · obtain ⟨vx, vy, rfl, hT, k⟩ := h
    refine ⟨_, pss_cons (ps_set (i := 2) scErr.nd rfl (Or.inl rfl) (pe_lst pa_nil)) (
      pss_cons (ps_row1 (j := 0) S.e0 hr TB hm hu (by decide) (fun _ _ => rfl) (fun _ _ => rfl) rfl rfl (by decide) rfl rfl (by decide +kernel) rfl) (
      pss_cons (ps_row1 (j := 1) S.e1 hr TB hm hu (by decide) (fun _ _ => rfl) (fun _ _ => rfl) rfl rfl (by decide) rfl rfl (by decide +kernel) rfl) (
      pss_cons (ps_row1 (j := 2) S.e2 hr TB hm hu (by decide) (fun _ _ => rfl) (fun _ _ => rfl) rfl rfl (by decide) rfl rfl (by decide +kernel) rfl) (
      pss_cons (ps_row1 (j := 3) S.e3 hr TB hm hu (by decide) (fun _ _ => rfl) (fun _ _ => rfl) rfl rfl (by decide) rfl rfl (by decide +kernel) rfl) (
      pss_cons (ps_row1 (j := 4) S.e4 hr TB hm hu (by decide) (fun _ _ => rfl) (fun _ _ => rfl) rfl rfl (by decide) rfl rfl (by decide +kernel) rfl) (
      pss_cons (ps_row1 (j := 5) S.e5 hr TB hm hu (by decide) (fun _ _ => rfl) (fun _ _ => rfl) rfl rfl (by decide) rfl rfl (by decide +kernel) rfl) (
      pss_cons (ps_row1 (j := 6) S.e6 hr TB hm hu (by decide) (fun _ _ => rfl) (fun _ _ => rfl) rfl rfl (by decide) rfl rfl (by decide +kernel) rfl) (
      pss_cons (ps_row1 (j := 7) S.e7 hr TB hm hu (by decide) (fun _ _ => rfl) (fun _ _ => rfl) rfl rfl (by decide) rfl rfl (by decide +kernel) rfl) (
      pss_cons (ps_row1 (j := 8) S.e8 hr TB hm hu (by decide) (fun _ _ => rfl) (fun _ _ => rfl) rfl rfl (by decide) rfl rfl (by decide +kernel) rfl) (
      pss_cons (ps_row1 (j := 9) S.e9 hr TB hm hu (by decide) (fun _ _ => rfl) (fun _ _ => rfl) rfl rfl (by decide) rfl rfl (by decide +kernel) rfl) (
      pss_cons (ps_row1 (j := 10) S.e10 hr TB hm hu (by decide) (fun _ _ => rfl) (fun _ _ => rfl) rfl rfl (by decide) rfl rfl (by decide +kernel) rfl) (
      pss_cons (ps_row1 (j := 11) S.e11 hr TB hm hu (by decide) (fun _ _ => rfl) (fun _ _ => rfl) rfl rfl (by decide) rfl rfl (by decide +kernel) rfl) (
      pss_cons (ps_row1 (j := 12) S.e12 hr TB hm hu (by decide) (fun _ _ => rfl) (fun _ _ => rfl) rfl rfl (by decide) rfl rfl (by decide +kernel) rfl) (
      pss_cons (ps_row1 (j := 13) S.e13 hr TB hm hu (by decide) (fun _ _ => rfl) (fun _ _ => rfl) rfl rfl (by decide) rfl rfl (by decide +kernel) rfl) (
      pss_cons (ps_row1 (j := 14) S.e14 hr TB hm hu (by decide) (fun _ _ => rfl) (fun _ _ => rfl) rfl rfl (by decide) rfl rfl (by decide +kernel) rfl) (
      pss_cons (ps_row1 (j := 15) S.e15 hr TB hm hu (by decide) (fun _ _ => rfl) (fun _ _ => rfl) rfl rfl (by decide) rfl rfl (by decide +kernel) rfl) (
      pss_cons (ps_row1 (j := 16) S.e16 hr TB hm hu (by decide) (fun _ _ => rfl) (fun _ _ => rfl) rfl rfl (by decide) rfl rfl (by decide +kernel) rfl) (
      pss_cons (ps_row1 (j := 17) S.e17 hr TB hm hu (by decide) (fun _ _ => rfl) (fun _ _ => rfl) rfl rfl (by decide) rfl rfl (by decide +kernel) rfl) (
      pss_cons (ps_row1 (j := 18) S.e18 hr TB hm hu (by decide) (fun _ _ => rfl) (fun _ _ => rfl) rfl rfl (by decide) rfl rfl (by decide +kernel) rfl) (
      pss_cons (ps_row1 (j := 19) S.e19 hr TB hm hu (by decide) (fun _ _ => rfl) (fun _ _ => rfl) rfl rfl (by decide) rfl rfl (by decide +kernel) rfl) (
      pss_cons (ps_row1 (j := 20) S.e20 hr TB hm hu (by decide) (fun _ _ => rfl) (fun _ _ => rfl) rfl rfl (by decide) rfl rfl (by decide +kernel) rfl) (
      pss_cons (ps_row0 (j := 21) S.q21 S.g21 S.k21 hr TB hm hu (by decide) (fun _ _ => rfl) (fun _ _ => rfl) rfl rfl (by decide) rfl rfl (by decide +kernel) rfl) (
      pss_cons (ps_row1 (j := 22) S.e22 hr TB hm hu (by decide) (fun _ _ => rfl) (fun _ _ => rfl) rfl rfl (by decide) rfl rfl (by decide +kernel) rfl) (
      pss_cons (ps_row2 (j := 23) S.e23 hr TB hm hu (by decide) (fun _ _ => rfl) (fun _ _ => rfl) rfl rfl (by decide) rfl rfl (by decide +kernel) rfl) (
      pss_cons (ps_row1 (j := 24) S.e24 hr TB hm hu (by decide) (fun _ _ => rfl) (fun _ _ => rfl) rfl rfl (by decide) rfl rfl (by decide +kernel) rfl) (
      pss_one (ps_ret (pv 2)))))))))))))))))))))))))))), ?_⟩
    refine ⟨Nat.zero_le _, fun p hp => ?_⟩
    have g0 : Good T C H vx vy p 0 [some vx, some vy, some (.ref p)] (upd H p (.lst [])) := ⟨rfl, ext_of (same_new hp), hT.ext (same_new hp), hp, ⟨[], upd_same, rfl, fun j hj => by omega⟩⟩
    refine ⟨H, vx, vy, p, g0, fun H1 g1 => ⟨H, vx, vy, p, g1, fun H2 g2 => ⟨H, vx, vy, p, g2, fun H3 g3 => ⟨H, vx, vy, p, g3, fun H4 g4 => ⟨H, vx, vy, p, g4, fun H5 g5 => ⟨H, vx, vy, p, g5, fun H6 g6 => ⟨H, vx, vy, p, g6, fun H7 g7 => ⟨H, vx, vy, p, g7, fun H8 g8 => ⟨H, vx, vy, p, g8, fun H9 g9 => ⟨H, vx, vy, p, g9, fun H10 g10 => ⟨H, vx, vy, p, g10, fun H11 g11 => ⟨H, vx, vy, p, g11, fun H12 g12 => ⟨H, vx, vy, p, g12, fun H13 g13 => ⟨H, vx, vy, p, g13, fun H14 g14 => ⟨H, vx, vy, p, g14, fun H15 g15 => ⟨H, vx, vy, p, g15, fun H16 g16 => ⟨H, vx, vy, p, g16, fun H17 g17 => ⟨H, vx, vy, p, g17, fun H18 g18 => ⟨H, vx, vy, p, g18, fun H19 g19 => ⟨H, vx, vy, p, g19, fun H20 g20 => ⟨H, vx, vy, p, g20, fun H21 g21 => ⟨H, vx, vy, p, g21, fun H22 g22 => ⟨H, vx, vy, p, g22, fun H23 g23 => ⟨H, vx, vy, p, g23, fun H24 g24 => ⟨H, vx, vy, p, g24, fun H25 g25 => ⟨_, rfl, k _ p g25.e g25.t hp g25.r⟩⟩⟩⟩⟩⟩⟩⟩⟩⟩⟩⟩⟩⟩⟩⟩⟩⟩⟩⟩⟩⟩⟩⟩⟩⟩
end
end K00

set_option Elab.async false
set_option linter.all false
set_option maxRecDepth 100000
set_option maxHeartbeats 4000000
namespace K00
open PySem PySem.Spec PyProof.Rows L2 Own LamX
def spL (C : Nat → Addr) (vx vy : V) (j : Nat) : LSp := fun vs H Q => ∃ a : Addr, vs = [.ref a] ∧ ExcAt H a (C j) (fldJ vx vy j) ∧ ∀ d, H d = none → Q (.ref d) (upd H d (.lst (dueJ vx vy j)))
section
variable {P : Program} {w : World} {K : PySem.W.Frag} {mg : Str → Option Value} {base : Heap} {C : Nat → Addr}
theorem l0 (S : Es P w K mg base C) (vx vy : V) : LamCode P w K mg base 0 qLam (lamJ 0).1 (lamJ 0).2.1 (lamJ 0).2.2 (spL C vx vy 0) := by
  refine ⟨["_law_e"], ["_law_e"], ⟨rfl, rfl, rfl, by decide +kernel, rfl, by decide +kernel, by decide +kernel⟩, fun us pm cv ctv hl => match us, hl with | [_], _ => rfl, fun vs H Q h => ?_, fun f c A outer s H vs Q hr h => ?_⟩
  · obtain ⟨a, rfl, _⟩ := h
    rfl
  · obtain ⟨a, rfl, x, k⟩ := h
    refine ⟨_, pe_lst (pa_cons (pe_exF (pv 0)) pa_nil), ?_⟩
    exact ⟨_, rfl, a, C 0, _, _, rfl, x, S.e0.ec, S.e0.no, rfl, (by show 1 ≤ sizeLine; decide), fun d hd => k d hd⟩
theorem l1 (S : Es P w K mg base C) (vx vy : V) : LamCode P w K mg base 0 qLam (lamJ 1).1 (lamJ 1).2.1 (lamJ 1).2.2 (spL C vx vy 1) := by
  refine ⟨["_law_e"], ["_law_e"], ⟨rfl, rfl, rfl, by decide +kernel, rfl, by decide +kernel, by decide +kernel⟩, fun us pm cv ctv hl => match us, hl with | [_], _ => rfl, fun vs H Q h => ?_, fun f c A outer s H vs Q hr h => ?_⟩
  · obtain ⟨a, rfl, _⟩ := h
    rfl
  · obtain ⟨a, rfl, x, k⟩ := h
    refine ⟨_, pe_lst (pa_cons (pe_exF (pv 0)) pa_nil), ?_⟩
    exact ⟨_, rfl, a, C 1, _, _, rfl, x, S.e1.ec, S.e1.no, rfl, (by show 1 ≤ sizeLine; decide), fun d hd => k d hd⟩
theorem l2 (S : Es P w K mg base C) (vx vy : V) : LamCode P w K mg base 0 qLam (lamJ 2).1 (lamJ 2).2.1 (lamJ 2).2.2 (spL C vx vy 2) := by
  refine ⟨["_law_e"], ["_law_e"], ⟨rfl, rfl, rfl, by decide +kernel, rfl, by decide +kernel, by decide +kernel⟩, fun us pm cv ctv hl => match us, hl with | [_], _ => rfl, fun vs H Q h => ?_, fun f c A outer s H vs Q hr h => ?_⟩
  · obtain ⟨a, rfl, _⟩ := h
    rfl
  · obtain ⟨a, rfl, x, k⟩ := h
    refine ⟨_, pe_lst (pa_cons (pe_exF (pv 0)) pa_nil), ?_⟩
    exact ⟨_, rfl, a, C 2, _, _, rfl, x, S.e2.ec, S.e2.no, rfl, (by show 1 ≤ sizeLine; decide), fun d hd => k d hd⟩
theorem l3 (S : Es P w K mg base C) (vx vy : V) : LamCode P w K mg base 0 qLam (lamJ 3).1 (lamJ 3).2.1 (lamJ 3).2.2 (spL C vx vy 3) := by
  refine ⟨["_law_e"], ["_law_e"], ⟨rfl, rfl, rfl, by decide +kernel, rfl, by decide +kernel, by decide +kernel⟩, fun us pm cv ctv hl => match us, hl with | [_], _ => rfl, fun vs H Q h => ?_, fun f c A outer s H vs Q hr h => ?_⟩
  · obtain ⟨a, rfl, _⟩ := h
    rfl
  · obtain ⟨a, rfl, x, k⟩ := h
    refine ⟨_, pe_lst (pa_cons (pe_exF (pv 0)) pa_nil), ?_⟩
    exact ⟨_, rfl, a, C 3, _, _, rfl, x, S.e3.ec, S.e3.no, rfl, (by show 1 ≤ sizeLine; decide), fun d hd => k d hd⟩
theorem l4 (S : Es P w K mg base C) (vx vy : V) : LamCode P w K mg base 0 qLam (lamJ 4).1 (lamJ 4).2.1 (lamJ 4).2.2 (spL C vx vy 4) := by
  refine ⟨["_law_e"], ["_law_e"], ⟨rfl, rfl, rfl, by decide +kernel, rfl, by decide +kernel, by decide +kernel⟩, fun us pm cv ctv hl => match us, hl with | [_], _ => rfl, fun vs H Q h => ?_, fun f c A outer s H vs Q hr h => ?_⟩
  · obtain ⟨a, rfl, _⟩ := h
    rfl
  · obtain ⟨a, rfl, x, k⟩ := h
    refine ⟨_, pe_lst (pa_cons (pe_exF (pv 0)) pa_nil), ?_⟩
    exact ⟨_, rfl, a, C 4, _, _, rfl, x, S.e4.ec, S.e4.no, rfl, (by show 1 ≤ sizeLine; decide), fun d hd => k d hd⟩
theorem l5 (S : Es P w K mg base C) (vx vy : V) : LamCode P w K mg base 0 qLam (lamJ 5).1 (lamJ 5).2.1 (lamJ 5).2.2 (spL C vx vy 5) := by
  refine ⟨["_law_e"], ["_law_e"], ⟨rfl, rfl, rfl, by decide +kernel, rfl, by decide +kernel, by decide +kernel⟩, fun us pm cv ctv hl => match us, hl with | [_], _ => rfl, fun vs H Q h => ?_, fun f c A outer s H vs Q hr h => ?_⟩
  · obtain ⟨a, rfl, _⟩ := h
    rfl
  · obtain ⟨a, rfl, x, k⟩ := h
    refine ⟨_, pe_lst (pa_cons (pe_exF (pv 0)) pa_nil), ?_⟩
    exact ⟨_, rfl, a, C 5, _, _, rfl, x, S.e5.ec, S.e5.no, rfl, (by show 1 ≤ sizeLine; decide), fun d hd => k d hd⟩
theorem l6 (S : Es P w K mg base C) (vx vy : V) : LamCode P w K mg base 0 qLam (lamJ 6).1 (lamJ 6).2.1 (lamJ 6).2.2 (spL C vx vy 6) := by
  refine ⟨["_law_e"], ["_law_e"], ⟨rfl, rfl, rfl, by decide +kernel, rfl, by decide +kernel, by decide +kernel⟩, fun us pm cv ctv hl => match us, hl with | [_], _ => rfl, fun vs H Q h => ?_, fun f c A outer s H vs Q hr h => ?_⟩
  · obtain ⟨a, rfl, _⟩ := h
    rfl
  · obtain ⟨a, rfl, x, k⟩ := h
    refine ⟨_, pe_lst (pa_cons (pe_exF (pv 0)) pa_nil), ?_⟩
    exact ⟨_, rfl, a, C 6, _, _, rfl, x, S.e6.ec, S.e6.no, rfl, (by show 1 ≤ sizeLine; decide), fun d hd => k d hd⟩
theorem l7 (S : Es P w K mg base C) (vx vy : V) : LamCode P w K mg base 0 qLam (lamJ 7).1 (lamJ 7).2.1 (lamJ 7).2.2 (spL C vx vy 7) := by
  refine ⟨["_law_e"], ["_law_e"], ⟨rfl, rfl, rfl, by decide +kernel, rfl, by decide +kernel, by decide +kernel⟩, fun us pm cv ctv hl => match us, hl with | [_], _ => rfl, fun vs H Q h => ?_, fun f c A outer s H vs Q hr h => ?_⟩
  · obtain ⟨a, rfl, _⟩ := h
    rfl
  · obtain ⟨a, rfl, x, k⟩ := h
    refine ⟨_, pe_lst (pa_cons (pe_exF (pv 0)) pa_nil), ?_⟩
    exact ⟨_, rfl, a, C 7, _, _, rfl, x, S.e7.ec, S.e7.no, rfl, (by show 1 ≤ sizeLine; decide), fun d hd => k d hd⟩
theorem l8 (S : Es P w K mg base C) (vx vy : V) : LamCode P w K mg base 0 qLam (lamJ 8).1 (lamJ 8).2.1 (lamJ 8).2.2 (spL C vx vy 8) := by
  refine ⟨["_law_e"], ["_law_e"], ⟨rfl, rfl, rfl, by decide +kernel, rfl, by decide +kernel, by decide +kernel⟩, fun us pm cv ctv hl => match us, hl with | [_], _ => rfl, fun vs H Q h => ?_, fun f c A outer s H vs Q hr h => ?_⟩
  · obtain ⟨a, rfl, _⟩ := h
    rfl
  · obtain ⟨a, rfl, x, k⟩ := h
    refine ⟨_, pe_lst (pa_cons (pe_exF (pv 0)) pa_nil), ?_⟩
    exact ⟨_, rfl, a, C 8, _, _, rfl, x, S.e8.ec, S.e8.no, rfl, (by show 1 ≤ sizeLine; decide), fun d hd => k d hd⟩
theorem l9 (S : Es P w K mg base C) (vx vy : V) : LamCode P w K mg base 0 qLam (lamJ 9).1 (lamJ 9).2.1 (lamJ 9).2.2 (spL C vx vy 9) := by
  refine ⟨["_law_e"], ["_law_e"], ⟨rfl, rfl, rfl, by decide +kernel, rfl, by decide +kernel, by decide +kernel⟩, fun us pm cv ctv hl => match us, hl with | [_], _ => rfl, fun vs H Q h => ?_, fun f c A outer s H vs Q hr h => ?_⟩
  · obtain ⟨a, rfl, _⟩ := h
    rfl
  · obtain ⟨a, rfl, x, k⟩ := h
    refine ⟨_, pe_lst (pa_cons (pe_exF (pv 0)) pa_nil), ?_⟩
    exact ⟨_, rfl, a, C 9, _, _, rfl, x, S.e9.ec, S.e9.no, rfl, (by show 1 ≤ sizeLine; decide), fun d hd => k d hd⟩
theorem l10 (S : Es P w K mg base C) (vx vy : V) : LamCode P w K mg base 0 qLam (lamJ 10).1 (lamJ 10).2.1 (lamJ 10).2.2 (spL C vx vy 10) := by
  refine ⟨["_law_e"], ["_law_e"], ⟨rfl, rfl, rfl, by decide +kernel, rfl, by decide +kernel, by decide +kernel⟩, fun us pm cv ctv hl => match us, hl with | [_], _ => rfl, fun vs H Q h => ?_, fun f c A outer s H vs Q hr h => ?_⟩
  · obtain ⟨a, rfl, _⟩ := h
    rfl
  · obtain ⟨a, rfl, x, k⟩ := h
    refine ⟨_, pe_lst (pa_cons (pe_exF (pv 0)) pa_nil), ?_⟩
    exact ⟨_, rfl, a, C 10, _, _, rfl, x, S.e10.ec, S.e10.no, rfl, (by show 1 ≤ sizeLine; decide), fun d hd => k d hd⟩
theorem l11 (S : Es P w K mg base C) (vx vy : V) : LamCode P w K mg base 0 qLam (lamJ 11).1 (lamJ 11).2.1 (lamJ 11).2.2 (spL C vx vy 11) := by
  refine ⟨["_law_e"], ["_law_e"], ⟨rfl, rfl, rfl, by decide +kernel, rfl, by decide +kernel, by decide +kernel⟩, fun us pm cv ctv hl => match us, hl with | [_], _ => rfl, fun vs H Q h => ?_, fun f c A outer s H vs Q hr h => ?_⟩
  · obtain ⟨a, rfl, _⟩ := h
    rfl
  · obtain ⟨a, rfl, x, k⟩ := h
    refine ⟨_, pe_lst (pa_cons (pe_exF (pv 0)) pa_nil), ?_⟩
    exact ⟨_, rfl, a, C 11, _, _, rfl, x, S.e11.ec, S.e11.no, rfl, (by show 1 ≤ sizeLine; decide), fun d hd => k d hd⟩
theorem l12 (S : Es P w K mg base C) (vx vy : V) : LamCode P w K mg base 0 qLam (lamJ 12).1 (lamJ 12).2.1 (lamJ 12).2.2 (spL C vx vy 12) := by
  refine ⟨["_law_e"], ["_law_e"], ⟨rfl, rfl, rfl, by decide +kernel, rfl, by decide +kernel, by decide +kernel⟩, fun us pm cv ctv hl => match us, hl with | [_], _ => rfl, fun vs H Q h => ?_, fun f c A outer s H vs Q hr h => ?_⟩
  · obtain ⟨a, rfl, _⟩ := h
    rfl
  · obtain ⟨a, rfl, x, k⟩ := h
    refine ⟨_, pe_lst (pa_cons (pe_exF (pv 0)) pa_nil), ?_⟩
    exact ⟨_, rfl, a, C 12, _, _, rfl, x, S.e12.ec, S.e12.no, rfl, (by show 1 ≤ sizeLine; decide), fun d hd => k d hd⟩
theorem l13 (S : Es P w K mg base C) (vx vy : V) : LamCode P w K mg base 0 qLam (lamJ 13).1 (lamJ 13).2.1 (lamJ 13).2.2 (spL C vx vy 13) := by
  refine ⟨["_law_e"], ["_law_e"], ⟨rfl, rfl, rfl, by decide +kernel, rfl, by decide +kernel, by decide +kernel⟩, fun us pm cv ctv hl => match us, hl with | [_], _ => rfl, fun vs H Q h => ?_, fun f c A outer s H vs Q hr h => ?_⟩
  · obtain ⟨a, rfl, _⟩ := h
    rfl
  · obtain ⟨a, rfl, x, k⟩ := h
    refine ⟨_, pe_lst (pa_cons (pe_exF (pv 0)) pa_nil), ?_⟩
    exact ⟨_, rfl, a, C 13, _, _, rfl, x, S.e13.ec, S.e13.no, rfl, (by show 1 ≤ sizeLine; decide), fun d hd => k d hd⟩
theorem l14 (S : Es P w K mg base C) (vx vy : V) : LamCode P w K mg base 0 qLam (lamJ 14).1 (lamJ 14).2.1 (lamJ 14).2.2 (spL C vx vy 14) := by
  refine ⟨["_law_e"], ["_law_e"], ⟨rfl, rfl, rfl, by decide +kernel, rfl, by decide +kernel, by decide +kernel⟩, fun us pm cv ctv hl => match us, hl with | [_], _ => rfl, fun vs H Q h => ?_, fun f c A outer s H vs Q hr h => ?_⟩
  · obtain ⟨a, rfl, _⟩ := h
    rfl
  · obtain ⟨a, rfl, x, k⟩ := h
    refine ⟨_, pe_lst (pa_cons (pe_exF (pv 0)) pa_nil), ?_⟩
    exact ⟨_, rfl, a, C 14, _, _, rfl, x, S.e14.ec, S.e14.no, rfl, (by show 1 ≤ sizeLine; decide), fun d hd => k d hd⟩
theorem l15 (S : Es P w K mg base C) (vx vy : V) : LamCode P w K mg base 0 qLam (lamJ 15).1 (lamJ 15).2.1 (lamJ 15).2.2 (spL C vx vy 15) := by
  refine ⟨["_law_e"], ["_law_e"], ⟨rfl, rfl, rfl, by decide +kernel, rfl, by decide +kernel, by decide +kernel⟩, fun us pm cv ctv hl => match us, hl with | [_], _ => rfl, fun vs H Q h => ?_, fun f c A outer s H vs Q hr h => ?_⟩
  · obtain ⟨a, rfl, _⟩ := h
    rfl
  · obtain ⟨a, rfl, x, k⟩ := h
    refine ⟨_, pe_lst (pa_cons (pe_exF (pv 0)) pa_nil), ?_⟩
    exact ⟨_, rfl, a, C 15, _, _, rfl, x, S.e15.ec, S.e15.no, rfl, (by show 1 ≤ sizeLine; decide), fun d hd => k d hd⟩
theorem l16 (S : Es P w K mg base C) (vx vy : V) : LamCode P w K mg base 0 qLam (lamJ 16).1 (lamJ 16).2.1 (lamJ 16).2.2 (spL C vx vy 16) := by
  refine ⟨["_law_e"], ["_law_e"], ⟨rfl, rfl, rfl, by decide +kernel, rfl, by decide +kernel, by decide +kernel⟩, fun us pm cv ctv hl => match us, hl with | [_], _ => rfl, fun vs H Q h => ?_, fun f c A outer s H vs Q hr h => ?_⟩
  · obtain ⟨a, rfl, _⟩ := h
    rfl
  · obtain ⟨a, rfl, x, k⟩ := h
    refine ⟨_, pe_lst (pa_cons (pe_exF (pv 0)) pa_nil), ?_⟩
    exact ⟨_, rfl, a, C 16, _, _, rfl, x, S.e16.ec, S.e16.no, rfl, (by show 1 ≤ sizeLine; decide), fun d hd => k d hd⟩
theorem l17 (S : Es P w K mg base C) (vx vy : V) : LamCode P w K mg base 0 qLam (lamJ 17).1 (lamJ 17).2.1 (lamJ 17).2.2 (spL C vx vy 17) := by
  refine ⟨["_law_e"], ["_law_e"], ⟨rfl, rfl, rfl, by decide +kernel, rfl, by decide +kernel, by decide +kernel⟩, fun us pm cv ctv hl => match us, hl with | [_], _ => rfl, fun vs H Q h => ?_, fun f c A outer s H vs Q hr h => ?_⟩
  · obtain ⟨a, rfl, _⟩ := h
    rfl
  · obtain ⟨a, rfl, x, k⟩ := h
    refine ⟨_, pe_lst (pa_cons (pe_exF (pv 0)) pa_nil), ?_⟩
    exact ⟨_, rfl, a, C 17, _, _, rfl, x, S.e17.ec, S.e17.no, rfl, (by show 1 ≤ sizeLine; decide), fun d hd => k d hd⟩
theorem l18 (S : Es P w K mg base C) (vx vy : V) : LamCode P w K mg base 0 qLam (lamJ 18).1 (lamJ 18).2.1 (lamJ 18).2.2 (spL C vx vy 18) := by
  refine ⟨["_law_e"], ["_law_e"], ⟨rfl, rfl, rfl, by decide +kernel, rfl, by decide +kernel, by decide +kernel⟩, fun us pm cv ctv hl => match us, hl with | [_], _ => rfl, fun vs H Q h => ?_, fun f c A outer s H vs Q hr h => ?_⟩
  · obtain ⟨a, rfl, _⟩ := h
    rfl
  · obtain ⟨a, rfl, x, k⟩ := h
    refine ⟨_, pe_lst (pa_cons (pe_exF (pv 0)) pa_nil), ?_⟩
    exact ⟨_, rfl, a, C 18, _, _, rfl, x, S.e18.ec, S.e18.no, rfl, (by show 1 ≤ sizeLine; decide), fun d hd => k d hd⟩
theorem l19 (S : Es P w K mg base C) (vx vy : V) : LamCode P w K mg base 0 qLam (lamJ 19).1 (lamJ 19).2.1 (lamJ 19).2.2 (spL C vx vy 19) := by
  refine ⟨["_law_e"], ["_law_e"], ⟨rfl, rfl, rfl, by decide +kernel, rfl, by decide +kernel, by decide +kernel⟩, fun us pm cv ctv hl => match us, hl with | [_], _ => rfl, fun vs H Q h => ?_, fun f c A outer s H vs Q hr h => ?_⟩
  · obtain ⟨a, rfl, _⟩ := h
    rfl
  · obtain ⟨a, rfl, x, k⟩ := h
    refine ⟨_, pe_lst (pa_cons (pe_exF (pv 0)) pa_nil), ?_⟩
    exact ⟨_, rfl, a, C 19, _, _, rfl, x, S.e19.ec, S.e19.no, rfl, (by show 1 ≤ sizeLine; decide), fun d hd => k d hd⟩
theorem l20 (S : Es P w K mg base C) (vx vy : V) : LamCode P w K mg base 0 qLam (lamJ 20).1 (lamJ 20).2.1 (lamJ 20).2.2 (spL C vx vy 20) := by
  refine ⟨["_law_e"], ["_law_e"], ⟨rfl, rfl, rfl, by decide +kernel, rfl, by decide +kernel, by decide +kernel⟩, fun us pm cv ctv hl => match us, hl with | [_], _ => rfl, fun vs H Q h => ?_, fun f c A outer s H vs Q hr h => ?_⟩
  · obtain ⟨a, rfl, _⟩ := h
    rfl
  · obtain ⟨a, rfl, x, k⟩ := h
    refine ⟨_, pe_lst (pa_cons (pe_exF (pv 0)) pa_nil), ?_⟩
    exact ⟨_, rfl, a, C 20, _, _, rfl, x, S.e20.ec, S.e20.no, rfl, (by show 1 ≤ sizeLine; decide), fun d hd => k d hd⟩
theorem l21 (S : Es P w K mg base C) (vx vy : V) : LamCode P w K mg base 0 qLam (lamJ 21).1 (lamJ 21).2.1 (lamJ 21).2.2 (spL C vx vy 21) := by
  refine ⟨["_law_e"], ["_law_e"], ⟨rfl, rfl, rfl, by decide +kernel, rfl, by decide +kernel, by decide +kernel⟩, fun us pm cv ctv hl => match us, hl with | [_], _ => rfl, fun vs H Q h => ?_, fun f c A outer s H vs Q hr h => ?_⟩
  · obtain ⟨a, rfl, _⟩ := h
    rfl
  · obtain ⟨a, rfl, x, k⟩ := h
    refine ⟨_, pe_lst pa_nil, ?_⟩
    exact ⟨Nat.zero_le _, fun d hd => k d hd⟩
theorem l22 (S : Es P w K mg base C) (vx vy : V) : LamCode P w K mg base 0 qLam (lamJ 22).1 (lamJ 22).2.1 (lamJ 22).2.2 (spL C vx vy 22) := by
  refine ⟨["_law_e"], ["_law_e"], ⟨rfl, rfl, rfl, by decide +kernel, rfl, by decide +kernel, by decide +kernel⟩, fun us pm cv ctv hl => match us, hl with | [_], _ => rfl, fun vs H Q h => ?_, fun f c A outer s H vs Q hr h => ?_⟩
  · obtain ⟨a, rfl, _⟩ := h
    rfl
  · obtain ⟨a, rfl, x, k⟩ := h
    refine ⟨_, pe_lst (pa_cons (pe_exF (pv 0)) pa_nil), ?_⟩
    exact ⟨_, rfl, a, C 22, _, _, rfl, x, S.e22.ec, S.e22.no, rfl, (by show 1 ≤ sizeLine; decide), fun d hd => k d hd⟩
theorem l23 (S : Es P w K mg base C) (vx vy : V) : LamCode P w K mg base 0 qLam (lamJ 23).1 (lamJ 23).2.1 (lamJ 23).2.2 (spL C vx vy 23) := by
  refine ⟨["_law_e"], ["_law_e"], ⟨rfl, rfl, rfl, by decide +kernel, rfl, by decide +kernel, by decide +kernel⟩, fun us pm cv ctv hl => match us, hl with | [_], _ => rfl, fun vs H Q h => ?_, fun f c A outer s H vs Q hr h => ?_⟩
  · obtain ⟨a, rfl, _⟩ := h
    rfl
  · obtain ⟨a, rfl, x, k⟩ := h
    refine ⟨_, pe_lst (pa_cons (pe_exF (pv 0)) (pa_cons (pe_exF (pv 0)) pa_nil)), ?_⟩
    exact ⟨_, rfl, a, C 23, _, _, rfl, x, S.e23.ec, S.e23.no, rfl, _, rfl, a, C 23, _, _, rfl, x, S.e23.ec, S.e23.no2, rfl, (by show 2 ≤ sizeLine; decide), fun d hd => k d hd⟩
theorem l24 (S : Es P w K mg base C) (vx vy : V) : LamCode P w K mg base 0 qLam (lamJ 24).1 (lamJ 24).2.1 (lamJ 24).2.2 (spL C vx vy 24) := by
  refine ⟨["_law_e"], ["_law_e"], ⟨rfl, rfl, rfl, by decide +kernel, rfl, by decide +kernel, by decide +kernel⟩, fun us pm cv ctv hl => match us, hl with | [_], _ => rfl, fun vs H Q h => ?_, fun f c A outer s H vs Q hr h => ?_⟩
  · obtain ⟨a, rfl, _⟩ := h
    rfl
  · obtain ⟨a, rfl, x, k⟩ := h
    refine ⟨_, pe_lst (pa_cons (pe_exF (pv 0)) pa_nil), ?_⟩
    exact ⟨_, rfl, a, C 24, _, _, rfl, x, S.e24.ec, S.e24.no, rfl, (by show 1 ≤ sizeLine; decide), fun d hd => k d hd⟩
theorem l_all (S : Es P w K mg base C) (vx vy : V) (j : Nat) (hj : j < 25) : LamCode P w K mg base 0 qLam (lamJ j).1 (lamJ j).2.1 (lamJ j).2.2 (spL C vx vy j) := by
  match j, hj with
  | 0, _ => exact l0 S vx vy
  | 1, _ => exact l1 S vx vy
  | 2, _ => exact l2 S vx vy
  | 3, _ => exact l3 S vx vy
  | 4, _ => exact l4 S vx vy
  | 5, _ => exact l5 S vx vy
  | 6, _ => exact l6 S vx vy
  | 7, _ => exact l7 S vx vy
  | 8, _ => exact l8 S vx vy
  | 9, _ => exact l9 S vx vy
  | 10, _ => exact l10 S vx vy
  | 11, _ => exact l11 S vx vy
  | 12, _ => exact l12 S vx vy
  | 13, _ => exact l13 S vx vy
  | 14, _ => exact l14 S vx vy
  | 15, _ => exact l15 S vx vy
  | 16, _ => exact l16 S vx vy
  | 17, _ => exact l17 S vx vy
  | 18, _ => exact l18 S vx vy
  | 19, _ => exact l19 S vx vy
  | 20, _ => exact l20 S vx vy
  | 21, _ => exact l21 S vx vy
  | 22, _ => exact l22 S vx vy
  | 23, _ => exact l23 S vx vy
  | 24, _ => exact l24 S vx vy
  | n + 25, h => exact absurd h (by omega)
end
end K00

set_option Elab.async false
set_option linter.all false
set_option maxRecDepth 100000
set_option maxHeartbeats 4000000
namespace K00
open PySem PySem.Spec PyProof.Rows L2 Own LamX
theorem pe_gref {X : Cx} {x : Str} {a : Addr} {pos : Pos} (hg : Gl X x) (hm : X.mg x = some (.ref a)) (hd : (x == ("__debug__" : Str)) = false := by decide) : PE X (.Name x pos) (tC (.ref a)) := pe_glob hg hm rfl hd
theorem scKinds : FnScope ["_law_e", "_law_found"] ["_law_e"] (defScope sKinds) := ⟨rfl, rfl, rfl, by decide +kernel, rfl, by decide +kernel, by decide +kernel⟩
theorem scOwn : FnScope ["_law_e", "_law_at", "_law_k"] ["_law_e", "_law_at"] (defScope sOwn) := ⟨rfl, rfl, rfl, by decide +kernel, rfl, by decide +kernel, by decide +kernel⟩
/-- what the classes are to one another -/
structure Kt (K : PySem.W.Frag) (C : Nat → Addr) (CB : Addr) : Prop where
  own : ∀ i j, i < 25 → j < 25 → PySem.W.kitOne K (.ref (C i)) (.ref (C j)) = some (decide (i = j))
  bell : ∀ i, i < 25 → PySem.W.kitOne K (.ref (C i)) (.ref CB) = some true
  val : ∀ i, i < 25 → PySem.W.kitOne K (.ref (C i)) (.type "ValueError") = some true
  look : ∀ i, i < 25 → PySem.W.kitOne K (.ref (C i)) (.type "LookupError") = some false
  type : ∀ i, i < 25 → PySem.W.kitOne K (.ref (C i)) (.type "TypeError") = some false
  arith : ∀ i, i < 25 → PySem.W.kitOne K (.ref (C i)) (.type "ArithmeticError") = some false
  run : ∀ i, i < 25 → PySem.W.kitOne K (.ref (C i)) (.type "RuntimeError") = some false
  ec : ∀ i, i < 25 → ExcC K (C i)
structure Bx (mg : Str → Option Value) : Prop where
  ValueError : mg "ValueError" = none
  LookupError : mg "LookupError" = none
  TypeError : mg "TypeError" = none
  ArithmeticError : mg "ArithmeticError" = none
  RuntimeError : mg "RuntimeError" = none
def kindL (j : Nat) : List Bool := (List.range 25).map fun k => decide (j = k)
def spKinds (C : Nat → Addr) : Sp := fun vs H Q _ => ∃ (a : Addr) (j : Nat) (fs : List (Str × V)), vs = [.ref a] ∧ j < 25 ∧ ExcAt H a (C j) fs ∧ ∀ H' p, Same H H' → H p = none → H' p = some (.lst ((kindL j).map V.bl)) → Q (.ref p) H'
def spOwn (C : Nat → Addr) : Sp := fun vs H Q _ => ∃ (a : Addr) (j : Nat) (fs : List (Str × V)), vs = [.ref a, .int (j : Int)] ∧ j < 25 ∧ ExcAt H a (C j) fs ∧ ∀ H', Same H H' → Q (.bl true) H'
theorem exc_same {H H' : Hp} {a C : Addr} {fs : List (Str × V)} (x : ExcAt H a C fs) (e : Same H H') : ExcAt H' a C fs := x.keep fun b o z _ => e _ _ z
theorem grow_step {H H1 : Hp} {p d : Addr} {xs zs : List V} (e : Same H H1) (np : H p = none) (hp : H1 p = some (.lst xs)) (hd : H1 d = none) :
    Same H (upd (upd H1 d (.lst zs)) p (.lst (xs ++ zs))) ∧ upd H1 d (.lst zs) p = some (.lst xs) ∧ (upd (upd H1 d (.lst zs)) p (.lst (xs ++ zs))) p = some (.lst (xs ++ zs)) := by
  have s1 := same_new (o := HO.lst zs) hd
  refine ⟨fun b o z => ?_, s1 _ _ hp, upd_same⟩
  rw [upd_ne (ne_of_none z np)]
  exact s1 _ _ (e _ _ z)
section
variable {P : Program} {w : World} {K : PySem.W.Frag} {mg : Str → Option Value} {base : Heap} {C : Nat → Addr} {CB : Addr}
theorem ok_kinds {f : Addr} {fd : FuncData} (F : Fun K "_law_kinds" "_law_kinds" sKinds f fd) (T : Bt mg) (S : Es P w K mg base C) (Z : Kt K C CB) : FnOk P w K mg base CX0 1 f fd ["_law_e"] (spKinds C) := by
  refine F.ok scKinds (fun vs H Q E h => ?_) (fun cdv A outer s H vs Q E hr h => ?_)
  · obtain ⟨a, j, fs, rfl, _⟩ := h
    rfl
  · obtain ⟨a, j, fs, rfl, hj, x, k⟩ := h
    refine ⟨_, (pss_cons (ps_set (i := 1) scKinds.nd rfl (Or.inl rfl) (pe_lst pa_nil))
  (pss_cons (ps_expr (pe_bm PySem.F.plainAttrs_list PySem.F.slot_list_extend PySem.F.type_list_extend mt_extend (pv 1) (pa_cons (pe_lst (pa_cons (pe_callB call_isE (by rfl) T.isi (by decide +kernel) (pa_cons (pv 0) (pa_cons (pe_gref (by rfl) S.e0.g) pa_nil))) (pa_cons (pe_callB call_isE (by rfl) T.isi (by decide +kernel) (pa_cons (pv 0) (pa_cons (pe_gref (by rfl) S.e1.g) pa_nil))) (pa_cons (pe_callB call_isE (by rfl) T.isi (by decide +kernel) (pa_cons (pv 0) (pa_cons (pe_gref (by rfl) S.e2.g) pa_nil))) pa_nil)))) pa_nil)))
  (pss_cons (ps_expr (pe_bm PySem.F.plainAttrs_list PySem.F.slot_list_extend PySem.F.type_list_extend mt_extend (pv 1) (pa_cons (pe_lst (pa_cons (pe_callB call_isE (by rfl) T.isi (by decide +kernel) (pa_cons (pv 0) (pa_cons (pe_gref (by rfl) S.e3.g) pa_nil))) (pa_cons (pe_callB call_isE (by rfl) T.isi (by decide +kernel) (pa_cons (pv 0) (pa_cons (pe_gref (by rfl) S.e4.g) pa_nil))) (pa_cons (pe_callB call_isE (by rfl) T.isi (by decide +kernel) (pa_cons (pv 0) (pa_cons (pe_gref (by rfl) S.e5.g) pa_nil))) pa_nil)))) pa_nil)))
  (pss_cons (ps_expr (pe_bm PySem.F.plainAttrs_list PySem.F.slot_list_extend PySem.F.type_list_extend mt_extend (pv 1) (pa_cons (pe_lst (pa_cons (pe_callB call_isE (by rfl) T.isi (by decide +kernel) (pa_cons (pv 0) (pa_cons (pe_gref (by rfl) S.e6.g) pa_nil))) (pa_cons (pe_callB call_isE (by rfl) T.isi (by decide +kernel) (pa_cons (pv 0) (pa_cons (pe_gref (by rfl) S.e7.g) pa_nil))) (pa_cons (pe_callB call_isE (by rfl) T.isi (by decide +kernel) (pa_cons (pv 0) (pa_cons (pe_gref (by rfl) S.e8.g) pa_nil))) pa_nil)))) pa_nil)))
  (pss_cons (ps_expr (pe_bm PySem.F.plainAttrs_list PySem.F.slot_list_extend PySem.F.type_list_extend mt_extend (pv 1) (pa_cons (pe_lst (pa_cons (pe_callB call_isE (by rfl) T.isi (by decide +kernel) (pa_cons (pv 0) (pa_cons (pe_gref (by rfl) S.e9.g) pa_nil))) (pa_cons (pe_callB call_isE (by rfl) T.isi (by decide +kernel) (pa_cons (pv 0) (pa_cons (pe_gref (by rfl) S.e10.g) pa_nil))) (pa_cons (pe_callB call_isE (by rfl) T.isi (by decide +kernel) (pa_cons (pv 0) (pa_cons (pe_gref (by rfl) S.e11.g) pa_nil))) pa_nil)))) pa_nil)))
  (pss_cons (ps_expr (pe_bm PySem.F.plainAttrs_list PySem.F.slot_list_extend PySem.F.type_list_extend mt_extend (pv 1) (pa_cons (pe_lst (pa_cons (pe_callB call_isE (by rfl) T.isi (by decide +kernel) (pa_cons (pv 0) (pa_cons (pe_gref (by rfl) S.e12.g) pa_nil))) (pa_cons (pe_callB call_isE (by rfl) T.isi (by decide +kernel) (pa_cons (pv 0) (pa_cons (pe_gref (by rfl) S.e13.g) pa_nil))) (pa_cons (pe_callB call_isE (by rfl) T.isi (by decide +kernel) (pa_cons (pv 0) (pa_cons (pe_gref (by rfl) S.e14.g) pa_nil))) pa_nil)))) pa_nil)))
  (pss_cons (ps_expr (pe_bm PySem.F.plainAttrs_list PySem.F.slot_list_extend PySem.F.type_list_extend mt_extend (pv 1) (pa_cons (pe_lst (pa_cons (pe_callB call_isE (by rfl) T.isi (by decide +kernel) (pa_cons (pv 0) (pa_cons (pe_gref (by rfl) S.e15.g) pa_nil))) (pa_cons (pe_callB call_isE (by rfl) T.isi (by decide +kernel) (pa_cons (pv 0) (pa_cons (pe_gref (by rfl) S.e16.g) pa_nil))) (pa_cons (pe_callB call_isE (by rfl) T.isi (by decide +kernel) (pa_cons (pv 0) (pa_cons (pe_gref (by rfl) S.e17.g) pa_nil))) pa_nil)))) pa_nil)))
  (pss_cons (ps_expr (pe_bm PySem.F.plainAttrs_list PySem.F.slot_list_extend PySem.F.type_list_extend mt_extend (pv 1) (pa_cons (pe_lst (pa_cons (pe_callB call_isE (by rfl) T.isi (by decide +kernel) (pa_cons (pv 0) (pa_cons (pe_gref (by rfl) S.e18.g) pa_nil))) (pa_cons (pe_callB call_isE (by rfl) T.isi (by decide +kernel) (pa_cons (pv 0) (pa_cons (pe_gref (by rfl) S.e19.g) pa_nil))) (pa_cons (pe_callB call_isE (by rfl) T.isi (by decide +kernel) (pa_cons (pv 0) (pa_cons (pe_gref (by rfl) S.e20.g) pa_nil))) pa_nil)))) pa_nil)))
  (pss_cons (ps_expr (pe_bm PySem.F.plainAttrs_list PySem.F.slot_list_extend PySem.F.type_list_extend mt_extend (pv 1) (pa_cons (pe_lst (pa_cons (pe_callB call_isE (by rfl) T.isi (by decide +kernel) (pa_cons (pv 0) (pa_cons (pe_gref (by rfl) S.g21) pa_nil))) (pa_cons (pe_callB call_isE (by rfl) T.isi (by decide +kernel) (pa_cons (pv 0) (pa_cons (pe_gref (by rfl) S.e22.g) pa_nil))) (pa_cons (pe_callB call_isE (by rfl) T.isi (by decide +kernel) (pa_cons (pv 0) (pa_cons (pe_gref (by rfl) S.e23.g) pa_nil))) pa_nil)))) pa_nil)))
  (pss_cons (ps_expr (pe_bm PySem.F.plainAttrs_list PySem.F.slot_list_extend PySem.F.type_list_extend mt_extend (pv 1) (pa_cons (pe_lst (pa_cons (pe_callB call_isE (by rfl) T.isi (by decide +kernel) (pa_cons (pv 0) (pa_cons (pe_gref (by rfl) S.e24.g) pa_nil))) pa_nil)) pa_nil)))
  (pss_one (ps_ret (pv 1))))))))))))), ?_⟩
    refine ⟨Nat.zero_le _, fun p np => ?_⟩
    have s0 : Same H (upd H p (.lst [])) := same_new np
    have p0 : upd H p (.lst []) p = some (.lst []) := upd_same
    refine ⟨_, rfl, .inl ⟨rfl, _, SqL.of p0⟩, _, rfl, a, C j, fs, _, _, _, rfl, exc_same x s0, Z.ec j hj, .own _, Z.own j 0 hj (by decide), _, rfl, a, C j, fs, _, _, _, rfl, exc_same x s0, Z.ec j hj, .own _, Z.own j 1 hj (by decide), _, rfl, a, C j, fs, _, _, _, rfl, exc_same x s0, Z.ec j hj, .own _, Z.own j 2 hj (by decide), by show 3 ≤ sizeLine; decide, fun d0 hd0 => ?_⟩
    obtain ⟨s1, m0, p1⟩ := grow_step (zs := [V.bl (decide (j = 0)), V.bl (decide (j = 1)), V.bl (decide (j = 2))]) s0 np p0 hd0
    refine ⟨p, d0, _, _, rfl, rfl, m0, upd_same, by show 0 + 3 ≤ sizeLine; decide, ?_⟩
    refine ⟨_, rfl, .inl ⟨rfl, _, SqL.of p1⟩, _, rfl, a, C j, fs, _, _, _, rfl, exc_same x s1, Z.ec j hj, .own _, Z.own j 3 hj (by decide), _, rfl, a, C j, fs, _, _, _, rfl, exc_same x s1, Z.ec j hj, .own _, Z.own j 4 hj (by decide), _, rfl, a, C j, fs, _, _, _, rfl, exc_same x s1, Z.ec j hj, .own _, Z.own j 5 hj (by decide), by show 3 ≤ sizeLine; decide, fun d1 hd1 => ?_⟩
    obtain ⟨s2, m1, p2⟩ := grow_step (zs := [V.bl (decide (j = 3)), V.bl (decide (j = 4)), V.bl (decide (j = 5))]) s1 np p1 hd1
    refine ⟨p, d1, _, _, rfl, rfl, m1, upd_same, by show 3 + 3 ≤ sizeLine; decide, ?_⟩
    refine ⟨_, rfl, .inl ⟨rfl, _, SqL.of p2⟩, _, rfl, a, C j, fs, _, _, _, rfl, exc_same x s2, Z.ec j hj, .own _, Z.own j 6 hj (by decide), _, rfl, a, C j, fs, _, _, _, rfl, exc_same x s2, Z.ec j hj, .own _, Z.own j 7 hj (by decide), _, rfl, a, C j, fs, _, _, _, rfl, exc_same x s2, Z.ec j hj, .own _, Z.own j 8 hj (by decide), by show 3 ≤ sizeLine; decide, fun d2 hd2 => ?_⟩
    obtain ⟨s3, m2, p3⟩ := grow_step (zs := [V.bl (decide (j = 6)), V.bl (decide (j = 7)), V.bl (decide (j = 8))]) s2 np p2 hd2
    refine ⟨p, d2, _, _, rfl, rfl, m2, upd_same, by show 6 + 3 ≤ sizeLine; decide, ?_⟩
    refine ⟨_, rfl, .inl ⟨rfl, _, SqL.of p3⟩, _, rfl, a, C j, fs, _, _, _, rfl, exc_same x s3, Z.ec j hj, .own _, Z.own j 9 hj (by decide), _, rfl, a, C j, fs, _, _, _, rfl, exc_same x s3, Z.ec j hj, .own _, Z.own j 10 hj (by decide), _, rfl, a, C j, fs, _, _, _, rfl, exc_same x s3, Z.ec j hj, .own _, Z.own j 11 hj (by decide), by show 3 ≤ sizeLine; decide, fun d3 hd3 => ?_⟩
    obtain ⟨s4, m3, p4⟩ := grow_step (zs := [V.bl (decide (j = 9)), V.bl (decide (j = 10)), V.bl (decide (j = 11))]) s3 np p3 hd3
    refine ⟨p, d3, _, _, rfl, rfl, m3, upd_same, by show 9 + 3 ≤ sizeLine; decide, ?_⟩
    refine ⟨_, rfl, .inl ⟨rfl, _, SqL.of p4⟩, _, rfl, a, C j, fs, _, _, _, rfl, exc_same x s4, Z.ec j hj, .own _, Z.own j 12 hj (by decide), _, rfl, a, C j, fs, _, _, _, rfl, exc_same x s4, Z.ec j hj, .own _, Z.own j 13 hj (by decide), _, rfl, a, C j, fs, _, _, _, rfl, exc_same x s4, Z.ec j hj, .own _, Z.own j 14 hj (by decide), by show 3 ≤ sizeLine; decide, fun d4 hd4 => ?_⟩
    obtain ⟨s5, m4, p5⟩ := grow_step (zs := [V.bl (decide (j = 12)), V.bl (decide (j = 13)), V.bl (decide (j = 14))]) s4 np p4 hd4
    refine ⟨p, d4, _, _, rfl, rfl, m4, upd_same, by show 12 + 3 ≤ sizeLine; decide, ?_⟩
    refine ⟨_, rfl, .inl ⟨rfl, _, SqL.of p5⟩, _, rfl, a, C j, fs, _, _, _, rfl, exc_same x s5, Z.ec j hj, .own _, Z.own j 15 hj (by decide), _, rfl, a, C j, fs, _, _, _, rfl, exc_same x s5, Z.ec j hj, .own _, Z.own j 16 hj (by decide), _, rfl, a, C j, fs, _, _, _, rfl, exc_same x s5, Z.ec j hj, .own _, Z.own j 17 hj (by decide), by show 3 ≤ sizeLine; decide, fun d5 hd5 => ?_⟩
    obtain ⟨s6, m5, p6⟩ := grow_step (zs := [V.bl (decide (j = 15)), V.bl (decide (j = 16)), V.bl (decide (j = 17))]) s5 np p5 hd5
    refine ⟨p, d5, _, _, rfl, rfl, m5, upd_same, by show 15 + 3 ≤ sizeLine; decide, ?_⟩
    refine ⟨_, rfl, .inl ⟨rfl, _, SqL.of p6⟩, _, rfl, a, C j, fs, _, _, _, rfl, exc_same x s6, Z.ec j hj, .own _, Z.own j 18 hj (by decide), _, rfl, a, C j, fs, _, _, _, rfl, exc_same x s6, Z.ec j hj, .own _, Z.own j 19 hj (by decide), _, rfl, a, C j, fs, _, _, _, rfl, exc_same x s6, Z.ec j hj, .own _, Z.own j 20 hj (by decide), by show 3 ≤ sizeLine; decide, fun d6 hd6 => ?_⟩
    obtain ⟨s7, m6, p7⟩ := grow_step (zs := [V.bl (decide (j = 18)), V.bl (decide (j = 19)), V.bl (decide (j = 20))]) s6 np p6 hd6
    refine ⟨p, d6, _, _, rfl, rfl, m6, upd_same, by show 18 + 3 ≤ sizeLine; decide, ?_⟩
    refine ⟨_, rfl, .inl ⟨rfl, _, SqL.of p7⟩, _, rfl, a, C j, fs, _, _, _, rfl, exc_same x s7, Z.ec j hj, .own _, Z.own j 21 hj (by decide), _, rfl, a, C j, fs, _, _, _, rfl, exc_same x s7, Z.ec j hj, .own _, Z.own j 22 hj (by decide), _, rfl, a, C j, fs, _, _, _, rfl, exc_same x s7, Z.ec j hj, .own _, Z.own j 23 hj (by decide), by show 3 ≤ sizeLine; decide, fun d7 hd7 => ?_⟩
    obtain ⟨s8, m7, p8⟩ := grow_step (zs := [V.bl (decide (j = 21)), V.bl (decide (j = 22)), V.bl (decide (j = 23))]) s7 np p7 hd7
    refine ⟨p, d7, _, _, rfl, rfl, m7, upd_same, by show 21 + 3 ≤ sizeLine; decide, ?_⟩
    refine ⟨_, rfl, .inl ⟨rfl, _, SqL.of p8⟩, _, rfl, a, C j, fs, _, _, _, rfl, exc_same x s8, Z.ec j hj, .own _, Z.own j 24 hj (by decide), by show 1 ≤ sizeLine; decide, fun d8 hd8 => ?_⟩
    obtain ⟨s9, m8, p9⟩ := grow_step (zs := [V.bl (decide (j = 24))]) s8 np p8 hd8
    refine ⟨p, d8, _, _, rfl, rfl, m8, upd_same, by show 24 + 1 ≤ sizeLine; decide, ?_⟩
    exact ⟨_, rfl, k _ p s9 np p9⟩
theorem ok_own {f fK : Addr} {fd fdK : FuncData} (F : Fun K "_law_is_own" "_law_is_own" sOwn f fd) (T : Bt mg) (TX : Bx mg) (S : Es P w K mg base C) (Z : Kt K C CB) (gB : mg "BellError" = some (.ref CB))
    (FK : Fun K "_law_kinds" "_law_kinds" sKinds fK fdK) (gK : mg "_law_kinds" = some (.ref fK)) (bK : Binds K fdK ["_law_e"] []) : FnOk P w K mg base CX0 2 f fd ["_law_e", "_law_at"] (spOwn C) := by
  have G : FnOk P w K mg base CX0 1 fK fdK ["_law_e"] (spKinds C) := ok_kinds FK T S Z
  refine F.ok scOwn (fun vs H Q E h => ?_) (fun cdv A outer s H vs Q E hr h => ?_)
  · obtain ⟨a, j, fs, rfl, _⟩ := h
    rfl
  · obtain ⟨a, j, fs, rfl, hj, x, k⟩ := h
    refine ⟨_, (pss_cons (ps_if (PW.pt (pw_or (pt_not (pt_val (pe_callB call_isE (by rfl) T.isi (by decide +kernel) (pa_cons (pv 0) (pa_cons (pe_gref (by rfl) gB) pa_nil))))) (pw_or1 (pt_not (pt_val (pe_callB call_isE (by rfl) T.isi (by decide +kernel) (pa_cons (pv 0) (pa_cons (pe_bltn (v := .ty "ValueError") (by rfl) TX.ValueError (by decide +kernel) rfl) pa_nil)))))))) (pss_one (ps_ret pe_bl)) pss_nil)
  (pss_cons (ps_if (PW.pt (pw_or (pt_val (pe_callB call_isE (by rfl) T.isi (by decide +kernel) (pa_cons (pv 0) (pa_cons (pe_bltn (v := .ty "LookupError") (by rfl) TX.LookupError (by decide +kernel) rfl) pa_nil)))) (pw_or (pt_val (pe_callB call_isE (by rfl) T.isi (by decide +kernel) (pa_cons (pv 0) (pa_cons (pe_bltn (v := .ty "TypeError") (by rfl) TX.TypeError (by decide +kernel) rfl) pa_nil)))) (pw_or1 (pt_val (pe_callB call_isE (by rfl) T.isi (by decide +kernel) (pa_cons (pv 0) (pa_cons (pe_bltn (v := .ty "ArithmeticError") (by rfl) TX.ArithmeticError (by decide +kernel) rfl) pa_nil)))))))) (pss_one (ps_ret pe_bl)) pss_nil)
  (pss_cons (ps_if (pt_val (pe_callB call_isE (by rfl) T.isi (by decide +kernel) (pa_cons (pv 0) (pa_cons (pe_bltn (v := .ty "RuntimeError") (by rfl) TX.RuntimeError (by decide +kernel) rfl) pa_nil)))) (pss_one (ps_ret pe_bl)) pss_nil)
  (pss_one (ps_ret (pe_cmpR (op_eqD hr.units) (pe_call G hr (by rfl) gK FK.kp bK .nil pass0 (pa_cons (pv 0) pa_nil)) (pe_lc (own := [("_law_k", 2)]) (g := gName 2) (tt := tYes) rfl scOwn.nd (pi_range1 (by rfl) T.range (pa_cons pe_int pa_nil)) (blkOk_by (N := ["_law_e", "_law_at", "_law_k"]) (sc := defScope sOwn) (by decide +kernel)) (fun _ _ _ _ _ => (pg_name (i := 2) (x := "_law_k") scOwn.nd rfl (Or.inl rfl))) (fun _ _ _ _ _ => pts_nil) (fun _ _ _ _ _ => (pe_cmpR op_eq (pv 2) (pv 1) (nomark _)))) (nomark _))))))), ?_⟩
    refine ⟨_, rfl, a, C j, fs, _, _, true, rfl, x, Z.ec j hj, .own _, Z.bell j hj, _, rfl, iteF ?_⟩
    refine ⟨_, rfl, a, C j, fs, _, _, true, rfl, x, Z.ec j hj, .ty _, Z.val j hj, _, rfl, iteF ?_⟩
    refine ⟨_, rfl, a, C j, fs, _, _, false, rfl, x, Z.ec j hj, .ty _, Z.look j hj, _, rfl, iteF ?_⟩
    refine ⟨_, rfl, a, C j, fs, _, _, false, rfl, x, Z.ec j hj, .ty _, Z.type j hj, _, rfl, iteF ?_⟩
    refine ⟨_, rfl, a, C j, fs, _, _, false, rfl, x, Z.ec j hj, .ty _, Z.arith j hj, _, rfl, iteF ?_⟩
    refine ⟨_, rfl, a, C j, fs, _, _, false, rfl, x, Z.ec j hj, .ty _, Z.run j hj, _, rfl, iteF ?_⟩
    refine ⟨_, rfl, a, j, fs, rfl, hj, x, fun H1 p e1 np hp => ⟨25, rfl, by decide, by decide, fun D hD => ?_⟩⟩
    have npD : p ≠ D := ne_of_none hp hD
    refine lc_range (lo := 0) (n := 25) (fun i H' => Same H1 H' ∧ H' D = some (.lst (((List.range i).map fun k => decide (j = k)).map V.bl))) ⟨same_new hD, upd_same⟩ ?_ ?_
    · rintro i H2 hi ⟨q1, q2⟩
      refine ⟨rfl, ?_⟩
      dsimp only [tYes]
      refine iteT ?_
      refine ⟨_, rfl, _, rfl, rfl, _, q2, ?_, fun b o z => ?_, ?_⟩
      · simp only [List.length_map, List.length_range]
        exact Nat.lt_trans hi (by decide)
      · rw [upd_ne (ne_of_none z hD)]
        exact q1 _ _ z
      · rw [upd_same, List.range_succ, List.map_append, List.map_append]
        have e : decide (V.int (0 + (i : Int)) = V.int (j : Int)) = decide (j = i) := by
          by_cases hji : j = i
          · subst hji
            rw [decide_eq_true (show V.int (0 + (j : Int)) = V.int (j : Int) by rw [Int.zero_add]), decide_eq_true rfl]
          · rw [decide_eq_false hji]
            refine decide_eq_false fun z => hji ?_
            have z1 := V.int.inj z
            omega
        rw [e]
        rfl
    · rintro H2 ⟨q1, q2⟩
      refine ⟨.list ((kindL j).map PyData.bool), .list ((kindL j).map PyData.bool), .lst (SqL.of (q1 _ _ hp)) (dp_bls _), .lst (SqL.of q2) (dp_bls _), sh_bls _, sh_bls _, ?_⟩
      have z : PyData.eqv (.list ((kindL j).map PyData.bool)) (.list ((kindL j).map PyData.bool)) = true := eqv_bls _
      rw [z]
      exact k _ (e1.trans q1)
end
end K00

set_option Elab.async false
set_option linter.all false
set_option maxRecDepth 100000
set_option maxHeartbeats 4000000
namespace K00
open PySem PySem.Spec PyProof.Rows L2 Own LamX
theorem scRight : FnScope ["_law_x", "_law_y", "_law_at", "_law_mine", "_law_named", "_law_field", "_law_due"] ["_law_x", "_law_y"] (defScope sRight) := ⟨rfl, rfl, rfl, by decide +kernel, rfl, by decide +kernel, by decide +kernel⟩
def spRight (T : List (Addr × Str)) : Sp := fun vs H Q _ => ∃ vx vy : V, vs = [vx, vy] ∧ Tabs T H ∧ Eqt 3 H vx vx ∧ Eqt 3 H vy vy ∧ ∀ H', ExtN H H' → Tabs T H' → Q (.bl true) H'
theorem due_eqt {H : Hp} {vx vy : V} (hx : Eqt 3 H vx vx) (hy : Eqt 3 H vy vy) (j : Nat) : Paired (Eqt 3 H) (dueJ vx vy j) (dueJ vx vy j) ∧ (dueJ vx vy j).length ≤ 1000 := by
  unfold dueJ
  split
  · exact ⟨.nil, by decide⟩
  · exact ⟨.cons hx (.cons hy .nil), by show 2 ≤ 1000; decide⟩
  · exact ⟨.cons hx .nil, by show 1 ≤ 1000; decide⟩
/-- two lists of what is due, at two places -/
theorem due_same {H : Hp} {vx vy : V} {d e : Addr} {j : Nat} (hx : Eqt 3 H vx vx) (hy : Eqt 3 H vy vy) (hd : H d = some (.lst (dueJ vx vy j))) (he : H e = some (.lst (dueJ vx vy j))) : Eqt 4 H (.ref d) (.ref e) :=
  .inr (.inl ⟨d, e, _, _, rfl, rfl, hd, he, (due_eqt hx hy j).1, (due_eqt hx hy j).2⟩)
section
variable {P : Program} {w : World} {K : PySem.W.Frag} {mg : Str → Option Value} {base : Heap} {C : Nat → Addr} {CB : Addr} {TT : List (Addr × Str)}
theorem ok_right {f fE fO fS : Addr} {fd fdE fdO fdS : FuncData} {cE : Addr} (F : Fun K "_law_right" "_law_right" sRight f fd) (T : Bt mg) (S : Es P w K mg base C)
    (FE : FunC K "_law_errors" "_law_errors" sErrors fE fdE cE) (GE : FnOk P w K mg base CX0 3 fE fdE ["_law_x", "_law_y"] (spErr C TT)) (gE : mg "_law_errors" = some (.ref fE)) (bE : Binds K fdE ["_law_x", "_law_y"] [])
    (FO : Fun K "_law_is_own" "_law_is_own" sOwn fO fdO) (GO : FnOk P w K mg base CX0 2 fO fdO ["_law_e", "_law_at"] (spOwn C)) (gO : mg "_law_is_own" = some (.ref fO)) (bO : Binds K fdO ["_law_e", "_law_at"] [])
    (FS : Fun K "_law_same" "_law_same" sSame fS fdS) (GS : FnOk P w K mg base CX0 6 fS fdS ["_law_found", "_law_due"] (spSame 4)) (gS : mg "_law_same" = some (.ref fS)) (bS : Binds K fdS ["_law_found", "_law_due"] []) :
    FnOk P w K mg base CX0 7 f fd ["_law_x", "_law_y"] (spRight TT) := by
  refine F.ok scRight (fun vs H Q E h => ?_) (fun cdv A outer s H vs Q E hr h => ?_)
  · obtain ⟨vx, vy, rfl, _⟩ := h
    rfl
  · obtain ⟨vx, vy, rfl, hT, hx, hy, k⟩ := h
    have hrE : Room 3 _ := hr.mono (by decide)
    have hrO : Room 2 _ := hr.mono (by decide)
    have hrS : Room 6 _ := hr
    have hrL : Room (0 + 1) _ := hr.mono (by decide)
    refine ⟨_, (pss_cons (ps_for PassesOwn.never rfl (pi_enum (by rfl) T.enum (pa_cons (pe_call GE hrE (by rfl) gE FE.kp bE .nil pass0 (pa_cons (pv 0) (pa_cons (pv 1) pa_nil))) pa_nil)) (pg_tup rfl (pgs_cons (pg_name (i := 2) (x := "_law_at") scRight.nd rfl (Or.inl rfl)) (pgs_cons (pg_tup rfl (pgs_cons (pg_name (i := 3) (x := "_law_mine") scRight.nd rfl (Or.inl rfl)) (pgs_cons (pg_name (i := 4) (x := "_law_named") scRight.nd rfl (Or.inl rfl)) (pgs_cons (pg_name (i := 5) (x := "_law_field") scRight.nd rfl (Or.inl rfl)) (pgs_cons (pg_name (i := 6) (x := "_law_due") scRight.nd rfl (Or.inl rfl)) pgs_nil))))) pgs_nil))) (pss_cons (ps_if (PW.pt (pw_or (pt_not (pt_val (pe_call GO hrO (by rfl) gO FO.kp bO .nil pass0 (pa_cons (pv 3) (pa_cons (pv 2) pa_nil))))) (pw_or1 (pt_not (pt_val (pe_call GO hrO (by rfl) gO FO.kp bO .nil pass0 (pa_cons (pv 4) (pa_cons (pv 2) pa_nil)))))))) (pss_one (ps_ret pe_bl)) pss_nil)
  (pss_one (ps_if (PW.pt (pw_or (pt_not (pt_val (pe_call GS hrS (by rfl) gS FS.kp bS .nil pass0 (pa_cons (pe_callLam (k := 0) (i := 5) hrL (by rfl) (Or.inl rfl) (pa_cons (pv 3) pa_nil)) (pa_cons (pv 6) pa_nil))))) (pw_or1 (pt_not (pt_val (pe_call GS hrS (by rfl) gS FS.kp bS .nil pass0 (pa_cons (pe_callLam (k := 0) (i := 5) hrL (by rfl) (Or.inl rfl) (pa_cons (pv 4) pa_nil)) (pa_cons (pv 6) pa_nil)))))))) (pss_one (ps_ret pe_bl)) pss_nil))))
  (pss_one (ps_ret pe_bl))), ?_⟩
    refine ⟨_, rfl, _, rfl, vx, vy, rfl, hT, fun H1 p e1 T1 np rows => ?_⟩
    obtain ⟨ts, hp, hlen, hrow⟩ := rows.ex
    refine ⟨p, ts, rfl, SqL.of hp, for_it (walk_enum (xs := ts)) (fun i σ' H' => (∃ v2 v3 v4 v5 v6, σ' = [some vx, some vy, v2, v3, v4, v5, v6]) ∧ ExtN H1 H' ∧ Tabs TT H') ⟨⟨none, none, none, none, none, rfl⟩, ExtN.refl _, T1⟩ (fun i σ' H' _ q => SqL.of (q.2.1 _ _ hp (fun t z => by cases z))) ?_ ?_⟩
    · rintro i y σ' H2 H3 hi ⟨⟨v2, v3, v4, v5, v6, rfl⟩, e2, T2⟩ ⟨t0, z1, z2, rfl, ht0, rfl, h1, h2⟩
      obtain ⟨t, et, row⟩ := hrow i (by omega)
      have h2' : ts[i]? = some z2 := h2
      rw [et] at h2'
      obtain rfl := Option.some.inj h2'
      obtain rfl := Option.some.inj h1
      have e3 := same_new (o := HO.tup [V.int (i : Nat), V.ref t]) ht0
      have e23 := e2.trans (ext_of e3)
      have T3 := T2.ext e3
      have row3 := row.ext e23
      obtain ⟨m, n, fl, d, ht, xm, xn, la, hd, _, _⟩ := row3.ex
      refine ⟨t0, _, rfl, SqT.of upd_same, rfl, _, _, rfl, _, _, rfl, ⟨t, _, rfl, SqT.of ht, rfl, _, _, rfl, _, _, rfl, _, _, rfl, _, _, rfl, rfl, rfl, ?_⟩⟩
      have hi25 : i < 25 := by omega
      refine ⟨_, rfl, _, rfl, m, i, _, rfl, hi25, xm, fun H4 e4 => ⟨_, rfl, iteF ⟨_, rfl, _, rfl, n, i, _, rfl, hi25, exc_same xn e4, fun H5 e5 => ⟨_, rfl, ?_⟩⟩⟩⟩
      refine iteF ?_
      have e35 := e4.trans e5
      have x5 := exc_same xm e35
      have y5 := exc_same xn e35
      have la5 := la.ext (ext_of e35)
      have d5 := e35 _ _ hd
      have ex5 : ExtN H H5 := (e1.trans e23).trans (ext_of e35)
      refine ⟨fl, qLam, _, _, _, spL C vx vy i, rfl, la5, l_all S vx vy i hi25, _, rfl, la5, m, rfl, x5, fun d1 hd1 => ?_⟩
      have s6 := same_new (o := HO.lst (dueJ vx vy i)) hd1
      refine ⟨_, rfl, .ref d1, .ref d, rfl, due_same (hx.ext (ex5.trans (ext_of s6))) (hy.ext (ex5.trans (ext_of s6))) upd_same (s6 _ _ d5), fun H6 e6 => ⟨_, rfl, iteF ?_⟩⟩
      have e56 := s6.trans e6
      have la6 := la5.ext (ext_of e56)
      refine ⟨fl, qLam, _, _, _, spL C vx vy i, rfl, la6, l_all S vx vy i hi25, _, rfl, la6, n, rfl, exc_same y5 e56, fun d2 hd2 => ?_⟩
      have s7 := same_new (o := HO.lst (dueJ vx vy i)) hd2
      have ex7 := (ex5.trans (ext_of e56)).trans (ext_of s7)
      refine ⟨_, rfl, .ref d2, .ref d, rfl, due_same (hx.ext ex7) (hy.ext ex7) upd_same (s7 _ _ (e56 _ _ d5)), fun H7 e7 => ⟨_, rfl, iteF ?_⟩⟩
      have eE := (((e35.trans e56).trans s7).trans e7)
      exact ⟨⟨_, _, _, _, _, rfl⟩, e23.trans (ext_of eE), T3.ext eE⟩
    · rintro σ' H2 ⟨⟨v2, v3, v4, v5, v6, rfl⟩, e2, T2⟩
      exact k _ (e1.trans e2) T2
end
end K00

set_option Elab.async false
set_option linter.all false
set_option maxRecDepth 100000
set_option maxHeartbeats 8000000
namespace K00
open PySem PySem.Spec PyProof.Rows L2 Own LamX
theorem scLaw : FnScope ["_law_script", "_law_stream_here", "_law_some", "_law_turn", "_law_x", "_law_y", "_law_made", "_law_thing", "_law_mine", "_law_named", "_law_field", "_law_due"] ["_law_script"] (defScope sLaw) := ⟨rfl, rfl, rfl, by decide +kernel, rfl, by decide +kernel, by decide +kernel⟩
def spLaw (K : PySem.W.Frag) (T : List (Addr × Str)) : Sp := fun vs H Q _ => ∃ (a : Addr) (ns : List Int), vs = [.ref a] ∧ SqL K H a (ns.map V.int) ∧ ns.length ≤ 63 ∧ Tabs T H ∧ ∀ H', Q (.bl true) H'
/-- the heap without the stream -/
def off2 (a l : Addr) (H : Hp) : Hp := fun b => if b = a ∨ b = l then none else H b
theorem off2_at {a l b : Addr} {H : Hp} {o : HO} (h : H b = some o) (h1 : b ≠ a) (h2 : b ≠ l) : off2 a l H b = some o := by
  unfold off2
  rw [if_neg (by rintro (z | z); exact h1 z; exact h2 z)]
  exact h
theorem off2_of {a l b : Addr} {H : Hp} {o : HO} (h : off2 a l H b = some o) : b ≠ a ∧ b ≠ l ∧ H b = some o := by
  unfold off2 at h
  by_cases z : b = a ∨ b = l
  · rw [if_pos z] at h
    cases h
  · rw [if_neg z] at h
    exact ⟨fun y => z (.inl y), fun y => z (.inr y), h⟩
theorem off2_but {a l : Addr} {H H1 H2 : Hp} (e : ExtN (off2 a l H) H1) (b : But2 a l H1 H2) : ExtN (off2 a l H) H2 := fun c o h n => by
  obtain ⟨h1, h2, _⟩ := off2_of h
  exact b c o h1 h2 (e c o h n)
theorem tabs_but2 {T : List (Addr × Str)} {a l : Addr} {H H1 : Hp} {xs ys : List V} (t : Tabs T H) (b : But2 a l H H1) (ha : H a = some (.lst xs)) (hl : H l = some (.lst ys)) : Tabs T H1 := fun p hp => by
  have ne : ∀ {c : Addr} {o : HO}, H c = some o → (∀ zs, o ≠ .lst zs) → c ≠ a ∧ c ≠ l := fun {c o} h k => ⟨fun z => by rw [z, ha] at h; exact k xs (Option.some.inj h).symm, fun z => by rw [z, hl] at h; exact k ys (Option.some.inj h).symm⟩
  obtain ⟨tb, a1, a2, a3⟩ := t p hp
  have n1 := ne a1 (fun zs z => by cases z)
  refine ⟨tb, b _ _ n1.1 n1.2 a1, a2, fun p2 cv hc => ?_⟩
  obtain ⟨c, b1, b2⟩ := a3 p2 cv hc
  have n2 := ne b2 (fun zs z => by unfold CodeO at z; cases z)
  exact ⟨c, b1, b _ _ n2.1 n2.2 b2⟩
theorem strm_lists {N : Int} {H : Hp} {a l : Addr} (S : Strm N H a l) : ∃ xs ys, H a = some (.lst xs) ∧ H l = some (.lst ys) := by
  obtain ⟨xs, c, n, m, h1, h2, _⟩ := S.ex
  exact ⟨_, _, h1, h2⟩
theorem same_dict {H : Hp} {p : Addr} {o u : HO} (h : H p = none) : Same H (upd (upd H p o) p u) := fun b x e => by
  rw [upd_ne (ne_of_none e h), upd_ne (ne_of_none e h)]
  exact e
def menuL (p1 p2 p3 p5 p6 : Addr) : List V := [.non, .int 5, .int (-1), .bl true, .str "a", .str "", .ref p1, .ref p2, .ref p3, .ref p5, .int (10 ^ (17 : Int).toNat), .ref p6, .bl false, .int 0, .int 1]
def menuH (H : Hp) (p1 p2 p3 p4 p5 p6 : Addr) : Hp := upd (upd (upd (upd (upd (upd (upd H p1 (.lst [.int 1, .str "b"])) p2 (.tup [.int 2, .non])) p3 (.dK [])) p3 (.dK (mergeK [] [(.inr "a", .int 1)]))) p4 (.lst [.str "x"])) p5 (.lst [.ref p4])) p6 (.tup [.str "s", .int 3])
theorem fresh_ne {H H' : Hp} {a p : Addr} {o : HO} (e : Same H H') (h : H a = some o) (n : H' p = none) : p ≠ a := (ne_of_none (e _ _ h) n).symm
theorem menu_ok {H : Hp} {st l p1 p2 p3 p4 p5 p6 ps : Addr} {zs ys : List V} (hst : H st = some (.lst zs)) (hl : H l = some (.lst ys)) (h1 : H p1 = none) (h2 : upd H p1 (.lst [.int 1, .str "b"]) p2 = none)
    (h3 : upd (upd H p1 (.lst [.int 1, .str "b"])) p2 (.tup [.int 2, .non]) p3 = none)
    (h4 : upd (upd (upd (upd H p1 (.lst [.int 1, .str "b"])) p2 (.tup [.int 2, .non])) p3 (.dK [])) p3 (.dK (mergeK [] [(.inr "a", .int 1)])) p4 = none)
    (h5 : upd (upd (upd (upd (upd H p1 (.lst [.int 1, .str "b"])) p2 (.tup [.int 2, .non])) p3 (.dK [])) p3 (.dK (mergeK [] [(.inr "a", .int 1)]))) p4 (.lst [.str "x"]) p5 = none)
    (h6 : upd (upd (upd (upd (upd (upd H p1 (.lst [.int 1, .str "b"])) p2 (.tup [.int 2, .non])) p3 (.dK [])) p3 (.dK (mergeK [] [(.inr "a", .int 1)]))) p4 (.lst [.str "x"])) p5 (.lst [.ref p4]) p6 = none)
    (h7 : menuH H p1 p2 p3 p4 p5 p6 ps = none) :
    Same H (upd (menuH H p1 p2 p3 p4 p5 p6) ps (.lst (menuL p1 p2 p3 p5 p6))) ∧ ps ≠ st ∧ ps ≠ l ∧
    ∀ v ∈ menuL p1 p2 p3 p5 p6, Eqt 3 (off2 st l (upd (menuH H p1 p2 p3 p4 p5 p6) ps (.lst (menuL p1 p2 p3 p5 p6)))) v v := by
  have s1 := same_new (o := HO.lst [.int 1, .str "b"]) h1
  have s2 := same_new (o := HO.tup [.int 2, .non]) h2
  have s3 := same_dict (o := HO.dK []) (u := HO.dK (mergeK [] [(.inr "a", .int 1)])) h3
  have s4 := same_new (o := HO.lst [.str "x"]) h4
  have s5 := same_new (o := HO.lst [.ref p4]) h5
  have s6 := same_new (o := HO.tup [.str "s", .int 3]) h6
  have s7 := same_new (o := HO.lst (menuL p1 p2 p3 p5 p6)) h7
  have t6 := s6.trans s7
  have t5 := s5.trans t6
  have t4 := s4.trans t5
  have t3 := s3.trans t4
  have t2 := s2.trans t3
  have t1 := s1.trans t2
  have u2 := s1.trans s2
  have u3 := u2.trans s3
  have u4 := u3.trans s4
  have u5 := u4.trans s5
  have u6 := u5.trans s6
  have at1 := off2_at (t2 _ _ upd_same) (ne_of_none hst h1).symm (ne_of_none hl h1).symm
  have at2 := off2_at (t3 _ _ upd_same) (fresh_ne s1 hst h2) (fresh_ne s1 hl h2)
  have at3 := off2_at (t4 _ _ upd_same) (fresh_ne u2 hst h3) (fresh_ne u2 hl h3)
  have at4 := off2_at (t5 _ _ upd_same) (fresh_ne u3 hst h4) (fresh_ne u3 hl h4)
  have at5 := off2_at (t6 _ _ upd_same) (fresh_ne u4 hst h5) (fresh_ne u4 hl h5)
  have at6 := off2_at (s7 _ _ upd_same) (fresh_ne u5 hst h6) (fresh_ne u5 hl h6)
  refine ⟨t1, fresh_ne u6 hst h7, fresh_ne u6 hl h7, fun v hv => ?_⟩
  have one : 1 ≤ 1000 := by decide
  have two : 2 ≤ 1000 := by decide
  unfold menuL at hv
  simp only [List.mem_cons, List.not_mem_nil, or_false] at hv
  rcases hv with rfl | rfl | rfl | rfl | rfl | rfl | rfl | rfl | rfl | rfl | rfl | rfl | rfl | rfl | rfl
  · exact eqt_atom rfl
  · exact eqt_atom rfl
  · exact eqt_atom rfl
  · exact eqt_atom rfl
  · exact eqt_atom rfl
  · exact eqt_atom rfl
  · exact .inr (.inl ⟨p1, p1, _, _, rfl, rfl, at1, at1, .cons (eqt_atom rfl) (.cons (eqt_atom rfl) .nil), two⟩)
  · exact .inr (.inr (.inl ⟨p2, p2, _, _, rfl, rfl, at2, at2, .cons (eqt_atom rfl) (.cons (eqt_atom rfl) .nil), two⟩))
  · exact .inr (.inr (.inr ⟨by decide, p3, p3, _, rfl, rfl, at3, at3, fun p hp => by
      have z : mergeK [] [((.inr "a", .int 1) : Key × V)] = [(.inr "a", .int 1)] := rfl
      rw [z] at hp
      rw [List.mem_singleton.mp hp]
      rfl, one⟩))
  · exact .inr (.inl ⟨p5, p5, _, _, rfl, rfl, at5, at5, .cons (.inr (.inl ⟨p4, p4, _, _, rfl, rfl, at4, at4, .cons (eqt_atom rfl) .nil, one⟩)) .nil, one⟩)
  · exact eqt_atom rfl
  · exact .inr (.inr (.inl ⟨p6, p6, _, _, rfl, rfl, at6, at6, .cons (eqt_atom rfl) (.cons (eqt_atom rfl) .nil), two⟩))
  · exact eqt_atom rfl
  · exact eqt_atom rfl
  · exact eqt_atom rfl
/-- a list or a dict, as made, or with what came late -/
def HOv : Bool → Bool → HO
  | true, false => .lst [.str "v"]
  | true, true => .lst [.str "v", .str "late"]
  | false, false => .dK [(.inr "w", .int 1)]
  | false, true => .dK [(.inr "w", .int 1), (.inr "late", .int 2)]
theorem hov_ld (b c : Bool) : (∃ xs, HOv b c = .lst xs) ∨ ∃ ks, HOv b c = .dK ks := by
  cases b <;> cases c
  · exact .inr ⟨_, rfl⟩
  · exact .inr ⟨_, rfl⟩
  · exact .inl ⟨_, rfl⟩
  · exact .inl ⟨_, rfl⟩
theorem hov_nt (b c : Bool) : ∀ t, HOv b c ≠ .tbl t := fun t z => by
  cases b <;> cases c <;> cases z
theorem hov_eqt {H : Hp} {q : Addr} (b c : Bool) (h : H q = some (HOv b c)) : Eqt 3 H (.ref q) (.ref q) := by
  cases b <;> cases c
  · exact .inr (.inr (.inr ⟨by decide, q, q, _, rfl, rfl, h, h, fun p hp => by simp at hp; rw [hp]; rfl, by show 1 ≤ 1000; decide⟩))
  · exact .inr (.inr (.inr ⟨by decide, q, q, _, rfl, rfl, h, h, fun p hp => by simp at hp; rcases hp with hp | hp <;> (rw [hp]; rfl), by show 2 ≤ 1000; decide⟩))
  · exact .inr (.inl ⟨q, q, _, _, rfl, rfl, h, h, .cons (eqt_atom rfl) .nil, by show 1 ≤ 1000; decide⟩)
  · exact .inr (.inl ⟨q, q, _, _, rfl, rfl, h, h, .cons (eqt_atom rfl) (.cons (eqt_atom rfl) .nil), by show 2 ≤ 1000; decide⟩)
/-- between the two turns over a list and a dict: t0 holds the pairs t1 and t2 -/
structure Two (T : List (Addr × Str)) (t0 t1 t2 q1 q2 q3 q4 : Addr) (sh : L2.St → Prop) (i : Nat) (σ : L2.St) (H : Hp) : Prop where
  s : sh σ
  t : Tabs T H
  h0 : H t0 = some (.tup [.ref t1, .ref t2])
  h1 : H t1 = some (.tup [.ref q1, .ref q2])
  h2 : H t2 = some (.tup [.ref q3, .ref q4])
  a1 : i = 0 → H q1 = some (HOv true false) ∧ H q2 = some (HOv false false)
  a2 : i ≤ 1 → H q3 = some (HOv false false) ∧ H q4 = some (HOv true false)
/-- the next pair, and what a turn has to leave -/
theorem Two.next {T : List (Addr × Str)} {t0 t1 t2 q1 q2 q3 q4 : Addr} {sh : L2.St → Prop} {i : Nat} {σ : L2.St} {H : Hp} {y : V} (w : Two T t0 t1 t2 q1 q2 q3 q4 sh i σ H) (hy : ([V.ref t1, V.ref t2] : List V)[i]? = some y)
    (n13 : q1 ≠ q3) (n14 : q1 ≠ q4) (n23 : q2 ≠ q3) (n24 : q2 ≠ q4) :
    ∃ (tq qx qy : Addr) (bx : Bool), y = .ref tq ∧ H tq = some (.tup [.ref qx, .ref qy]) ∧ H qx = some (HOv bx false) ∧ H qy = some (HOv (!bx) false) ∧
      ∀ σ2 H2, sh σ2 → Tabs T H2 → (∀ b o, b ≠ qx → b ≠ qy → H b = some o → (∀ t, o ≠ .tbl t) → H2 b = some o) → Two T t0 t1 t2 q1 q2 q3 q4 sh (i + 1) σ2 H2 := by
  have nt : ∀ {q t : Addr} {b c : Bool} {xs : List V}, H q = some (HOv b c) → H t = some (.tup xs) → t ≠ q := fun {q t b c xs} h1 h2 z => by
    rw [z, h1] at h2
    cases b <;> cases c <;> cases h2
  match i, hy with
  | 0, hy =>
    obtain rfl := Option.some.inj hy
    obtain ⟨x1, x2⟩ := w.a1 rfl
    obtain ⟨x3, x4⟩ := w.a2 (by decide)
    refine ⟨t1, q1, q2, true, rfl, w.h1, x1, x2, fun σ2 H2 s2 T2 k => ⟨s2, T2, ?_, ?_, ?_, fun z => absurd z (by decide), fun _ => ⟨?_, ?_⟩⟩⟩
    · exact k _ _ (nt x1 w.h0) (nt x2 w.h0) w.h0 (fun t z => by cases z)
    · exact k _ _ (nt x1 w.h1) (nt x2 w.h1) w.h1 (fun t z => by cases z)
    · exact k _ _ (nt x1 w.h2) (nt x2 w.h2) w.h2 (fun t z => by cases z)
    · exact k _ _ n13.symm n23.symm x3 (hov_nt _ _)
    · exact k _ _ n14.symm n24.symm x4 (hov_nt _ _)
  | 1, hy =>
    obtain rfl := Option.some.inj hy
    obtain ⟨x3, x4⟩ := w.a2 (by decide)
    refine ⟨t2, q3, q4, false, rfl, w.h2, x3, x4, fun σ2 H2 s2 T2 k => ⟨s2, T2, ?_, ?_, ?_, fun z => absurd z (by decide), fun z => absurd z (by decide)⟩⟩
    · exact k _ _ (nt x3 w.h0) (nt x4 w.h0) w.h0 (fun t z => by cases z)
    · exact k _ _ (nt x3 w.h1) (nt x4 w.h1) w.h1 (fun t z => by cases z)
    · exact k _ _ (nt x3 w.h2) (nt x4 w.h2) w.h2 (fun t z => by cases z)
  | n + 2, hy => cases hy
/-- while what came late is put in: C rows stand in the list at p -/
structure Late (C : Nat → Addr) (T : List (Addr × Str)) (H0 : Hp) (p tt qx qy : Addr) (bx : Bool) (sh : L2.St → Prop) (i : Nat) (σ : L2.St) (H : Hp) : Prop where
  s : sh σ
  t : Tabs T H
  ht : H tt = some (.tup [.ref qx, .ref qy])
  hx : H qx = some (HOv bx (decide (0 < i)))
  hy : H qy = some (HOv (!bx) (decide (1 < i)))
  r : Rows C H0 H p (.ref qx) (.ref qy) 25
  k : ∀ b o, b ≠ qx → b ≠ qy → H0 b = some o → (∀ t, o ≠ .tbl t) → H b = some o
theorem tabs_upd {T : List (Addr × Str)} {H : Hp} {q : Addr} {b c : Bool} {o : HO} (t : Tabs T H) (h : H q = some (HOv b c)) : Tabs T (upd H q o) := fun p hp => by
  obtain ⟨tb, a1, a2, a3⟩ := t p hp
  have n1 : p.1 ≠ q := fun z => by
    rw [z, h] at a1
    exact hov_nt b c tb (Option.some.inj a1)
  refine ⟨tb, by rw [upd_ne n1]; exact a1, a2, fun p2 cv hc => ?_⟩
  obtain ⟨d, b1, b2⟩ := a3 p2 cv hc
  have n2 : d ≠ q := fun z => by
    rw [z, h] at b2
    unfold CodeO at b2
    cases b <;> cases c <;> cases b2
  exact ⟨d, b1, by rw [upd_ne n2]; exact b2⟩
theorem Late.next {C : Nat → Addr} {T : List (Addr × Str)} {H0 : Hp} {p tt qx qy : Addr} {bx : Bool} {sh : L2.St → Prop} {i : Nat} {σ : L2.St} {H : Hp} {y : V} (w : Late C T H0 p tt qx qy bx sh i σ H) (hy : ([V.ref qx, V.ref qy] : List V)[i]? = some y) (ne : qx ≠ qy)
    (hx0 : ∃ o, H0 qx = some o ∧ ∀ tb, o ≠ .tbl tb) (hy0 : ∃ o, H0 qy = some o ∧ ∀ tb, o ≠ .tbl tb) (nxp : qx ≠ p) (nyp : qy ≠ p) :
    ∃ (q : Addr) (b : Bool), y = .ref q ∧ H q = some (HOv b false) ∧ ∀ σ2, sh σ2 → Late C T H0 p tt qx qy bx sh (i + 1) σ2 (upd H q (HOv b true)) := by
  have bt : ∀ q o, ButT q H (upd H q o) := fun q o b u hb e _ => by
    rw [upd_ne hb]
    exact e
  have nt : ∀ {q : Addr} {b c : Bool}, H q = some (HOv b c) → tt ≠ q := fun {q b c} h1 z => by
    have h2 := w.ht
    rw [z, h1] at h2
    cases b <;> cases c <;> cases h2
  have ld : ∀ {q : Addr} {b c : Bool}, H q = some (HOv b c) → (∃ xs, H q = some (.lst xs)) ∨ ∃ ks, H q = some (.dK ks) := fun {q b c} h => by
    rcases hov_ld b c with ⟨xs, e⟩ | ⟨ks, e⟩
    · exact .inl ⟨xs, by rw [h, e]⟩
    · exact .inr ⟨ks, by rw [h, e]⟩
  match i, hy with
  | 0, hy =>
    obtain rfl := Option.some.inj hy
    refine ⟨qx, bx, rfl, w.hx, fun σ2 s2 => ⟨s2, tabs_upd w.t w.hx, ?_, upd_same, ?_, w.r.but (bt _ _) nxp hx0 (ld w.hx), fun b o h1 h2 e n => ?_⟩⟩
    · rw [upd_ne (nt w.hx)]
      exact w.ht
    · rw [upd_ne ne.symm]
      exact w.hy
    · rw [upd_ne h1]
      exact w.k _ _ h1 h2 e n
  | 1, hy =>
    obtain rfl := Option.some.inj hy
    refine ⟨qy, !bx, rfl, w.hy, fun σ2 s2 => ⟨s2, tabs_upd w.t w.hy, ?_, ?_, upd_same, w.r.but (bt _ _) nyp hy0 (ld w.hy), fun b o h1 h2 e n => ?_⟩⟩
    · rw [upd_ne (nt w.hy)]
      exact w.ht
    · rw [upd_ne ne]
      exact w.hx
    · rw [upd_ne h2]
      exact w.k _ _ h1 h2 e n
  | n + 2, hy => cases hy
section
variable {P : Program} {w : World} {K : PySem.W.Frag} {mg : Str → Option Value} {base : Heap} {C : Nat → Addr} {CB : Addr} {TT : List (Addr × Str)}
theorem ok_law {f fE fS fSt fP fR : Addr} {fd fdE fdS fdSt fdP fdR : FuncData} {cE : Addr} (F : Fun K "law" "law" sLaw f fd) (T : Bt mg) (S : Es P w K mg base C)
    (FE : FunC K "_law_errors" "_law_errors" sErrors fE fdE cE) (GE : FnOk P w K mg base CX0 3 fE fdE ["_law_x", "_law_y"] (spErr C TT)) (gE : mg "_law_errors" = some (.ref fE)) (bE : Binds K fdE ["_law_x", "_law_y"] [])
    (FS : Fun K "_law_same" "_law_same" sSame fS fdS) (GS : FnOk P w K mg base CX0 6 fS fdS ["_law_found", "_law_due"] (spSame 4)) (gS : mg "_law_same" = some (.ref fS)) (bS : Binds K fdS ["_law_found", "_law_due"] [])
    (FSt : Fun K "_law_stream" "_law_stream" sStream fSt fdSt) (GSt : FnOk P w K mg base CX0 1 fSt fdSt ["_law_script"] (spStream K)) (gSt : mg "_law_stream" = some (.ref fSt)) (bSt : Binds K fdSt ["_law_script"] [])
    (FP : Fun K "_law_pick" "_law_pick" sPick fP fdP) (GP : FnOk P w K mg base CX0 2 fP fdP ["_law_stream_here", "_law_things"] spPick) (gP : mg "_law_pick" = some (.ref fP)) (bP : Binds K fdP ["_law_stream_here", "_law_things"] [])
    (FR : Fun K "_law_right" "_law_right" sRight fR fdR) (GR : FnOk P w K mg base CX0 7 fR fdR ["_law_x", "_law_y"] (spRight TT)) (gR : mg "_law_right" = some (.ref fR)) (bR : Binds K fdR ["_law_x", "_law_y"] []) :
    FnOk P w K mg base CX0 8 f fd ["_law_script"] (spLaw K TT) := by
  refine F.ok scLaw (fun vs H Q E h => ?_) (fun cdv A outer s H vs Q E hr h => ?_)
  · obtain ⟨a, ns, rfl, _⟩ := h
    rfl
  · obtain ⟨a, ns, rfl, hS, hl, hT, k⟩ := h
    have hrE : Room 3 _ := hr.mono (by decide)
    have hrS : Room 6 _ := hr.mono (by decide)
    have hrSt : Room 1 _ := hr.mono (by decide)
    have hrP : Room 2 _ := hr.mono (by decide)
    have hrR : Room 7 _ := hr
    have hrL : Room (0 + 1) _ := hr.mono (by decide)
    refine ⟨_, (pss_cons (ps_set (i := 1) scLaw.nd rfl (Or.inl rfl) (pe_call GSt hrSt (by rfl) gSt FSt.kp bSt .nil pass0 (pa_cons (pv 0) pa_nil)))
  (pss_cons (ps_set (i := 2) scLaw.nd rfl (Or.inl rfl) (pe_lst (pa_cons pe_non (pa_cons pe_int (pa_cons (pe_un un_neg pe_int) (pa_cons pe_bl (pa_cons pe_str (pa_cons pe_str (pa_cons (pe_lst (pa_cons pe_int (pa_cons pe_str pa_nil))) (pa_cons (pe_tup (pa_cons pe_int (pa_cons pe_non pa_nil))) (pa_cons (pe_disp (pps_cons pe_str pe_int pps_nil) (by rfl) (by rfl) (fun z => by cases z) (by decide)) (pa_cons (pe_lst (pa_cons (pe_lst (pa_cons pe_str pa_nil)) pa_nil)) (pa_cons (pe_op op_pow pe_int pe_int) (pa_cons (pe_tup (pa_cons pe_str (pa_cons pe_int pa_nil))) (pa_cons pe_bl (pa_cons pe_int (pa_cons pe_int pa_nil)))))))))))))))))
  (pss_cons (ps_for PassesOwn.never rfl (pi_range1 (by rfl) T.range (pa_cons pe_int pa_nil)) (pg_name (i := 3) (x := "_law_turn") scLaw.nd rfl (Or.inl rfl)) (pss_one (ps_if (pt_not (pt_val (pe_call GR hrR (by rfl) gR FR.kp bR .nil pass0 (pa_cons (pe_call GP hrP (by rfl) gP FP.kp bP .nil pass0 (pa_cons (pv 1) (pa_cons (pv 2) pa_nil))) (pa_cons (pe_call GP hrP (by rfl) gP FP.kp bP .nil pass0 (pa_cons (pv 1) (pa_cons (pv 2) pa_nil))) pa_nil))))) (pss_one (ps_ret pe_bl)) pss_nil)))
  (pss_cons (ps_for PassesOwn.never rfl (pi_tup (pe_tup (pa_cons (pe_tup (pa_cons (pe_lst (pa_cons pe_str pa_nil)) (pa_cons (pe_disp (pps_cons pe_str pe_int pps_nil) (by rfl) (by rfl) (fun z => by cases z) (by decide)) pa_nil))) (pa_cons (pe_tup (pa_cons (pe_disp (pps_cons pe_str pe_int pps_nil) (by rfl) (by rfl) (fun z => by cases z) (by decide)) (pa_cons (pe_lst (pa_cons pe_str pa_nil)) pa_nil))) pa_nil)))) (pg_tup rfl (pgs_cons (pg_name (i := 4) (x := "_law_x") scLaw.nd rfl (Or.inl rfl)) (pgs_cons (pg_name (i := 5) (x := "_law_y") scLaw.nd rfl (Or.inl rfl)) pgs_nil))) (pss_cons (ps_set (i := 6) scLaw.nd rfl (Or.inl rfl) (pe_call GE hrE (by rfl) gE FE.kp bE .nil pass0 (pa_cons (pv 4) (pa_cons (pv 5) pa_nil))))
  (pss_cons (ps_for PassesOwn.never rfl (pi_tup (pe_tup (pa_cons (pv 4) (pa_cons (pv 5) pa_nil)))) (pg_name (i := 7) (x := "_law_thing") scLaw.nd rfl (Or.inl rfl)) (pss_one (ps_if (pt_val (pe_callB call_isi (by rfl) T.isi (by decide +kernel) (pa_cons (pv 7) (pa_cons (pe_bltn (v := .ty "list") (by rfl) T.list (by decide +kernel) rfl) pa_nil)))) (pss_one (ps_expr (pe_bm PySem.F.plainAttrs_list PySem.F.slot_list_append PySem.F.type_list_append mt_append (pv 7) (pa_cons pe_str pa_nil)))) (pss_one (ps_dput (hu_of hr) (pv 7) pe_str pe_int rfl)))))
  (pss_one (ps_for PassesOwn.never rfl (pi_list (pv 6)) (pg_tup rfl (pgs_cons (pg_name (i := 8) (x := "_law_mine") scLaw.nd rfl (Or.inl rfl)) (pgs_cons (pg_name (i := 9) (x := "_law_named") scLaw.nd rfl (Or.inl rfl)) (pgs_cons (pg_name (i := 10) (x := "_law_field") scLaw.nd rfl (Or.inl rfl)) (pgs_cons (pg_name (i := 11) (x := "_law_due") scLaw.nd rfl (Or.inl rfl)) pgs_nil))))) (pss_one (ps_if (PW.pt (pw_or (pt_not (pt_val (pe_call GS hrS (by rfl) gS FS.kp bS .nil pass0 (pa_cons (pe_callLam (k := 0) (i := 10) hrL (by rfl) (Or.inl rfl) (pa_cons (pv 8) pa_nil)) (pa_cons (pv 11) pa_nil))))) (pw_or1 (pt_not (pt_val (pe_call GS hrS (by rfl) gS FS.kp bS .nil pass0 (pa_cons (pe_callLam (k := 0) (i := 10) hrL (by rfl) (Or.inl rfl) (pa_cons (pv 9) pa_nil)) (pa_cons (pv 11) pa_nil)))))))) (pss_one (ps_ret pe_bl)) pss_nil)))))))
  (pss_one (ps_ret pe_bl)))))), ?_⟩
    refine ⟨_, rfl, a, ns, rfl, hS, hl, fun H1 st l e1 nst nl S0 => ?_⟩
    obtain ⟨zs, ys, hst, hll⟩ := strm_lists S0
    have T1 : Tabs TT H1 := hT.ext e1
    -- the menu
    refine ⟨_, rfl, two_fit, fun p1 h1 => ⟨two_fit, fun p2 h2 => fun p3 h3 => ⟨upd_same, [(.inr "a", .int 1)], rfl, by decide, by show 1 ≤ sizeLine; decide, fun p4 h4 => ⟨by show 1 ≤ sizeLine; decide, fun p5 h5 => ⟨_, _, rfl, rfl, ⟨by decide, by decide, by decide⟩, two_fit, fun p6 h6 => ⟨by show 15 ≤ sizeLine; decide, fun ps h7 => ?_⟩⟩⟩⟩⟩⟩
    obtain ⟨sM, nS, nL, hM⟩ := menu_ok hst hll h1 h2 h3 h4 h5 h6 h7
    have S1 : Strm 0 (upd (menuH H1 p1 p2 p3 p4 p5 p6) ps (.lst (menuL p1 p2 p3 p5 p6))) st l := S0.keep fun b o z _ => sM _ _ z
    refine ⟨3, rfl, by decide, by decide, for_range (lo := 0) (n := 3) (fun i σ' H' => (∃ v3, σ' = [some (.ref a), some (.ref st), some (.ref ps), v3, none, none, none, none, none, none, none, none]) ∧ ExtN (off2 st l (upd (menuH H1 p1 p2 p3 p4 p5 p6) ps (.lst (menuL p1 p2 p3 p5 p6)))) H' ∧ Strm (2 * (i : Int)) H' st l ∧ Tabs TT H')
      ⟨⟨none, rfl⟩, fun b o z n => (off2_of z).2.2, S1.mono (M := 2 * ((0 : Nat) : Int)) (by omega), T1.ext sM⟩ ?_ ?_⟩
    · rintro i σ' H2 hi ⟨⟨v3, rfl⟩, e2, S2, T2⟩
      have hps : H2 ps = some (.lst (menuL p1 p2 p3 p5 p6)) := e2 _ _ (off2_at upd_same nS nL) (fun t z => by cases z)
      refine ⟨_, rfl, _, rfl, st, l, ps, 2 * (i : Int), _, rfl, S2, by omega, by omega, nS, nL, hps, by show 0 < 15; decide, by show 15 ≤ 1000; decide, fun H3 v hv b3 S3 => ?_⟩
      have e3 := off2_but e2 b3
      obtain ⟨zs2, ys2, a2, l2⟩ := strm_lists S2
      have T3 := tabs_but2 T2 b3 a2 l2
      have hps3 : H3 ps = some (.lst (menuL p1 p2 p3 p5 p6)) := e3 _ _ (off2_at upd_same nS nL) (fun t z => by cases z)
      refine ⟨_, rfl, _, rfl, st, l, ps, 2 * (i : Int) + 1, _, rfl, S3, by omega, by omega, nS, nL, hps3, by show 0 < 15; decide, by show 15 ≤ 1000; decide, fun H4 u hu b4 S4 => ?_⟩
      have e4 := off2_but e3 b4
      obtain ⟨zs3, ys3, a3, l3⟩ := strm_lists S3
      have T4 := tabs_but2 T3 b4 a3 l3
      refine ⟨v, u, rfl, T4, (hM v hv).ext e4, (hM u hu).ext e4, fun H5 e5 T5 => ⟨_, rfl, iteF ?_⟩⟩
      exact ⟨⟨_, rfl⟩, e4.trans e5, (S4.mono (by omega)).keep e5, T5⟩
    · rintro σ' H2 ⟨⟨v3, rfl⟩, e2, S2, T2⟩
      refine ⟨by show 1 ≤ sizeLine; decide, fun q1 g1 => fun q2 g2 => ⟨upd_same, [(.inr "w", .int 1)], rfl, by decide, two_fit, fun t1 g3 => fun q3 g4 => ⟨upd_same, [(.inr "w", .int 1)], rfl, by decide, by show 1 ≤ sizeLine; decide, fun q4 g5 => ⟨two_fit, fun t2 g6 => ⟨two_fit, fun t0 g7 => ?_⟩⟩⟩⟩⟩
      have c1 := same_new (o := HO.lst [.str "v"]) g1
      have c2 := same_dict (o := HO.dK []) (u := HO.dK (mergeK [] [(.inr "w", .int 1)])) g2
      have c3 := same_new (o := HO.tup [.ref q1, .ref q2]) g3
      have c4 := same_dict (o := HO.dK []) (u := HO.dK (mergeK [] [(.inr "w", .int 1)])) g4
      have c5 := same_new (o := HO.lst [.str "v"]) g5
      have c6 := same_new (o := HO.tup [.ref q3, .ref q4]) g6
      have c7 := same_new (o := HO.tup [.ref t1, .ref t2]) g7
      have d6 := c6.trans c7
      have d5 := c5.trans d6
      have d4 := c4.trans d5
      have d3 := c3.trans d4
      have d2 := c2.trans d3
      have n13 : q1 ≠ q3 := ne_of_none ((c2.trans c3) _ _ upd_same) g4
      have n14 : q1 ≠ q4 := ne_of_none (((c2.trans c3).trans c4) _ _ upd_same) g5
      have n23 : q2 ≠ q3 := ne_of_none (c3 _ _ upd_same) g4
      have n24 : q2 ≠ q4 := ne_of_none ((c3.trans c4) _ _ upd_same) g5
      refine ⟨t0, rfl, ⟨_, SqT.of upd_same⟩, for_tup (xs := [.ref t1, .ref t2]) (Two TT t0 t1 t2 q1 q2 q3 q4 (fun σ => ∃ v3 v4 v5 v6 v7 v8 v9 v10 v11, σ = [some (.ref a), some (.ref st), some (.ref ps), v3, v4, v5, v6, v7, v8, v9, v10, v11]))
        ⟨⟨v3, none, none, none, none, none, none, none, none, rfl⟩, T2.ext (c1.trans d2), upd_same, d4 _ _ upd_same, c7 _ _ upd_same, fun _ => ⟨d2 _ _ upd_same, d3 _ _ upd_same⟩, fun _ => ⟨d5 _ _ upd_same, d6 _ _ upd_same⟩⟩ (fun i σ' H' _ w => SqT.of w.h0) ?_ (fun σ' H' _ => k _)⟩
      rintro i y σ' H3 hy w
      obtain ⟨tq, qx, qy, bx, rfl, htq, hqx, hqy, post⟩ := w.next hy n13 n14 n23 n24
      obtain ⟨v3, v4, v5, v6, v7, v8, v9, v10, v11, rfl⟩ := w.s
      have nxy : qx ≠ qy := fun z => by
        rw [z, hqy] at hqx
        cases bx <;> cases hqx
      refine ⟨tq, _, rfl, SqT.of htq, rfl, _, _, rfl, _, _, rfl, rfl, ?_⟩
      refine ⟨_, rfl, _, rfl, .ref qx, .ref qy, rfl, w.t, fun H4 p e4 T4 np rows => ?_⟩
      refine ⟨_, rfl, _, rfl, two_fit, fun tt htt => ⟨tt, rfl, ⟨_, SqT.of upd_same⟩, ?_⟩⟩
      have cS := same_new (o := HO.tup [.ref qx, .ref qy]) htt
      have nxp : qx ≠ p := ne_of_none hqx np
      have nyp : qy ≠ p := ne_of_none hqy np
      refine for_tup (xs := [.ref qx, .ref qy]) (Late C TT H3 p tt qx qy bx (fun σ => ∃ v3 v7 v8 v9 v10 v11, σ = [some (.ref a), some (.ref st), some (.ref ps), v3, some (.ref qx), some (.ref qy), some (.ref p), v7, v8, v9, v10, v11]))
        ⟨⟨v3, v7, v8, v9, v10, v11, rfl⟩, T4.ext cS, upd_same, cS _ _ (e4 _ _ hqx (hov_nt _ _)), cS _ _ (e4 _ _ hqy (hov_nt _ _)), rows.ext (ext_of cS), fun b o _ _ e n => cS _ _ (e4 _ _ e n)⟩ (fun i σ' H' _ w2 => SqT.of w2.ht) ?_ ?_
      · rintro i2 y2 σ2 H6 hy2 w2
        obtain ⟨q, b, rfl, hq, post2⟩ := w2.next hy2 nxy ⟨_, hqx, hov_nt _ _⟩ ⟨_, hqy, hov_nt _ _⟩ nxp nyp
        obtain ⟨u3, u7, u8, u9, u10, u11, rfl⟩ := w2.s
        cases b with
        | true =>
          have hq' : H6 q = some (.lst [.str "v"]) := hq
          refine ⟨_, rfl, _, _, _, _, true, rfl, .ty _, .base (.lst hq'), kit_ty (by decide +kernel), _, rfl, iteT ?_⟩
          exact ⟨_, rfl, .inl ⟨rfl, _, SqL.of hq'⟩, q, _, _, rfl, rfl, hq', by show 1 < sizeLine; decide, post2 _ ⟨_, _, _, _, _, _, rfl⟩⟩
        | false =>
          have hq' : H6 q = some (.dK [(.inr "w", .int 1)]) := hq
          refine ⟨_, rfl, _, _, _, _, false, rfl, .ty _, .base (.dK hq'), kit_ty (by decide +kernel), _, rfl, iteF ?_⟩
          exact ⟨_, rfl, q, _, rfl, DPut.k (k := .inr "late") hq' (by show 1 < sizeLine; decide), post2 _ ⟨_, _, _, _, _, _, rfl⟩⟩
      · rintro σ2 H7 w3
        obtain ⟨u3, u7, u8, u9, u10, u11, rfl⟩ := w3.s
        obtain ⟨ts, hp, hlen, hrow⟩ := w3.r.ex
        have qX : Eqt 3 H7 (.ref qx) (.ref qx) := hov_eqt bx true w3.hx
        have qY : Eqt 3 H7 (.ref qy) (.ref qy) := hov_eqt (!bx) true w3.hy
        refine ⟨_, rfl, p, rfl, ⟨_, SqL.of hp⟩, for_list (K := K) (a := p) (xs := ts) (fun i σ' H' => (∃ v3 v7 v8 v9 v10 v11, σ' = [some (.ref a), some (.ref st), some (.ref ps), v3, some (.ref qx), some (.ref qy), some (.ref p), v7, v8, v9, v10, v11]) ∧ ExtN H7 H' ∧ Tabs TT H')
          ⟨⟨_, _, _, _, _, _, rfl⟩, ExtN.refl _, w3.t⟩ (fun i σ' H' _ q => SqL.of (q.2.1 _ _ hp (fun t z => by cases z))) ?_ ?_⟩
        · rintro i3 y3 σ' H8 hy3 ⟨⟨x3, x7, x8, x9, x10, x11, rfl⟩, e8, T8⟩
          have hi25 : i3 < 25 := by
            have z := (List.getElem?_eq_some_iff.mp hy3).1
            omega
          obtain ⟨t, et, row⟩ := hrow i3 hi25
          rw [et] at hy3
          obtain rfl := Option.some.inj hy3
          obtain ⟨m, n, fl, d, ht, xm, xn, la, hd, _, _⟩ := (row.ext e8).ex
          refine ⟨t, _, rfl, SqT.of ht, rfl, _, _, rfl, _, _, rfl, _, _, rfl, _, _, rfl, rfl, ?_⟩
          refine ⟨fl, qLam, _, _, _, spL C (.ref qx) (.ref qy) i3, rfl, la, l_all S _ _ i3 hi25, _, rfl, la, m, rfl, xm, fun d1 hd1 => ?_⟩
          have s6 := same_new (o := HO.lst (dueJ (.ref qx) (.ref qy) i3)) hd1
          have ex6 := e8.trans (ext_of s6)
          refine ⟨_, rfl, .ref d1, .ref d, rfl, due_same (qX.ext ex6) (qY.ext ex6) upd_same (s6 _ _ hd), fun H9 e9 => ⟨_, rfl, iteF ?_⟩⟩
          have e69 := s6.trans e9
          have la6 := la.ext (ext_of e69)
          refine ⟨fl, qLam, _, _, _, spL C (.ref qx) (.ref qy) i3, rfl, la6, l_all S _ _ i3 hi25, _, rfl, la6, n, rfl, exc_same xn e69, fun d2 hd2 => ?_⟩
          have s7 := same_new (o := HO.lst (dueJ (.ref qx) (.ref qy) i3)) hd2
          have ex7 := (e8.trans (ext_of e69)).trans (ext_of s7)
          refine ⟨_, rfl, .ref d2, .ref d, rfl, due_same (qX.ext ex7) (qY.ext ex7) upd_same (s7 _ _ (e69 _ _ hd)), fun H10 e10 => ⟨_, rfl, iteF ?_⟩⟩
          have eE := (e69.trans s7).trans e10
          exact ⟨⟨_, _, _, _, _, _, rfl⟩, e8.trans (ext_of eE), T8.ext eE⟩
        · rintro σ' H8 ⟨⟨x3, x7, x8, x9, x10, x11, rfl⟩, e8, T8⟩
          exact post _ _ ⟨_, _, _, _, _, _, _, _, _, rfl⟩ T8 fun b o h1 h2 e n => e8 _ _ (w3.k b o h1 h2 e n) n
end
end K00

set_option Elab.async false
set_option linter.all false
set_option maxRecDepth 100000
set_option maxHeartbeats 4000000
namespace K00
open PySem PySem.Spec PyProof.Rows L2 Own LamX
theorem fun_ofD {K : PySem.W.Frag} {x q : Str} {st : Stmt} {f : Addr} (h : ∃ fd, FunD K x q (defArgs st) (defBody st) (defScope st) [] [] f fd) : ∃ fd, Fun K x q st f fd := by
  obtain ⟨fd, F⟩ := h
  obtain ⟨oc, od, dV, kV, doc, pm, an, cdv, ct, osl, rfl, lk, hcd, hD, _⟩ := F.ex
  rcases hD with ⟨_, rfl⟩ | ⟨e, _⟩
  · exact ⟨_, ⟨oc, od, kV, doc, pm, an, cdv, ct, osl, rfl, lk, hcd⟩, F.kp⟩
  · exact absurd rfl e
theorem funC_ofD {K : PySem.W.Frag} {x q : Str} {st : Stmt} {p : He.Defn} (h : ∃ fd, FunD K x q (defArgs st) (defBody st) (defScope st) [] [] (He.fAd K p) fd) : ∃ fd, FunC K x q st (He.fAd K p) fd (He.codeOf K p) := by
  obtain ⟨fd, F⟩ := h
  obtain ⟨oc, od, dV, kV, doc, pm, an, cdv, ct, osl, rfl, lk, hcd, hD, _⟩ := F.ex
  obtain ⟨c, rfl⟩ := He.codeIn_ref hcd
  have e := He.codeOf_eq lk rfl
  rw [e]
  rcases hD with ⟨_, rfl⟩ | ⟨e, _⟩
  · exact ⟨_, ⟨oc, od, kV, doc, pm, an, ct, osl, rfl, lk, hcd⟩, F.kp⟩
  · exact absurd rfl e
theorem all_lt {n : Nat} {p : Nat → Bool} (h : (List.range n).all p = true) {i : Nat} (hi : i < n) : p i = true := List.all_eq_true.mp h i (List.mem_range.mpr hi)
theorem exB_parts {K : PySem.W.Frag} (h : exB K = true) : (∀ i, i < 25 → OexC K (cAt K i) ∧ ExcC K (cAt K i)) ∧ Kt K (cAt K) (He.ga K "BellError") := by
  unfold exB at h
  obtain ⟨h1, h2⟩ := He.ba h
  obtain ⟨h3, h4⟩ := He.ba h2
  have c : ∀ i, i < 25 → OexC K (cAt K i) ∧ ExcC K (cAt K i) := fun i hi => clsB_ok (all_lt h1 hi)
  have m : ∀ i, i < 25 → _ := fun i hi => all_lt h4 hi
  refine ⟨c, ⟨fun i j hi hj => of_decide_eq_true (all_lt (all_lt h3 hi) hj), fun i hi => ?_, fun i hi => ?_, fun i hi => ?_, fun i hi => ?_, fun i hi => ?_, fun i hi => ?_, fun i hi => (c i hi).2⟩⟩
  · exact of_decide_eq_true (He.ba (m i hi)).1
  · exact of_decide_eq_true (He.ba (He.ba (m i hi)).2).1
  · exact of_decide_eq_true (He.ba (He.ba (He.ba (m i hi)).2).2).1
  · exact of_decide_eq_true (He.ba (He.ba (He.ba (He.ba (m i hi)).2).2).2).1
  · exact of_decide_eq_true (He.ba (He.ba (He.ba (He.ba (He.ba (m i hi)).2).2).2).2).1
  · exact of_decide_eq_true (He.ba (He.ba (He.ba (He.ba (He.ba (m i hi)).2).2).2).2).2
theorem initB_at {K : PySem.W.Frag} (h : initB K = true) {c f : Str} (hm : (c, f) ∈ nIn) : PySem.W.findIn K (.ref (He.ga K c)) "__init__" = some (some (.ref (He.ma K (He.ga K c) "__init__"))) ∧
    PySem.W.typeIn K (.ref (He.ma K (He.ga K c) "__init__")) = some (.type "function") ∧ PySem.W.findIn K (.ref (He.ga K c)) f = some none := by
  have z := List.all_eq_true.mp h (c, f) hm
  obtain ⟨z1, z2⟩ := He.ba z
  obtain ⟨z3, z4⟩ := He.ba z2
  exact ⟨He.eqO_ok z1, of_decide_eq_true z3, He.eqO_ok z4⟩
abbrev pE : He.Defn := ("_law_errors", none)
def tT (K : PySem.W.Frag) : List (Addr × Str) := [((He.cT K pE).2, qLam)]
section
variable {w : World} {K : PySem.W.Frag} {h : Heap} {mg : Str → Option Value}
theorem facts (KX : K.In h) (G : h.Ns mainGlobals mg) {fa : Addr} (hfa : mg "law" = some (.ref fa)) (c : He.SaysX faD fnD [] tfD exA w h K) : LawAtS PySem.Challenge.rw_lastbell_k00_errors_made w K CX0 8 63 "_law_script" mg fa h := by
  have d := c.t.d
  obtain ⟨m1, m2⟩ := He.ba c.more
  obtain ⟨oc, kt⟩ := exB_parts m1
  obtain ⟨fd0, F0⟩ := fun_ofD (x := "_law_stream") (q := "_law_stream") (st := topS 28) (f := He.ga K "_law_stream") (d.def_ 0 rfl)
  obtain ⟨fd1, F1⟩ := fun_ofD (x := "_law_draw") (q := "_law_draw") (st := topS 29) (f := He.ga K "_law_draw") (d.def_ 1 rfl)
  obtain ⟨fd2, F2⟩ := fun_ofD (x := "_law_pick") (q := "_law_pick") (st := topS 30) (f := He.ga K "_law_pick") (d.def_ 2 rfl)
  obtain ⟨fd3, F3⟩ := fun_ofD (x := "_law_same") (q := "_law_same") (st := topS 31) (f := He.ga K "_law_same") (d.def_ 3 rfl)
  obtain ⟨fd4, F4⟩ := funC_ofD (x := "_law_errors") (q := "_law_errors") (st := topS 32) (p := pE) (d.def_ 4 rfl)
  obtain ⟨fd5, F5⟩ := fun_ofD (x := "_law_kinds") (q := "_law_kinds") (st := topS 33) (f := He.ga K "_law_kinds") (d.def_ 5 rfl)
  obtain ⟨fd6, F6⟩ := fun_ofD (x := "_law_is_own") (q := "_law_is_own") (st := topS 34) (f := He.ga K "_law_is_own") (d.def_ 6 rfl)
  obtain ⟨fd7, F7⟩ := fun_ofD (x := "_law_right") (q := "_law_right") (st := topS 35) (f := He.ga K "_law_right") (d.def_ 7 rfl)
  obtain ⟨fd8, F8⟩ := fun_ofD (x := "law") (q := "law") (st := topS 36) (f := He.ga K "law") (d.def_ 8 rfl)
  obtain ⟨fi0, I0⟩ := fun_ofD (x := "__init__") (q := "BadHouse.__init__") (st := inClass (topS 2) 0) (f := He.ma K (He.ga K "BadHouse") "__init__") (d.def_ 9 rfl)
  obtain ⟨fi1, I1⟩ := fun_ofD (x := "__init__") (q := "BadPlaces.__init__") (st := inClass (topS 3) 0) (f := He.ma K (He.ga K "BadPlaces") "__init__") (d.def_ 10 rfl)
  obtain ⟨fi2, I2⟩ := fun_ofD (x := "__init__") (q := "BadRoads.__init__") (st := inClass (topS 4) 0) (f := He.ma K (He.ga K "BadRoads") "__init__") (d.def_ 11 rfl)
  obtain ⟨fi3, I3⟩ := fun_ofD (x := "__init__") (q := "BadDoors.__init__") (st := inClass (topS 5) 0) (f := He.ma K (He.ga K "BadDoors") "__init__") (d.def_ 12 rfl)
  obtain ⟨fi4, I4⟩ := fun_ofD (x := "__init__") (q := "BadSteps.__init__") (st := inClass (topS 6) 0) (f := He.ma K (He.ga K "BadSteps") "__init__") (d.def_ 13 rfl)
  obtain ⟨fi5, I5⟩ := fun_ofD (x := "__init__") (q := "BadTurn.__init__") (st := inClass (topS 7) 0) (f := He.ma K (He.ga K "BadTurn") "__init__") (d.def_ 14 rfl)
  obtain ⟨fi6, I6⟩ := fun_ofD (x := "__init__") (q := "BadTurns.__init__") (st := inClass (topS 8) 0) (f := He.ma K (He.ga K "BadTurns") "__init__") (d.def_ 15 rfl)
  obtain ⟨fi7, I7⟩ := fun_ofD (x := "__init__") (q := "BadPlan.__init__") (st := inClass (topS 9) 0) (f := He.ma K (He.ga K "BadPlan") "__init__") (d.def_ 16 rfl)
  obtain ⟨fi8, I8⟩ := fun_ofD (x := "__init__") (q := "BadLot.__init__") (st := inClass (topS 10) 0) (f := He.ma K (He.ga K "BadLot") "__init__") (d.def_ 17 rfl)
  obtain ⟨fi9, I9⟩ := fun_ofD (x := "__init__") (q := "BadBell.__init__") (st := inClass (topS 11) 0) (f := He.ma K (He.ga K "BadBell") "__init__") (d.def_ 18 rfl)
  obtain ⟨fi10, I10⟩ := fun_ofD (x := "__init__") (q := "BadAmount.__init__") (st := inClass (topS 12) 0) (f := He.ma K (He.ga K "BadAmount") "__init__") (d.def_ 19 rfl)
  obtain ⟨fi11, I11⟩ := fun_ofD (x := "__init__") (q := "BadMoments.__init__") (st := inClass (topS 13) 0) (f := He.ma K (He.ga K "BadMoments") "__init__") (d.def_ 20 rfl)
  obtain ⟨fi12, I12⟩ := fun_ofD (x := "__init__") (q := "BadOrder.__init__") (st := inClass (topS 14) 0) (f := He.ma K (He.ga K "BadOrder") "__init__") (d.def_ 21 rfl)
  obtain ⟨fi13, I13⟩ := fun_ofD (x := "__init__") (q := "BadWishes.__init__") (st := inClass (topS 15) 0) (f := He.ma K (He.ga K "BadWishes") "__init__") (d.def_ 22 rfl)
  obtain ⟨fi14, I14⟩ := fun_ofD (x := "__init__") (q := "BadParts.__init__") (st := inClass (topS 16) 0) (f := He.ma K (He.ga K "BadParts") "__init__") (d.def_ 23 rfl)
  obtain ⟨fi15, I15⟩ := fun_ofD (x := "__init__") (q := "Never.__init__") (st := inClass (topS 17) 0) (f := He.ma K (He.ga K "Never") "__init__") (d.def_ 24 rfl)
  obtain ⟨fi16, I16⟩ := fun_ofD (x := "__init__") (q := "BadDoor.__init__") (st := inClass (topS 18) 0) (f := He.ma K (He.ga K "BadDoor") "__init__") (d.def_ 25 rfl)
  obtain ⟨fi17, I17⟩ := fun_ofD (x := "__init__") (q := "SameDoor.__init__") (st := inClass (topS 19) 0) (f := He.ma K (He.ga K "SameDoor") "__init__") (d.def_ 26 rfl)
  obtain ⟨fi18, I18⟩ := fun_ofD (x := "__init__") (q := "NotKept.__init__") (st := inClass (topS 20) 0) (f := He.ma K (He.ga K "NotKept") "__init__") (d.def_ 27 rfl)
  obtain ⟨fi19, I19⟩ := fun_ofD (x := "__init__") (q := "BadNumbers.__init__") (st := inClass (topS 21) 0) (f := He.ma K (He.ga K "BadNumbers") "__init__") (d.def_ 28 rfl)
  obtain ⟨fi20, I20⟩ := fun_ofD (x := "__init__") (q := "BadPrices.__init__") (st := inClass (topS 22) 0) (f := He.ma K (He.ga K "BadPrices") "__init__") (d.def_ 29 rfl)
  obtain ⟨fi22, I22⟩ := fun_ofD (x := "__init__") (q := "BadLoads.__init__") (st := inClass (topS 24) 0) (f := He.ma K (He.ga K "BadLoads") "__init__") (d.def_ 30 rfl)
  obtain ⟨fi23, I23⟩ := fun_ofD (x := "__init__") (q := "Lacks.__init__") (st := inClass (topS 25) 0) (f := He.ma K (He.ga K "Lacks") "__init__") (d.def_ 31 rfl)
  obtain ⟨fi24, I24⟩ := fun_ofD (x := "__init__") (q := "NotBooked.__init__") (st := inClass (topS 26) 0) (f := He.ma K (He.ga K "NotBooked") "__init__") (d.def_ 32 rfl)
  have g0 : mg "_law_stream" = some (.ref (He.ga K "_law_stream")) := He.glo_ok KX G (d.fact 0 (f := .glo "_law_stream") rfl)
  have g1 : mg "_law_draw" = some (.ref (He.ga K "_law_draw")) := He.glo_ok KX G (d.fact 1 (f := .glo "_law_draw") rfl)
  have g2 : mg "_law_pick" = some (.ref (He.ga K "_law_pick")) := He.glo_ok KX G (d.fact 2 (f := .glo "_law_pick") rfl)
  have g3 : mg "_law_same" = some (.ref (He.ga K "_law_same")) := He.glo_ok KX G (d.fact 3 (f := .glo "_law_same") rfl)
  have g4 : mg "_law_errors" = some (.ref (He.ga K "_law_errors")) := He.glo_ok KX G (d.fact 4 (f := .glo "_law_errors") rfl)
  have g5 : mg "_law_kinds" = some (.ref (He.ga K "_law_kinds")) := He.glo_ok KX G (d.fact 5 (f := .glo "_law_kinds") rfl)
  have g6 : mg "_law_is_own" = some (.ref (He.ga K "_law_is_own")) := He.glo_ok KX G (d.fact 6 (f := .glo "_law_is_own") rfl)
  have g7 : mg "_law_right" = some (.ref (He.ga K "_law_right")) := He.glo_ok KX G (d.fact 7 (f := .glo "_law_right") rfl)
  have g8 : mg "law" = some (.ref (He.ga K "law")) := He.glo_ok KX G (d.fact 8 (f := .glo "law") rfl)
  have g9 : mg "BadHouse" = some (.ref (He.ga K "BadHouse")) := He.glo_ok KX G (d.fact 9 (f := .glo "BadHouse") rfl)
  have g10 : mg "BadPlaces" = some (.ref (He.ga K "BadPlaces")) := He.glo_ok KX G (d.fact 10 (f := .glo "BadPlaces") rfl)
  have g11 : mg "BadRoads" = some (.ref (He.ga K "BadRoads")) := He.glo_ok KX G (d.fact 11 (f := .glo "BadRoads") rfl)
  have g12 : mg "BadDoors" = some (.ref (He.ga K "BadDoors")) := He.glo_ok KX G (d.fact 12 (f := .glo "BadDoors") rfl)
  have g13 : mg "BadSteps" = some (.ref (He.ga K "BadSteps")) := He.glo_ok KX G (d.fact 13 (f := .glo "BadSteps") rfl)
  have g14 : mg "BadTurn" = some (.ref (He.ga K "BadTurn")) := He.glo_ok KX G (d.fact 14 (f := .glo "BadTurn") rfl)
  have g15 : mg "BadTurns" = some (.ref (He.ga K "BadTurns")) := He.glo_ok KX G (d.fact 15 (f := .glo "BadTurns") rfl)
  have g16 : mg "BadPlan" = some (.ref (He.ga K "BadPlan")) := He.glo_ok KX G (d.fact 16 (f := .glo "BadPlan") rfl)
  have g17 : mg "BadLot" = some (.ref (He.ga K "BadLot")) := He.glo_ok KX G (d.fact 17 (f := .glo "BadLot") rfl)
  have g18 : mg "BadBell" = some (.ref (He.ga K "BadBell")) := He.glo_ok KX G (d.fact 18 (f := .glo "BadBell") rfl)
  have g19 : mg "BadAmount" = some (.ref (He.ga K "BadAmount")) := He.glo_ok KX G (d.fact 19 (f := .glo "BadAmount") rfl)
  have g20 : mg "BadMoments" = some (.ref (He.ga K "BadMoments")) := He.glo_ok KX G (d.fact 20 (f := .glo "BadMoments") rfl)
  have g21 : mg "BadOrder" = some (.ref (He.ga K "BadOrder")) := He.glo_ok KX G (d.fact 21 (f := .glo "BadOrder") rfl)
  have g22 : mg "BadWishes" = some (.ref (He.ga K "BadWishes")) := He.glo_ok KX G (d.fact 22 (f := .glo "BadWishes") rfl)
  have g23 : mg "BadParts" = some (.ref (He.ga K "BadParts")) := He.glo_ok KX G (d.fact 23 (f := .glo "BadParts") rfl)
  have g24 : mg "Never" = some (.ref (He.ga K "Never")) := He.glo_ok KX G (d.fact 24 (f := .glo "Never") rfl)
  have g25 : mg "BadDoor" = some (.ref (He.ga K "BadDoor")) := He.glo_ok KX G (d.fact 25 (f := .glo "BadDoor") rfl)
  have g26 : mg "SameDoor" = some (.ref (He.ga K "SameDoor")) := He.glo_ok KX G (d.fact 26 (f := .glo "SameDoor") rfl)
  have g27 : mg "NotKept" = some (.ref (He.ga K "NotKept")) := He.glo_ok KX G (d.fact 27 (f := .glo "NotKept") rfl)
  have g28 : mg "BadNumbers" = some (.ref (He.ga K "BadNumbers")) := He.glo_ok KX G (d.fact 28 (f := .glo "BadNumbers") rfl)
  have g29 : mg "BadPrices" = some (.ref (He.ga K "BadPrices")) := He.glo_ok KX G (d.fact 29 (f := .glo "BadPrices") rfl)
  have g30 : mg "OtherDoors" = some (.ref (He.ga K "OtherDoors")) := He.glo_ok KX G (d.fact 30 (f := .glo "OtherDoors") rfl)
  have g31 : mg "BadLoads" = some (.ref (He.ga K "BadLoads")) := He.glo_ok KX G (d.fact 31 (f := .glo "BadLoads") rfl)
  have g32 : mg "Lacks" = some (.ref (He.ga K "Lacks")) := He.glo_ok KX G (d.fact 32 (f := .glo "Lacks") rfl)
  have g33 : mg "NotBooked" = some (.ref (He.ga K "NotBooked")) := He.glo_ok KX G (d.fact 33 (f := .glo "NotBooked") rfl)
  have g34 : mg "BellError" = some (.ref (He.ga K "BellError")) := He.glo_ok KX G (d.fact 34 (f := .glo "BellError") rfl)
  have z0 : mg "abs" = none := He.free_ok KX G (d.fact 35 (f := .free "abs") rfl)
  have z1 : mg "int" = none := He.free_ok KX G (d.fact 36 (f := .free "int") rfl)
  have z2 : mg "list" = none := He.free_ok KX G (d.fact 37 (f := .free "list") rfl)
  have z3 : mg "len" = none := He.free_ok KX G (d.fact 38 (f := .free "len") rfl)
  have z4 : mg "isinstance" = none := He.free_ok KX G (d.fact 39 (f := .free "isinstance") rfl)
  have z5 : mg "tuple" = none := He.free_ok KX G (d.fact 40 (f := .free "tuple") rfl)
  have z6 : mg "dict" = none := He.free_ok KX G (d.fact 41 (f := .free "dict") rfl)
  have z7 : mg "bool" = none := He.free_ok KX G (d.fact 42 (f := .free "bool") rfl)
  have z8 : mg "all" = none := He.free_ok KX G (d.fact 43 (f := .free "all") rfl)
  have z9 : mg "zip" = none := He.free_ok KX G (d.fact 44 (f := .free "zip") rfl)
  have z10 : mg "range" = none := He.free_ok KX G (d.fact 45 (f := .free "range") rfl)
  have z11 : mg "enumerate" = none := He.free_ok KX G (d.fact 46 (f := .free "enumerate") rfl)
  have z12 : mg "ValueError" = none := He.free_ok KX G (d.fact 47 (f := .free "ValueError") rfl)
  have z13 : mg "LookupError" = none := He.free_ok KX G (d.fact 48 (f := .free "LookupError") rfl)
  have z14 : mg "TypeError" = none := He.free_ok KX G (d.fact 49 (f := .free "TypeError") rfl)
  have z15 : mg "ArithmeticError" = none := He.free_ok KX G (d.fact 50 (f := .free "ArithmeticError") rfl)
  have z16 : mg "RuntimeError" = none := He.free_ok KX G (d.fact 51 (f := .free "RuntimeError") rfl)
  obtain ⟨x1, x2, _, _⟩ := He.exc_ok (d.fact 52 (f := .exc "OtherDoors") rfl)
  have B : Bt mg := ⟨z0, z1, z2, z3, z4, z5, z6, z7, z8, z9, z10, z11⟩
  have BX : Bx mg := ⟨z12, z13, z14, z15, z16⟩
  have j0_0 := initB_at m2 (c := "BadHouse") (f := "thing") (by decide +kernel)
  have j1_0 := initB_at m2 (c := "BadPlaces") (f := "places") (by decide +kernel)
  have j2_0 := initB_at m2 (c := "BadRoads") (f := "index") (by decide +kernel)
  have j3_0 := initB_at m2 (c := "BadDoors") (f := "index") (by decide +kernel)
  have j4_0 := initB_at m2 (c := "BadSteps") (f := "steps") (by decide +kernel)
  have j5_0 := initB_at m2 (c := "BadTurn") (f := "turn") (by decide +kernel)
  have j6_0 := initB_at m2 (c := "BadTurns") (f := "turns") (by decide +kernel)
  have j7_0 := initB_at m2 (c := "BadPlan") (f := "plan") (by decide +kernel)
  have j8_0 := initB_at m2 (c := "BadLot") (f := "lot") (by decide +kernel)
  have j9_0 := initB_at m2 (c := "BadBell") (f := "bell") (by decide +kernel)
  have j10_0 := initB_at m2 (c := "BadAmount") (f := "amount") (by decide +kernel)
  have j11_0 := initB_at m2 (c := "BadMoments") (f := "moments") (by decide +kernel)
  have j12_0 := initB_at m2 (c := "BadOrder") (f := "order") (by decide +kernel)
  have j13_0 := initB_at m2 (c := "BadWishes") (f := "wishes") (by decide +kernel)
  have j14_0 := initB_at m2 (c := "BadParts") (f := "index") (by decide +kernel)
  have j15_0 := initB_at m2 (c := "Never") (f := "lot") (by decide +kernel)
  have j16_0 := initB_at m2 (c := "BadDoor") (f := "door") (by decide +kernel)
  have j17_0 := initB_at m2 (c := "SameDoor") (f := "door") (by decide +kernel)
  have j18_0 := initB_at m2 (c := "NotKept") (f := "lot") (by decide +kernel)
  have j19_0 := initB_at m2 (c := "BadNumbers") (f := "numbers") (by decide +kernel)
  have j20_0 := initB_at m2 (c := "BadPrices") (f := "prices") (by decide +kernel)
  have j22_0 := initB_at m2 (c := "BadLoads") (f := "loads") (by decide +kernel)
  have j23_0 := initB_at m2 (c := "Lacks") (f := "lot") (by decide +kernel)
  have j23_1 := initB_at m2 (c := "Lacks") (f := "left") (by decide +kernel)
  have j24_0 := initB_at m2 (c := "NotBooked") (f := "loads") (by decide +kernel)
  have S : ∀ base : Heap, Es PySem.Challenge.rw_lastbell_k00_errors_made.prog w K mg base (cAt K) := fun base => {
    e0 := e0 I0 g9 ⟨(oc 0 (by decide)).1, j0_0.1, j0_0.2.1⟩ (oc 0 (by decide)).2 j0_0.2.2
    e1 := e1 I1 g10 ⟨(oc 1 (by decide)).1, j1_0.1, j1_0.2.1⟩ (oc 1 (by decide)).2 j1_0.2.2
    e2 := e2 I2 g11 ⟨(oc 2 (by decide)).1, j2_0.1, j2_0.2.1⟩ (oc 2 (by decide)).2 j2_0.2.2
    e3 := e3 I3 g12 ⟨(oc 3 (by decide)).1, j3_0.1, j3_0.2.1⟩ (oc 3 (by decide)).2 j3_0.2.2
    e4 := e4 I4 g13 ⟨(oc 4 (by decide)).1, j4_0.1, j4_0.2.1⟩ (oc 4 (by decide)).2 j4_0.2.2
    e5 := e5 I5 g14 ⟨(oc 5 (by decide)).1, j5_0.1, j5_0.2.1⟩ (oc 5 (by decide)).2 j5_0.2.2
    e6 := e6 I6 g15 ⟨(oc 6 (by decide)).1, j6_0.1, j6_0.2.1⟩ (oc 6 (by decide)).2 j6_0.2.2
    e7 := e7 I7 g16 ⟨(oc 7 (by decide)).1, j7_0.1, j7_0.2.1⟩ (oc 7 (by decide)).2 j7_0.2.2
    e8 := e8 I8 g17 ⟨(oc 8 (by decide)).1, j8_0.1, j8_0.2.1⟩ (oc 8 (by decide)).2 j8_0.2.2
    e9 := e9 I9 g18 ⟨(oc 9 (by decide)).1, j9_0.1, j9_0.2.1⟩ (oc 9 (by decide)).2 j9_0.2.2
    e10 := e10 I10 g19 ⟨(oc 10 (by decide)).1, j10_0.1, j10_0.2.1⟩ (oc 10 (by decide)).2 j10_0.2.2
    e11 := e11 I11 g20 ⟨(oc 11 (by decide)).1, j11_0.1, j11_0.2.1⟩ (oc 11 (by decide)).2 j11_0.2.2
    e12 := e12 I12 g21 ⟨(oc 12 (by decide)).1, j12_0.1, j12_0.2.1⟩ (oc 12 (by decide)).2 j12_0.2.2
    e13 := e13 I13 g22 ⟨(oc 13 (by decide)).1, j13_0.1, j13_0.2.1⟩ (oc 13 (by decide)).2 j13_0.2.2
    e14 := e14 I14 g23 ⟨(oc 14 (by decide)).1, j14_0.1, j14_0.2.1⟩ (oc 14 (by decide)).2 j14_0.2.2
    e15 := e15 I15 g24 ⟨(oc 15 (by decide)).1, j15_0.1, j15_0.2.1⟩ (oc 15 (by decide)).2 j15_0.2.2
    e16 := e16 I16 g25 ⟨(oc 16 (by decide)).1, j16_0.1, j16_0.2.1⟩ (oc 16 (by decide)).2 j16_0.2.2
    e17 := e17 I17 g26 ⟨(oc 17 (by decide)).1, j17_0.1, j17_0.2.1⟩ (oc 17 (by decide)).2 j17_0.2.2
    e18 := e18 I18 g27 ⟨(oc 18 (by decide)).1, j18_0.1, j18_0.2.1⟩ (oc 18 (by decide)).2 j18_0.2.2
    e19 := e19 I19 g28 ⟨(oc 19 (by decide)).1, j19_0.1, j19_0.2.1⟩ (oc 19 (by decide)).2 j19_0.2.2
    e20 := e20 I20 g29 ⟨(oc 20 (by decide)).1, j20_0.1, j20_0.2.1⟩ (oc 20 (by decide)).2 j20_0.2.2
    q21 := x1
    g21 := g30
    k21 := x2
    e22 := e22 I22 g31 ⟨(oc 22 (by decide)).1, j22_0.1, j22_0.2.1⟩ (oc 22 (by decide)).2 j22_0.2.2
    e23 := e23 I23 g32 ⟨(oc 23 (by decide)).1, j23_0.1, j23_0.2.1⟩ (oc 23 (by decide)).2 j23_0.2.2 j23_1.2.2
    e24 := e24 I24 g33 ⟨(oc 24 (by decide)).1, j24_0.1, j24_0.2.1⟩ (oc 24 (by decide)).2 j24_0.2.2
  }
  have b0 := F0.binds (ps := ["_law_script"]) fun _ _ _ _ _ _ us hl => match us, hl with | [_], _ => rfl
  have b1 := F1.binds (ps := ["_law_stream_here", "_law_many"]) fun _ _ _ _ _ _ us hl => match us, hl with | [_, _], _ => rfl
  have b2 := F2.binds (ps := ["_law_stream_here", "_law_things"]) fun _ _ _ _ _ _ us hl => match us, hl with | [_, _], _ => rfl
  have b3 := F3.binds (ps := ["_law_found", "_law_due"]) fun _ _ _ _ _ _ us hl => match us, hl with | [_, _], _ => rfl
  have b4 := F4.binds (ps := ["_law_x", "_law_y"]) fun _ _ _ _ _ _ us hl => match us, hl with | [_, _], _ => rfl
  have b5 := F5.binds (ps := ["_law_e"]) fun _ _ _ _ _ _ us hl => match us, hl with | [_], _ => rfl
  have b6 := F6.binds (ps := ["_law_e", "_law_at"]) fun _ _ _ _ _ _ us hl => match us, hl with | [_, _], _ => rfl
  have b7 := F7.binds (ps := ["_law_x", "_law_y"]) fun _ _ _ _ _ _ us hl => match us, hl with | [_, _], _ => rfl
  have e := hfa.symm.trans g8
  cases e
  have hm : ((He.cT K pE).2, qLam) ∈ tT K := List.mem_singleton.mpr rfl
  have hu : ∀ p ∈ tT K, p.1 = (He.cT K pE).2 → p.2 = qLam := fun p hp _ => by rw [List.mem_singleton.mp hp]
  refine ⟨fd8, [He.cT K pE], spLaw K (tT K), fun p hp => ?_, fun p hp => ?_, fun p hp => ?_, fun s u => ?_, fun H a ns hl _ hH hS => ⟨a, ns, rfl, hS, hl, fun p hp => ?_, fun _ => rfl⟩, fun base KB GB TB => ?_⟩
  · rw [List.mem_singleton.mp hp]
    exact c.empty pE (List.mem_singleton.mpr rfl)
  · rw [List.mem_singleton.mp hp]
    exact c.out pE (List.mem_singleton.mpr rfl)
  · rw [List.mem_singleton.mp hp]
    exact PySem.W.codeHd_of_K KX (c.hd pE (List.mem_singleton.mpr rfl))
  · obtain ⟨oc, od, kV, doc, pm, an, cdv, ct, osl, rfl, _, _⟩ := F8.ex
    exact .of_eq rfl
  · rw [List.mem_singleton.mp hp]
    exact TabS.nil (hH _ (List.mem_singleton.mpr rfl))
  · have tb := TB (He.cT K pE) (List.mem_singleton.mpr rfl)
    have GE := ok_errors (P := PySem.Challenge.rw_lastbell_k00_errors_made.prog) (w := w) (T := tT K) F4 (S base) tb hm hu
    have GO := ok_own F6 B BX (S base) kt g34 F5 g5 b5
    have GS := ok_same (P := PySem.Challenge.rw_lastbell_k00_errors_made.prog) (w := w) (base := base) F3 B g3 b3 4
    have GR := ok_right F7 B (S base) F4 GE g4 b4 F6 GO g6 b6 F3 GS g3 b3
    have GSt := ok_stream (P := PySem.Challenge.rw_lastbell_k00_errors_made.prog) (w := w) (base := base) F0 B
    have GP := ok_pick (P := PySem.Challenge.rw_lastbell_k00_errors_made.prog) (w := w) (base := base) F2 B F1 g1 b1
    exact ok_law F8 B (S base) F4 GE g4 b4 F3 GS g3 b3 F0 GSt g0 b0 F2 GP g2 b2 F7 GR g7 b7
end
end K00
open PySem PySem.W PySem.Calls PyProof.Rows
theorem PySem.Challenge.cw_lastbell_k00_errors_made_holds : PySem.Challenge.rw_lastbell_k00_errors_made.Holds := by
  w_on; o_law
  refine HandSHeadRun.head_any (r := K00.R) (q := view K00.R.prog [36]) (H := K00.hk) (ob := K00.ob) (M := 9000) (loose := K00.looseN) (d := HandSHeadRun.topDef K00.R.prog 36) (kwd := []) K00.ob_eq
    (by kernel_rfl) (fun s => by kernel_rfl) K00.run (by kernel_rfl) (by kernel_rfl) (by kernel_rfl) (by rfl) (by first | assumption | decide +kernel) (by decide +kernel) ⟨rfl, rfl, rfl, rfl, rfl, by decide +kernel⟩ ?hw ?hc
  case hw => w_witness2
  case hc =>
    refine LamX.walk_ofTsE (l := PySem.Challenge.rw_lastbell_k00_errors_made) (n := 63) (k := 8) (x := "_law_script") (CX := fun _ => L2.CX0) rfl (by decide) (by kernel_rfl) ⟨rfl, by decide, by decide⟩ ?F (fun _ _ _ _ _ z => z)
    intro w mg fa h Y G hmg0
    obtain ⟨K, KX, c⟩ := Y
    have hmg : mg ("law" : PySem.Str) = some (.ref fa) := by
      have e : (HandSHeadRun.topDef K00.R.prog 36).name = ("law" : PySem.Str) := by kernel_rfl
      rw [← e]
      exact hmg0
    exact ⟨K, KX, K00.facts KX G hmg c⟩
#print axioms PySem.Challenge.cw_lastbell_k00_errors_made_holds

