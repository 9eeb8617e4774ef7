import PyProof.Rows.All
import Wide.All
import OpenK.AllK
import Wide.FinOn
import HandS.ForMost
import HandS.ExcInit
import HandS.Lambda
import HandS.CallLocal
import HandS.ExcIs
import HandS.ExcValue
import HandS.IsInst
import HandS.ForExc
import HandS.TryMany
import HandS.ExcField
import HandS.Evl
import HandS.MakeKwOnly
import HandS.HeadHook4
import HandS.Head3
import Open.Seg
import HandS.Words
import HandS.Walk
import HandS.Zip
import HandS.ListItems
import HandS.EndTab
import HandS.Style
import HandS.Conv
import HandS.NoneIn
import HandS.Small
import HandS.SetKeys
import HandS.Deep
import HandS.WordsExc
import HandS.Defaults
import HandS.HeadHook1
import HandS.HeadHook2
import HandS.HeadHook3
import HandS.HeadWalk
import HandS.HeadEnd
import HandS.Head0
import HandS.Head1
import HandS.Head2
import PySem.Challenge.RW_lastbell_k03_houses_asked_for
set_option Elab.async false
set_option linter.all false
set_option maxRecDepth 100000
set_option maxHeartbeats 2000000
/-! lambdas with parameters and without captured names, as tracked objects -/
namespace Own
open PySem PySem.Spec PyProof.Rows L2 LamX
/-- at f: the function object of a lambda, its code object at c -/
def LamO (f c : Addr) (q : Str) (ps : Arguments) (bd : Expr) (sc : Scope) : HO :=
  .ext fun h => ∃ pm ctv, h.get? f = some (PySem.W.kla_obj "<lambda>" q ps bd sc [] pm c ctv)
def LamAt (H : Hp) (f : Addr) (q : Str) (ps : Arguments) (bd : Expr) (sc : Scope) : Prop :=
  ∃ c, H f = some (LamO f c q ps bd sc) ∧ H c = some (CodeO c q)
theorem lamO_ok {P : Program} {w : World} {H : Hp} {h : Heap} {f c : Addr} {q : Str} {ps : Arguments} {bd : Expr} {sc : Scope} {pm ctv : Value}
    (e : h.get? f = some (PySem.W.kla_obj "<lambda>" q ps bd sc [] pm c ctv)) : ObjOk P w H h f (LamO f c q ps bd sc) :=
  ⟨⟨pm, ctv, e⟩, ⟨_, e⟩, fun _ _ ⟨p, t, z⟩ k => ⟨p, t, k _ z⟩⟩
theorem lamO_ne {f c : Addr} {q : Str} {ps : Arguments} {bd : Expr} {sc : Scope} (t : Array Value) : LamO f c q ps bd sc ≠ .tbl t := fun z => by
  unfold LamO at z
  cases z
theorem LamAt.ext {H H' : Hp} {f : Addr} {q : Str} {ps : Arguments} {bd : Expr} {sc : Scope} (l : LamAt H f q ps bd sc) (e : ExtN H H') : LamAt H' f q ps bd sc := by
  obtain ⟨c, h1, h2⟩ := l
  exact ⟨c, e _ _ h1 lamO_ne, e _ _ h2 codeO_ne⟩
section
variable {X : Cx} {pins : List (Addr × Obj)} {σ : L2.St} {H : Hp} {s : Shared}
theorem lam_new {T : List (Addr × Str)} {c P : Addr} {ps : Arguments} {bd : Expr} {sc : Scope} {pos : Pos} {E Q : Value → Shared → Prop} (I : Inv X pins σ H s) (TB : TabB X.base X.mg c P)
    (hcode : X.env.code = .ref c) (hm : (P, X.env.qual ++ "<lambda>") ∈ T) (hu : ∀ p ∈ T, p.1 = P → p.2 = X.env.qual ++ "<lambda>") (hT : Tabs T H) (hdef : defaultsOf ps X.env = ([], []))
    (hclo : cloFrom X.env.cells sc.names [] = []) (hnf : ∀ y ∈ sc.names, y.2 ≠ .free)
    (k : ∀ (f : Addr) (H2 : Hp) (s' : Shared), Inv X pins σ H2 s' → ExtN H H2 → Tabs T H2 → H f = none → LamAt H2 f (X.env.qual ++ "<lambda>") ps bd sc → Q (.ref f) s') :
    wpAny (model X.prog X.w) X.A (eval (.Lambda ps bd sc pos) X.env) Q E s := by
  obtain ⟨tb, tP, tt, tc⟩ := hT _ hm
  have bP := TB.bm.keeps I.bk
  have gP : s.heap.get? P = some { cls := .none, data := .fields tb } := I.hok P _ tP
  have clo : closureFor sc X.env = pure [] := by
    have z := closure_ok (env := X.env) (scope := sc) (fun y hy e => absurd e (hnf y hy))
    rw [hclo] at z
    exact z
  refine PySem.W.kla_eval hdef ?_
  rcases among : codeAmong pos tb.toList with _ | cv
  · refine PySem.W.kla_makeFunction clo I.ok.glob (I.mod.glob.keeps I.bk) hcode (TB.code.keeps I.bk) gP tt among TB.gP bP (fun c1 ctv h1 tk e1 ge lt rc ta => ?_)
    obtain ⟨c2, oc, vs, t, ec, goc, doc, vq⟩ := rc
    obtain rfl : c1 = c2 := Value.ref.inj ec
    have nC : H c1 = none := I.hok.fresh ge
    have le1 : s.heap.objs.size ≤ h1.objs.size := Nat.le_of_lt (Nat.lt_of_le_of_lt ge lt)
    have I1 := inv_table (t' := tk) (q := X.env.qual ++ "<lambda>") (more := #[rawInt pos.line, rawInt pos.col, .ref c1]) I tP e1 ta ge ⟨oc, vs, t, goc, doc, vq⟩
    have I2 := I1.laid (t' := tk) (o := LamO h1.objs.size c1 (X.env.qual ++ "<lambda>") ps bd sc) (h' := h1.push (PySem.W.kla_obj "<lambda>" (X.env.qual ++ "<lambda>") ps bd sc [] ((X.mg "__name__").getD .none) c1 ctv))
      (fun b o e => Heap.get?_push_of_some _ e) (Nat.le_refl _) (lamO_ok (Heap.get?_push_size _ rfl))
    have hF : upd (upd H P (.tbl (tb ++ #[rawInt pos.line, rawInt pos.col, .ref c1]))) c1 (CodeO c1 (X.env.qual ++ "<lambda>")) h1.objs.size = none := I1.hok.fresh (Nat.le_refl _)
    have hf : H h1.objs.size = none := I.hok.fresh le1
    have e12 : ExtN H (upd (upd H P (.tbl (tb ++ #[rawInt pos.line, rawInt pos.col, .ref c1]))) c1 (CodeO c1 (X.env.qual ++ "<lambda>"))) := fun b o e n => by
      have nb : b ≠ P := fun z => by
        rw [z, tP] at e
        exact n tb (Option.some.inj e).symm
      rw [upd_ne (ne_of_none e nC), upd_ne nb]
      exact e
    have e2 : ∀ b o, upd (upd H P (.tbl (tb ++ #[rawInt pos.line, rawInt pos.col, .ref c1]))) c1 (CodeO c1 (X.env.qual ++ "<lambda>")) b = some o → upd (upd (upd H P (.tbl (tb ++ #[rawInt pos.line, rawInt pos.col, .ref c1]))) c1 (CodeO c1 (X.env.qual ++ "<lambda>"))) h1.objs.size (LamO h1.objs.size c1 (X.env.qual ++ "<lambda>") ps bd sc) b = some o := fun b o e => by
      rw [upd_ne (ne_of_none e hF)]
      exact e
    have eL : (tb ++ #[rawInt pos.line, rawInt pos.col, .ref c1]).toList = tb.toList ++ [rawInt pos.line, rawInt pos.col, .ref c1] := by simp
    have T1 : Tabs T (upd (upd H P (.tbl (tb ++ #[rawInt pos.line, rawInt pos.col, .ref c1]))) c1 (CodeO c1 (X.env.qual ++ "<lambda>"))) := fun p hp => by
      by_cases hb : p.1 = P
      · refine ⟨tb ++ #[rawInt pos.line, rawInt pos.col, .ref c1], ?_, ?_, fun p2 cv hcv => ?_⟩
        · rw [hb, upd_ne (ne_of_none tP nC)]
          exact upd_same
        · rw [eL]
          exact PySem.TriplesOk_snoc _ _ _ _ tt
        · rw [eL] at hcv
          rw [hu p hp hb]
          rcases among_app _ tt hcv with z | z
          · obtain ⟨c0, y1, y2⟩ := tc p2 cv z
            exact ⟨c0, y1, e12 _ _ y2 codeO_ne⟩
          · exact ⟨c1, z, upd_same⟩
      · obtain ⟨t2, a1, a2, a3⟩ := hT p hp
        refine ⟨t2, ?_, a2, fun p2 cv hcv => ?_⟩
        · rw [upd_ne (ne_of_none a1 nC), upd_ne hb]
          exact a1
        · obtain ⟨c0, y1, y2⟩ := a3 p2 cv hcv
          exact ⟨c0, y1, e12 _ _ y2 codeO_ne⟩
    exact k _ _ _ I2 (e12.trans (ExtN.of e2)) (T1.ext e2) hf ⟨c1, upd_same, e2 _ _ upd_same⟩
  · obtain ⟨c1, rfl, hco⟩ := tc pos cv among
    refine PySem.W.kla_makeFunctionHit clo I.ok.glob (I.mod.glob.keeps I.bk) hcode (TB.code.keeps I.bk) gP tt among bP (fun ctv h1 tk kp le1 => ?_)
    have hf : H h1.objs.size = none := I.hok.fresh le1
    have I2 := I.laid (t' := tk) (o := LamO h1.objs.size c1 (X.env.qual ++ "<lambda>") ps bd sc) (h' := h1.push (PySem.W.kla_obj "<lambda>" (X.env.qual ++ "<lambda>") ps bd sc [] ((X.mg "__name__").getD .none) c1 ctv))
      (fun b o e => Heap.get?_push_of_some _ (kp b o e)) le1 (lamO_ok (Heap.get?_push_size _ rfl))
    have e2 : ∀ b o, H b = some o → upd H h1.objs.size (LamO h1.objs.size c1 (X.env.qual ++ "<lambda>") ps bd sc) b = some o := fun b o e => by
      rw [upd_ne (ne_of_none e hf)]
      exact e
    exact k _ _ _ I2 (ExtN.of e2) (hT.ext e2) hf ⟨c1, upd_same, e2 _ _ hco⟩
end
end Own

set_option Elab.async false
set_option linter.all false
set_option maxRecDepth 100000
set_option maxHeartbeats 2000000
namespace Own
open PySem PySem.Spec PyProof.Rows L2 LamX
abbrev LSp := List V → Hp → VK → Prop
/-- the text of a lambda keeps the promise sp -/
structure LamCode (P : Program) (w : World) (K : PySem.W.Frag) (mg : Str → Option Value) (base : Heap) (k : Nat) (q : Str) (ps : Arguments) (bd : Expr) (sc : Scope) (sp : LSp) : Prop where
  ex : ∃ N pn : List Str, FnScope N pn sc ∧
    (∀ (us : List Value) (pm cv ctv : Value), us.length = pn.length → bindArgs (PySem.W.kla_fn "<lambda>" q ps bd sc [] pm cv ctv) ⟨us, []⟩ = pure (pn.zip us)) ∧
    (∀ vs H Q, sp vs H Q → vs.length = pn.length) ∧
    ∀ (f c : Addr) (A : Around) (outer : List Env) (s : Shared) (H : Hp) (vs : List V) (Q : VK), Room k (A.deeper (envOfC q sc s.heap.objs.size f (.ref c))) → sp vs H Q →
      ∃ t, PE (cxOf CX0 P w K mg base N q sc f (.ref c) A outer s H E0) bd t ∧ t (L2.start N vs) H Q
theorem run_lam {P : Program} {w : World} {K : PySem.W.Frag} {mg : Str → Option Value} {base : Heap} {k : Nat} {q : Str} {ps : Arguments} {bd : Expr} {sc : Scope} {sp : LSp} (C : LamCode P w K mg base k q ps bd sc sp)
    {A : Around} {outer : List Env} {s : Shared} {H : Hp} {f : Addr} {us : List Value} {vs : List V} {Q : VK} (la : LamAt H f q ps bd sc) (e0 : Env0 P w K mg base A outer s H) (hr : Room (k + 1) A) (r : Vals vs us) (h : sp vs H Q) :
    codeAny (model P w) A (.call (.ref f) ⟨us, []⟩) (CR CX0 outer P w H s Q E0) s := by
  obtain ⟨N, pn, S, bi, len, body⟩ := C.ex
  obtain ⟨c, hf, hc⟩ := la
  have hl := len _ _ _ h
  have lu : us.length = pn.length := r.length.symm.trans hl
  have lim : s.heap.NoLimit := e0.mod.nolimit.keeps fun b o e => (e0.bs b o e).1
  obtain ⟨⟨pm, ctv, ho⟩, _, _⟩ := e0.hok f _ hf
  obtain ⟨⟨oc, vs', t', e1, e2, e3⟩, _, _⟩ := e0.hok c _ hc
  have kinds : ∀ y ∈ pn.zip us, sc.names.lookup y.1 = some .local ∨ (sc.names.lookup y.1 = some .cell ∧ ((cellsFrom (s.heap.objs.size + 1) sc.names []).lookup y.1).isSome = true) := fun ⟨n, v⟩ hy => by
    rcases S.par n (List.of_mem_zip hy).1 with z | z
    · exact .inl z
    · exact .inr ⟨z, PySem.W.cellsFrom_some _ _ _ (.inl z)⟩
  refine PySem.W.kla_callFunE hr.depth ho rfl S.co S.gen rfl ⟨c, oc, vs', t', rfl, e1, e2, e3⟩ ?_
  rw [bi us _ _ _ lu]
  refine wpAny_pure (wpAny_newFunctionEnv_cells S.kind kinds fun env he s1 x => ?_)
  subst he
  refine ⟨lim.keeps x.toInCall.keep, ?_⟩
  show codeAny _ _ (.expr bd (envOfC q sc s.heap.objs.size f (.ref c))) _ _
  obtain ⟨t, ht, hq⟩ := body f c A outer s H vs Q (hr.deeper _) h
  have I : Inv (cxOf CX0 P w K mg base N q sc f (.ref c) A outer s H E0) [] (L2.start N vs) H s1 := inv_start S hr.hd e0 hl r x
  refine PySem.W.kla_codeExpr (wpAny_mono (ht.run [] s1 (L2.start N vs) H Q I hq) (fun v s' hs => ?_) fun e s' hs => hs)
  obtain ⟨w', H', J, rv, z⟩ := hs
  exact ⟨w', H', J.os, J.bare, J.base, J.hok, rv, z⟩
/-- x(e, ..), x a local name that holds a lambda -/
def tLamCall (P : Program) (w : World) (K : PySem.W.Frag) (mg : Str → Option Value) (base : Heap) (k i : Nat) (ta : TA) : TE := fun σ H Q =>
  ∃ (f : Addr) (q : Str) (ps : Arguments) (bd : Expr) (sc : Scope) (sp : LSp), σ[i]? = some (some (.ref f)) ∧ LamAt H f q ps bd sc ∧ LamCode P w K mg base k q ps bd sc sp ∧
    ta σ H fun vs H1 => LamAt H1 f q ps bd sc ∧ sp vs H1 Q
section
variable {X : Cx} {k i : Nat} {x : Str} {p pos : Pos} {e : Expr} {es : List Expr} {ta : TA}
theorem fnAt_of {H : Hp} {s : Shared} {f : Addr} {q : Str} {ps : Arguments} {bd : Expr} {sc : Scope} (hok : HOk X.prog X.w H s.heap) (l : LamAt H f q ps bd sc) : PySem.W.FnAt f s.heap := by
  obtain ⟨c, hf, _⟩ := l
  obtain ⟨⟨pm, ctv, ho⟩, _, _⟩ := hok f _ hf
  exact ⟨_, _, _, _, ho⟩
theorem pe_callLam (hr : Room (k + 1) X.A) (hN : X.N[i]? = some x) (hv : Vis X.env.scope x) (ha : PA X (e :: es) ta)
    (hdb : (x == ("__debug__" : Str)) = false := by decide) (hcd : (x == ("__classdict__" : Str)) = false := by decide)
    (he : starEach (e :: es) X.env = (false, eval e X.env) :: starEach es X.env := by rfl) (hpl : (backTo pos (starEach es X.env)).any (·.1) = false := by rfl) :
    PE X (.Call (.Name x p) (e :: es) [] pos) (tLamCall X.prog X.w X.K X.mg X.base k i ta) := by
  refine ⟨fun pins s σ H Q I h => ?_⟩
  obtain ⟨f, q, ps, bd, sc, sp, hs, la, C, ht⟩ := h
  refine wpAny_Call_Name_kw (thn ((pe_var (pos := p) hN hv hdb hcd).run pins s σ H (fun v H1 => v = .ref f ∧ H1 = H) I ⟨.ref f, hs, rfl, rfl⟩) fun u s1 ⟨v, H1, I1, r1, q1⟩ => ?_)
  obtain ⟨rfl, rfl⟩ := q1
  obtain rfl : u = Value.ref f := r1
  refine PySem.W.callWith_F (fnAt_of I1.hok la) (thn (ha.run pos pins s1 σ _ _ I1 ht) fun us s2 ⟨vs, H2, I2, r, la2, hq⟩ => ⟨fnAt_of I2.hok la2, ?_⟩) he hpl
  show wpAny _ _ (call (.ref f) us) _ _ _
  refine wpAny_call (codeAny_mono (run_lam C la2 I2.env0 hr r hq) fun r' s' z => ?_)
  cases r' with
  | error e => exact (show False from z).elim
  | ok fl =>
    cases fl with
    | ret u => exact I2.after z
    | next => exact False.elim z
    | brk => exact False.elim z
    | cont => exact False.elim z
/-- a lambda's making, as an expression -/
def tLamNew (T : List (Addr × Str)) (q : Str) (ps : Arguments) (bd : Expr) (sc : Scope) : TE := fun σ H Q =>
  Tabs T H ∧ ∀ (f : Addr) (H2 : Hp), ExtN H H2 → Tabs T H2 → H f = none → LamAt H2 f q ps bd sc → Q (.ref f) H2
theorem pe_lam {T : List (Addr × Str)} {c P : Addr} {ps : Arguments} {bd : Expr} {sc : Scope} (TB : TabB X.base X.mg c P)
    (hcode : X.env.code = .ref c) (hm : (P, X.env.qual ++ "<lambda>") ∈ T) (hu : ∀ p ∈ T, p.1 = P → p.2 = X.env.qual ++ "<lambda>")
    (hdef : defaultsOf ps X.env = ([], []) := by rfl) (hclo : cloFrom X.env.cells sc.names [] = [] := by rfl) (hnf : ∀ y ∈ sc.names, y.2 ≠ .free := by decide +kernel) :
    PE X (.Lambda ps bd sc pos) (tLamNew T (X.env.qual ++ "<lambda>") ps bd sc) := by
  refine ⟨fun pins s σ H Q I h => ?_⟩
  exact lam_new I TB hcode hm hu h.1 hdef hclo hnf fun f H2 s' I2 e2 T2 nf la => ⟨.ref f, H2, I2, rfl, h.2 f H2 e2 T2 nf la⟩
end
end Own

set_option Elab.async false
set_option linter.all false
set_option maxRecDepth 100000
set_option maxHeartbeats 4000000
/-! exceptions of own classes held as values: made, their fields read, asked for their class -/
namespace PySem.W
open PySem PySem.Spec PySem.Calls PyProof.Rows
section
variable {prog : Program} {w : World} {A : Around} {E : Value → Shared → Prop} {s : Shared} {K : Frag} {x D : Addr} {ox : Obj} {od : Option Obj}
theorem own_bound {name : Str} {a g : Value} (hc : (clsIn K D).isSome = true) (ha : findIn K (.ref D) name = some (some a)) (hg : specialIn K a "__get__" = some (some g)) (ht : takesIn K a = some true) :
    findObj K D od name = some (.bind g a) := by
  rcases Option.isSome_iff_exists.mp hc with ⟨cd, hcd⟩
  simp [findObj, hcd, ha, hg, ht]
/-- e.__class__ of an exception, with or without a dict of its own -/
theorem own_class {Q : Option Value → Shared → Prop} (T : L2.ExcC K D) (X : K.In s.heap) (I : InstAt s.heap x ox D od) (h : Q (some (.ref D)) { s with toks := s.toks + 1 }) :
    wpAny (model prog w) A (getAttr? (.ref x) "__class__") Q E s := by
  have isCls : (clsIn K D).isSome = true := by
    rcases any_some T.hd with ⟨cd, hcd, _⟩
    rw [hcd]
    rfl
  have f0 := own_bound (od := od) isCls T.ha T.hn T.ht
  rcases s with ⟨hp, g, d, t, os⟩
  have a0 := I.type (M := model prog w)
  have a1 := looks_findIn (M := model prog w) X T.hg
  have a2 := looks_findIn (M := model prog w) X T.hk
  have a3 := looks_find (M := model prog w) X I f0
  have isB : Looks (model prog w) hp (isInstance (.ref x) (.type "BaseException")) true := a0.andThen (looks_subIn X T.hs)
  have n1 : (onTheHeap (Value.ref D) && Value.builtin "BaseException.__getattribute__" == Value.builtin "object.__getattribute__") = false := by
    have z : (Value.builtin "BaseException.__getattribute__" == Value.builtin "object.__getattribute__") = false := by decide +kernel
    rw [z]
    rfl
  have n2 : (false && onTheHeap (Value.builtin "BaseException.__getattribute__")) = false := rfl
  unfold getAttr? getAttrBy? getAttrBy
  refine wpAny_bind (wpAny_mkText (wpAny_bind (wpAny_attempt (wpAny_holding (wpAny_bind (a0.at (wpAny_bind (a1.at ?_))))))))
  show wpAny _ _ (if (onTheHeap (Value.ref D) && Value.builtin "BaseException.__getattribute__" == Value.builtin "object.__getattribute__") = true then _ else _) _ _ _
  rw [n1, if_neg Bool.false_ne_true]
  unfold getAttrByItsOwn hookBefore
  refine wpAny_bind ?_
  rw [if_pos (show onTheHeap (Value.ref D) = true from rfl)]
  refine a2.at (wpAny_bind (wpAny_attempt (wpAny_holding ?_)))
  unfold callGetattribute
  rw [n2, if_neg Bool.false_ne_true]
  unfold boundAndCalled
  rw [PySem.F.excAttr_ValueError.ga.bind (.ref x)]
  refine wpAny_bind (wpAny_pure ?_)
  show wpAny _ _ (call (.builtin "BaseException.__getattribute__") [.ref x, .str "__class__" t]) _ _ _
  refine wpAny_call (codeAny_call_builtin PySem.F.excAttr_ValueError.ga.plain PySem.F.entry_bexc_ga ?_)
  refine @check_slot (model prog w) _ _ ⟨hp, g, d, t + 1, os⟩ "BaseException.__getattribute__" "BaseException" "__getattribute__" (.ref x) [.str "__class__" t] [] _ (by decide +kernel) (by decide +kernel) isB (PySem.F.args_bexc_ga (.ref x) (.str "__class__" t)) ?_
  unfold Builtin.«object.__getattribute__»
  refine wpAny_bind (wpAny_of_eq (a := ((Value.ref x : Value), [Value.str "__class__" t])) (by first | rfl | (simp only [slotArgs]; rfl)) ?_)
  refine wpAny_bind (wpAny_pure (wpAny_bind (a0.at (wpAny_bind (a3.at ?_)))))
  show wpAny _ _ (holding [Value.builtin "object.__class__"] (call (.builtin "getset_descriptor.__get__") [.builtin "object.__class__", .ref x, .ref D]) >>= ret) _ _ _
  refine wpAny_bind (wpAny_holding (wpAny_call (class_get (s := ⟨hp, g, d, t + 1, os⟩) (ox := ox) (od := od) X I T.hm (wpAny_pure ?_))))
  show wpAny _ _ (handedOut (.ref D)) _ _ _
  rw [handedOut_of (v := .ref D) rfl]
  first
    | exact wpAny_pure (wpAny_pure h)
    | exact wpAny_pure h
    | exact wpAny_pure (wpAny_bind (wpAny_pure (wpAny_pure h)))
theorem own_kit (T : L2.ExcC K D) : KitX K (.ref x) (.ref D) (fun h => ∃ ox od, InstAt h x ox D od) where
  ty := fun _ _ _ ⟨_, _, I⟩ => I.type
  it := fun _ _ X _ => by
    rcases any_some T.hd with ⟨cd, hcd, _⟩
    unfold clsIn at hcd
    split at hcd
    · rename_i c1 d1 cd1 sl1 ho
      intro A1 Q1 E1 s1 k q
      unfold isType loadHead
      exact wpAny_bind (wpAny_loadPart (k _ _ (X _ _ ho)) (wpAny_pure q))
    · cases hcd
  ne := fun h tp dd its n sl X htp => by
    rcases any_some T.hd with ⟨cd, hcd, _⟩
    refine Bool.eq_false_iff.mpr fun q => ?_
    obtain rfl : D = tp := Value.ref.inj (beq_iff_eq.mp q)
    unfold clsIn at hcd
    split at hcd
    · rename_i c1 d1 cd1 sl1 ho
      have z := (X _ _ ho).symm.trans htp
      cases z
    · cases hcd
  ca := fun X ⟨_, _, I⟩ k => own_class T X I k
end
end PySem.W
namespace Own
open PySem PySem.Spec PyProof.Rows L2
/-- at e: an exception of the class at C, made and not raised, whose own dict (where it has one) holds fs -/
structure ExcAt (H : Hp) (e C : Addr) (fs : List (Str × V)) : Prop where
  ex : ∃ d, H e = some (exo e C d) ∧ ((d = none ∧ fs = []) ∨ ∃ dd, d = some dd ∧ H dd = some (exd dd fs))
theorem exd_ne {d : Addr} {fs : List (Str × V)} {t : Array Value} : exd d fs ≠ .tbl t := fun z => by
  have z' : HO.ext _ = HO.tbl t := z
  cases z'
theorem ExcAt.keep {H H' : Hp} {e C : Addr} {fs : List (Str × V)} (x : ExcAt H e C fs) (k : ∀ b o, H b = some o → (∀ t, o ≠ .tbl t) → H' b = some o) : ExcAt H' e C fs := by
  obtain ⟨d, h1, h2⟩ := x.ex
  refine ⟨d, k _ _ h1 fun t => exo_tbl, ?_⟩
  rcases h2 with h2 | ⟨dd, e2, h2⟩
  · exact .inl h2
  · exact .inr ⟨dd, e2, k _ _ h2 fun t => exd_ne⟩
theorem ExcAt.inst {P : Program} {w : World} {H : Hp} {h : Heap} {e C : Addr} {fs : List (Str × V)} (x : ExcAt H e C fs) (hok : HOk P w H h) : ∃ ox od, PySem.W.InstAt h e ox C od := by
  obtain ⟨d, h1, h2⟩ := x.ex
  obtain ⟨t, ho⟩ := exo_at hok h1
  rcases h2 with ⟨rfl, _⟩ | ⟨dd, rfl, h2⟩
  · exact ⟨_, none, ho, rfl, rfl, trivial⟩
  · obtain ⟨mA, hn, _⟩ := exd_at hok h2
    obtain ⟨od, hd, _⟩ := lookIn_ns hn
    exact ⟨_, some od, ho, rfl, rfl, hd⟩
/-- isinstance(e, c) -/
def rIsE (K : PySem.W.Frag) : List V → Hp → VK → Prop := fun xs H Q =>
  ∃ (a D : Addr) (fs : List (Str × V)) (c : V) (cv : Value) (b : Bool), xs = [.ref a, c] ∧ ExcAt H a D fs ∧ ExcC K D ∧ ClsV c cv ∧ PySem.W.kitOne K (.ref D) cv = some b ∧ Q (.bl b) H
theorem call_isE {X : Cx} : CallR X (.builtin "isinstance") (rIsE X.K) := by
  intro pins s σ H xs us Q I r h
  obtain ⟨a, D, fs, c, cv, b, rfl, x, T, k, e, q⟩ := h
  obtain ⟨u1, u2, rfl, r1, r2⟩ := vals2 r
  obtain rfl : u1 = Value.ref a := r1
  obtain rfl := k.eq r2
  exact PySem.W.kia_one (PySem.W.own_kit T) I.kIn (x.inst I.hok) e (fun z => nomatch z) fun tk => ⟨.bl b, H, I.tok tk, rfl, q⟩
/-- e.f -/
def tExF (K : PySem.W.Frag) (ta : TE) (f : Str) : TE := fun σ H Q => ta σ H fun x H1 =>
  ∃ (a C : Addr) (fs : List (Str × V)) (v : V), x = .ref a ∧ ExcAt H1 a C fs ∧ ExcC K C ∧ PySem.W.findIn K (.ref C) f = some none ∧ fs.lookup f = some v ∧ Q v H1
section
variable {X : Cx} {e : Expr} {es : List Expr} {ta : TE} {t tk : TA} {f x : Str} {p pos kpos : Pos}
theorem pe_exF (he : PE X e ta) (hb : attributeBase e f X.env (eval e X.env) = eval e X.env := by rfl) : PE X (.Attribute e f pos) (tExF X.K ta f) := by
  refine ⟨fun pins s σ H Q I h => attr_of hb (thn (he.run pins s σ H _ I h) fun u s1 hh => ?_)⟩
  obtain ⟨y, H1, I1, ry, a, C, fs, v, rfl, xa, T, hno, hl, q⟩ := hh
  obtain rfl : u = Value.ref a := ry
  obtain ⟨d, h1, h2⟩ := xa.ex
  obtain ⟨t1, ho⟩ := exo_at I1.hok h1
  rcases h2 with ⟨_, rfl⟩ | ⟨dd, rfl, h2⟩
  · cases hl
  · obtain ⟨mA, hn, rel⟩ := exd_at I1.hok h2
    obtain ⟨od, hd, lk⟩ := lookIn_ns hn
    have r0 := rel f
    rw [hl] at r0
    obtain ⟨w0, hw, rw0⟩ := RelO.some_of r0
    have J : PySem.W.InstAt s1.heap a _ C (some od) := ⟨ho, rfl, rfl, hd⟩
    exact HandSPX.exc_get I1.kIn J T.hg T.hk T.hs (PySem.W.findObj_own T.hd hno rfl (by rw [lk, hw])) (handed_of rw0) ⟨v, H1, I1.tok _, rw0, q⟩
end
end Own

set_option Elab.async false
set_option linter.all false
set_option maxRecDepth 100000
set_option maxHeartbeats 4000000
/-! C(e, ..), C(k = e, ..), C() of an own exception class, as values -/
namespace PySem.HandSPX
open Builtin Builtin.ObjectAttr
section
variable {M : Model} {prog : Program} {w : World} {A : Around} {E : Value → Shared → Prop} {R : Result → Shared → Prop} {h : Heap} {g : Array GenState} {d : Drawn} {t : Nat} {os : OsState}
variable {nm q : Str} {C N : Addr} {bs bm bmB : List Value} {hdct : Bool} {sn : List Str} {sub : List Value} {ab : Bool} {col : Option Bool} {dd : Option Addr} {k0 k1 k2 k3 k5 : Option Value} {B newId initId : String}
theorem kw_check (F : ExcBaseFacts B newId initId bmB) (hT : ∀ X : String, bm.contains (.type X) = bmB.contains (.type X)) {us : List Value} {kw : List (Str × Value)} {Q : Unit → Shared → Prop}
    (hC : h.get? C = some (excClassObj nm q C N bs bm hdct sn sub ab col dd k0 k1 k2 k3 k5 newId)) (k : Q () ⟨h, g, d, t, os⟩) : wpAny M A (checkBuiltinCall newId ⟨.ref C :: us, kw⟩) Q E ⟨h, g, d, t, os⟩ := by
  have inB : (Value.ref C :: bm).contains (.type B) = true := by
    rw [List.contains_cons, hT, F.hasB]
    exact Bool.or_true _
  have st := F.noStar
  simp only [checkBuiltinCall, F.newKind, F.newSplit, F.newRow]
  repeat (first
    | refine wpAny_loadPart_at hC ?_
    | (refine wpAny_isSubtype_exc hC ?_; rw [inB])
    | refine wpAny_staticBase_exc hC ?_
    | refine wpAny_madeBy_exc hC ?_
    | simp only [bne_self_eq_false, Bool.false_eq_true, if_false]
    | wp_step)
  exact k
theorem kw_new (F : ExcBaseFacts B newId initId bmB) (hT : ∀ X : String, bm.contains (.type X) = bmB.contains (.type X)) {us : List Value} {kw : List (Str × Value)}
    (hC : h.get? C = some (excClassObj nm q C N bs bm hdct sn sub ab col dd k0 k1 k2 k3 k5 newId))
    (k : R (.ok (.ret (.ref (h.objs.size + 1)))) ⟨(h.push (W.kdv_tup us)).push (excO C h.objs.size), g, d, t, os⟩) (hl : us.length ≤ sizeLine) :
    codeAny (model prog w) A (.builtin newId ⟨.ref C :: us, kw⟩) R ⟨h, g, d, t, os⟩ := by
  have fe := F.ends
  have inB : (Value.ref C :: bm).contains (.type B) = true := by
    rw [List.contains_cons, hT, F.hasB]
    exact Bool.or_true _
  have inA : (Value.ref C :: bm).contains (.type "AttributeError") = false := by
    rw [List.contains_cons, hT, F.noAttr]
    rfl
  have inN : (Value.ref C :: bm).contains (.type "NameError") = false := by
    rw [List.contains_cons, hT, F.noName]
    rfl
  refine codeAny_builtinAt F.entry ?_
  unfold Builtin.«BaseException.__new__»
  refine wpAt_bind ?_
  show wpAt _ _ _ (stack >>= _) _ _ _
  refine wpAt_bind (wpAt_stack fun p below => wpAt_of_wpAny ?_)
  wp_walk
  refine wpAt_of_wpAny ?_
  rw [F.owner]
  repeat (first
    | with_reducible refine wpAny_madeHere_exc F.canon hC ?_
    | with_reducible refine wpAny_loadPart_at hC ?_
    | (with_reducible refine wpAny_isSubtype_exc hC ?_; first | rw [inB] | rw [inA] | rw [inN])
    | wp_step)
  show R _ _
  rw [Heap.size_push]
  exact k
theorem kw_typecall (F : ExcBaseFacts B newId initId bmB) (hT : ∀ X : String, bm.contains (.type X) = bmB.contains (.type X)) {us : List Value} {kw : List (Str × Value)} {fI : Addr} {Q : Fin → Shared → Prop}
    (hC : h.get? C = some (excClassObj nm q C N bs bm hdct sn sub ab col dd k0 k1 k2 k3 k5 newId))
    (hi : W.Looks (model prog w) h (typeLookup (.ref C) "__init__") (some (.ref fI))) (hb : ∀ self, W.Looks (model prog w) h (bindSpecial (.ref fI) self) (.ref fI, [self])) (hl : us.length ≤ sizeLine)
    (k : codeAny (model prog w) A (.call (.ref fI) ⟨.ref (h.objs.size + 1) :: us, kw⟩)
      (fun r s' => match r with | .ok (.ret v) => v = .none ∧ Q (.done (.ret (.ref (h.objs.size + 1)))) s' | .ok _ => False | .error e => E e s')
      ⟨(h.push (W.kdv_tup us)).push (excO C h.objs.size), g, d, t, os⟩) :
    wpAny (model prog w) A (Builtin.«type.__call__» ⟨.ref C :: us, kw⟩) Q E ⟨h, g, d, t, os⟩ := by
  repeat (first
    | with_reducible refine wpAny_loadPart_at hC ?_
    | with_reducible refine wpAny_madeBy_exc hC ?_
    | wp_step)
  refine codeAny_call_builtin_code (Code.quiet_builtin _ F.quiet) (kw_check F hT hC (kw_new F hT hC ?_ hl))
  show wpAny _ _ _ _ _ _
  have kp : ∀ b o, h.get? b = some o → ((h.push (W.kdv_tup us)).push (excO C h.objs.size)).get? b = some o := fun b o e => Heap.get?_push_of_some _ (Heap.get?_push_of_some _ e)
  have hC1 := kp _ _ hC
  have hE : ((h.push (W.kdv_tup us)).push (excO C h.objs.size)).get? (h.objs.size + 1) = some (excO C h.objs.size) := by heap_get
  have inC : (Value.ref C :: bm).contains (.ref C) = true := by simp
  have ii := hi.keeps kp
  have bb := (hb (.ref (h.objs.size + 1))).keeps kp
  unfold isInstance
  repeat (first
    | with_reducible refine wpAny_loadPart_at hE ?_
    | (with_reducible refine wpAny_isSubtype_exc hC1 ?_; rw [inC])
    | wp_step)
  show wpAny _ _ (typeLookup (.ref C) _) _ _ _
  refine ii.at (wpAny_holding (wpAny_bind (bb.at (wpAny_bind (wpAny_call (codeAny_mono k fun r s' z => ?_))))))
  rcases r with e | (v | _ | _ | _) <;> first | exact z | exact z.elim | skip
  obtain ⟨rfl, z⟩ := z
  first
    | exact wpAny_pure (wpAny_pure z)
    | (wp_walk; exact z)
theorem kw_call (F : ExcBaseFacts B newId initId bmB) (hT : ∀ X : String, bm.contains (.type X) = bmB.contains (.type X)) {us : List Value} {kw : List (Str × Value)} {fI : Addr}
    (hC : h.get? C = some (excClassObj nm q C N bs bm hdct sn sub ab col dd k0 k1 k2 k3 k5 newId))
    (hi : W.Looks (model prog w) h (typeLookup (.ref C) "__init__") (some (.ref fI))) (hb : ∀ self, W.Looks (model prog w) h (bindSpecial (.ref fI) self) (.ref fI, [self])) (hl : us.length ≤ sizeLine)
    (k : codeAny (model prog w) (A.under (.builtin "type.__call__" ⟨.ref C :: us, kw⟩)) (.call (.ref fI) ⟨.ref (h.objs.size + 1) :: us, kw⟩) (W.InitBack (h.objs.size + 1) R)
      ⟨(h.push (W.kdv_tup us)).push (excO C h.objs.size), g, d, t, os⟩) :
    codeAny (model prog w) A (.call (.ref C) ⟨us, kw⟩) R ⟨h, g, d, t, os⟩ := by
  have l1 := tc_lookup
  have l2 := tc_bind (.ref C)
  have ty : (⟨h, g, d, t, os⟩ : Shared).TypeIs (.ref C) "type" := ⟨_, hC, rfl⟩
  refine codeAny_of_tree ?_
  show wpAny _ _ (callAny (.ref C) _) _ _ _
  repeat (any_goals (first
    | assumption
    | with_reducible refine wpAny_loadPart_at hC ?_
    | wp_step))
  refine ⟨rfl, ?_⟩
  refine codeAny_call_builtin_at (Code.quiet_builtin _ (by decide +kernel)) entry_typeCall (wpAny_check_type_call_sub hC (kw_typecall F hT hC hi hb hl ?_))
  refine codeAny_mono k fun r s' z => ?_
  rcases r with e | (v | _ | _ | _) <;> exact z
end
end PySem.HandSPX

set_option Elab.async false
set_option linter.all false
set_option maxRecDepth 100000
set_option maxHeartbeats 4000000
namespace Own
open PySem PySem.Spec PyProof.Rows L2
/-- a class with its own __init__ (at fI), over ValueError -/
structure ExcI (K : PySem.W.Frag) (C fI : Addr) : Prop where
  ox : OexC K C
  init : PySem.W.findIn K (.ref C) "__init__" = some (some (.ref fI))
  fn : PySem.W.typeIn K (.ref fI) = some (.type "function")
/-- a new exception of the class at C, its __init__ called with it and the values -/
def tMkE (C : Addr) (sp : Sp) (ta : TA) : TE := fun σ H Q => ta σ H fun vs H1 => vs.length ≤ 1000 ∧ ∀ a, H1 a = none →
  sp (.ref a :: vs) (upd H1 a (exo a C none)) (fun v H2 => v = .non ∧ Q (.ref a) H2) E0
def tMkK (C : Addr) (sp : Sp) (rV : List V → List V) (tk : TA) : TE := fun σ H Q => tk σ H fun zs H1 => ∀ a, H1 a = none →
  sp (.ref a :: rV zs) (upd H1 a (exo a C none)) (fun v H2 => v = .non ∧ Q (.ref a) H2) E0
section
variable {X : Cx} {e : Expr} {es : List Expr} {kws : List Keyword} {t tk : TA} {x : Str} {p pos : Pos} {C fI : Addr} {k : Nat} {fd : FuncData} {ps ks : List Str} {sp : Sp}
/-- the making, behind the arguments -/
theorem run_mkE {us ws : List Value} {kw : List (Str × Value)} {vs : List V} {pins : List (Addr × Obj)} {σ : L2.St} {H : Hp} {s : Shared} {Q : VK} (T : ExcI X.K C fI) (G : FnOk X.prog X.w X.K X.mg X.base CX0 k fI fd ps sp) (hr : Room (k + 1) X.A)
    (I : Inv X pins σ H s) (hl : us.length ≤ sizeLine) (rel : ∀ a : Addr, Vals (.ref a :: vs) (.ref a :: ws)) (bind : ∀ (a : Addr) (s' : Shared), X.K.In s'.heap → (Value.ref a :: ws).length = ps.length → BindsTo s' fd ⟨.ref a :: us, kw⟩ (ps.zip (.ref a :: ws)))
    (h : ∀ a, H a = none → sp (.ref a :: vs) (upd H a (exo a C none)) (fun v H2 => v = .non ∧ Q (.ref a) H2) E0) :
    wpAny (model X.prog X.w) X.A (call (.ref C) us kw) (EP X pins σ Q) X.xe s := by
  obtain ⟨nm, q, N, bs, bm, sn, sub, ab, col, dd, k0, k1, k2, k3, k5, hC, hbm⟩ := T.ox.cls
  obtain ⟨hp, g, dr, tt, os⟩ := s
  have lt : hp.objs.size ≤ hp.objs.size + 1 := Nat.le_succ _
  have q0 := h (hp.objs.size + 1) (I.hok.fresh lt)
  have kp : ∀ b o, hp.get? b = some o → ((hp.push (PySem.W.kdv_tup us)).push (PySem.HandSPX.excO C hp.objs.size)).get? b = some o := fun b o z => Heap.get?_push_of_some _ (Heap.get?_push_of_some _ z)
  have hE : ((hp.push (PySem.W.kdv_tup us)).push (PySem.HandSPX.excO C hp.objs.size)).get? (hp.objs.size + 1) = some (PySem.HandSPX.excO C hp.objs.size) := by heap_get
  have I2 : Inv X pins σ (upd H (hp.objs.size + 1) (exo (hp.objs.size + 1) C none)) ⟨(hp.push (PySem.W.kdv_tup us)).push (PySem.HandSPX.excO C hp.objs.size), g, dr, tt, os⟩ :=
    I.laid (t' := tt) (a := hp.objs.size + 1) (o := exo (hp.objs.size + 1) C none) (h' := (hp.push (PySem.W.kdv_tup us)).push (PySem.HandSPX.excO C hp.objs.size)) kp lt (exo_ok hE)
  have rv := rel (hp.objs.size + 1)
  have ll : (Value.ref (hp.objs.size + 1) :: ws).length = ps.length := rv.length.symm.trans (G.len _ _ _ _ q0)
  refine wpAny_call (PySem.HandSPX.kw_call F.excBase_ValueError (fun Y => PySem.HandSPX.refsVE_contains Y bm hbm) (I.kIn _ _ hC) (PySem.W.looks_findIn I.kIn T.init) (fun self => PySem.W.bind_fn I.kIn self T.fn) hl ?_)
  refine codeAny_mono (G.run _ X.stack _ _ ⟨Value.ref (hp.objs.size + 1) :: us, kw⟩ (Value.ref (hp.objs.size + 1) :: ws) _ _ E0 (hr.make C us kw) (I2.env0.make C us kw) (bind _ _ I2.kIn ll) rv q0) fun r s' z => ?_
  cases r with
  | error er => exact (show False from z).elim
  | ok fl =>
    cases fl with
    | ret u =>
      obtain ⟨v, H2, os2, bare2, un2, hok2, rv2, ev, q2⟩ := z
      subst ev
      exact ⟨rv2, I2.after ⟨V.ref (hp.objs.size + 1), H2, os2, bare2, un2, hok2, rfl, q2⟩⟩
    | next => exact False.elim z
    | brk => exact False.elim z
    | cont => exact False.elim z
theorem pe_mkE (T : ExcI X.K C fI) (G : FnOk X.prog X.w X.K X.mg X.base CX0 k fI fd ps sp) (hr : Room (k + 1) X.A) (hb : Binds X.K fd ps []) (hg : Gl X x) (hm : X.mg x = some (.ref C)) (ha : PA X (e :: es) t)
    (hdb : (x == ("__debug__" : Str)) = false := by decide) (he : starEach (e :: es) X.env = (false, eval e X.env) :: starEach es X.env := by rfl) (hpl : (backTo pos (starEach es X.env)).any (·.1) = false := by rfl) :
    PE X (.Call (.Name x p) (e :: es) [] pos) (tMkE C sp t) := by
  refine ⟨fun pins s σ H Q I h => ?_⟩
  refine wpAny_Call_Name_kw (ld_glob I hg hm ?_ hdb)
  refine PySem.W.callWith_K (h₀ := X.base) I.ok.mod.kin T.ox.kC (thn (ha.run pos pins s σ H _ I h) fun us s1 ⟨vs, H1, I1, r1, hz, q1⟩ => ⟨I1.kIn, ?_⟩) he hpl
  show wpAny _ _ (call (.ref C) us) _ _ _
  have hl : us.length ≤ sizeLine := by
    rw [← Paired.length r1, sizeLine_eq]
    omega
  refine run_mkE T G hr I1 hl (fun a => .cons rfl r1) (fun a s' kin ll => ?_) q1
  have b := hb s' (.ref a :: us) kin (by rw [List.append_nil]; exact ll)
  rw [List.append_nil] at b
  exact b
theorem pe_mkK {r : List Value → List Value} {rV : List V → List V} (T : ExcI X.K C fI) (G : FnOk X.prog X.w X.K X.mg X.base CX0 k fI fd ps sp) (hr : Room (k + 1) X.A)
    (hb : ∀ (a : Addr) (ws : List Value) (s' : Shared), X.K.In s'.heap → (Value.ref a :: r ws).length = ps.length → BindsTo s' fd ⟨[.ref a], ks.zip ws⟩ (ps.zip (.ref a :: r ws)))
    (hrel : ∀ {zs : List V} {ws : List Value}, Vals zs ws → Vals (rV zs) (r ws)) (hg : Gl X x) (hm : X.mg x = some (.ref C)) (hkw : PK X kws tk)
    (hall : (backToKw pos (keywordEach kws X.env)).all (·.1.isSome) = true := by rfl) (hks : (backToKw pos (keywordEach kws X.env)).filterMap (·.1) = ks := by rfl)
    (hdb : (x == ("__debug__" : Str)) = false := by decide) (hpl : ((backTo pos (starEach [] X.env)).any (·.1) || (backToKw pos (keywordEach kws X.env)).any (·.1.isNone)) = false := by rfl) :
    PE X (.Call (.Name x p) [] kws pos) (tMkK C sp rV tk) := by
  refine ⟨fun pins s σ H Q I h => ?_⟩
  refine wpAny_Call_Name_kw (ld_glob I hg hm ?_ hdb)
  refine PySem.W.callWith_KW0 (h₀ := X.base) I.ok.mod.kin T.ox.kC hall ?_ hpl
  refine thn (hkw.run pos pins s σ H _ I h) fun ws s2 ⟨zs, H2, I2, rz, q2⟩ => ⟨I2.kIn, ?_⟩
  rw [hks]
  exact run_mkE (us := []) T G hr I2 (Nat.zero_le _) (fun a => .cons rfl (hrel rz)) (fun a s' kin ll => hb a ws s' kin ll) q2
/-- C(), C without an __init__ of its own -/
def tMk0 (C : Addr) : TE := fun _ H Q => ∀ a, H a = none → Q (.ref a) (upd H a (exo a C none))
theorem pe_mk0 {bmB : List Value} {B newId initId : String} (F : ExcBaseFacts B newId initId bmB) (q : PySem.W.excIn X.K C bmB newId = true) (gC : X.mg x = some (.ref C)) (kC : PySem.W.keepIn X.K (.ref C) = true) (hg : Gl X x)
    (hdb : (x == ("__debug__" : Str)) = false := by decide) : PE X (.Call (.Name x p) [] [] pos) (tMk0 C) := by
  refine ⟨fun pins s σ H Q I h => ?_⟩
  refine wpAny_Call_Name_kw (ld_glob I hg gC ?_ hdb)
  refine PySem.W.callWith_K0 I.kIn kC ?_
  show wpAny _ _ (call (.ref C) []) _ _ _
  obtain ⟨bm, N, nm, qn, bs, hdct, sn, sub, ab, col, dd, k0, k1, k2, k3, k5, mN, hC, hN, hni, T⟩ := exc_obj I.kIn q
  refine wpAny_call_exc_subT F T hC hN hni (fun h' a hm => ?_) (Nat.zero_le _)
  have hn : H a = none := I.hok.gone hm.new
  obtain ⟨t0, ht, _, _⟩ := hm.there
  exact ⟨.ref a, upd H a (exo a C none), I.laidN hm.keeps hm.new hn (exo_ok ht), rfl, h a hn⟩
end
end Own

set_option Elab.async false
set_option linter.all false
set_option maxRecDepth 100000
set_option maxHeartbeats 4000000
/-! error classes whose __init__ keeps its arguments as fields: made by place and by names -/
namespace Own
open PySem PySem.Spec PyProof.Rows L2
/-- all but what stands at a (and tables) stays -/
def But1 (a : Addr) (H H' : Hp) : Prop := ∀ b o, b ≠ a → H b = some o → H' b = some o
def spInit1 (C : Addr) (f : Str) : Sp := fun vs H Q _ => ∃ (a : Addr) (v : V), vs = [.ref a, v] ∧ H a = some (exo a C none) ∧ ∀ H', But1 a H H' → ExcAt H' a C [(f, v)] → Q .non H'
def spInit2 (C : Addr) (f g : Str) : Sp := fun vs H Q _ => ∃ (a : Addr) (v w : V), vs = [.ref a, v, w] ∧ H a = some (exo a C none) ∧ ∀ H', But1 a H H' → ExcAt H' a C [(g, w), (f, v)] → Q .non H'
theorem init1_end {H : Hp} {a C dx : Addr} {f : Str} {v : V} (ha : H a = some (exo a C none)) (hd : H dx = none) (ne : dx ≠ a) :
    But1 a H (upd (upd H dx (exd dx [(f, v)])) a (exo a C (some dx))) ∧ ExcAt (upd (upd H dx (exd dx [(f, v)])) a (exo a C (some dx))) a C [(f, v)] := by
  refine ⟨fun b o hb e => ?_, ⟨some dx, upd_same, .inr ⟨dx, rfl, ?_⟩⟩⟩
  · rw [upd_ne hb, upd_ne (ne_of_none e hd)]
    exact e
  · rw [upd_ne ne]
    exact upd_same
theorem init2_end {H : Hp} {a C dx : Addr} {f g : Str} {v w : V} (ha : H a = some (exo a C none)) (hd : H dx = none) (ne : dx ≠ a) :
    But1 a H (upd (upd (upd H dx (exd dx [(f, v)])) a (exo a C (some dx))) dx (exd dx [(g, w), (f, v)])) ∧ ExcAt (upd (upd (upd H dx (exd dx [(f, v)])) a (exo a C (some dx))) dx (exd dx [(g, w), (f, v)])) a C [(g, w), (f, v)] := by
  refine ⟨fun b o hb e => ?_, ⟨some dx, ?_, .inr ⟨dx, rfl, upd_same⟩⟩⟩
  · have nb := ne_of_none e hd
    rw [upd_ne nb, upd_ne hb, upd_ne nb]
    exact e
  · rw [upd_ne ne.symm]
    exact upd_same
/-- what is known of a class of one field -/
structure E1 (P : Program) (w : World) (K : PySem.W.Frag) (mg : Str → Option Value) (base : Heap) (x f : Str) (C : Addr) : Prop where
  g : mg x = some (.ref C)
  ec : ExcC K C
  no : PySem.W.findIn K (.ref C) f = some none
  ex : ∃ (fI : Addr) (fd : FuncData), ExcI K C fI ∧ FnOk P w K mg base CX0 1 fI fd ["self", f] (spInit1 C f) ∧ Binds K fd ["self", f] [] ∧ ∀ (a : Addr) (u : Value) (s' : Shared), BindsTo s' fd ⟨[.ref a], [(f, u)]⟩ [("self", .ref a), (f, u)]
structure E2 (P : Program) (w : World) (K : PySem.W.Frag) (mg : Str → Option Value) (base : Heap) (x f h : Str) (C : Addr) : Prop where
  g : mg x = some (.ref C)
  ec : ExcC K C
  no : PySem.W.findIn K (.ref C) f = some none
  no2 : PySem.W.findIn K (.ref C) h = some none
  ex : ∃ (fI : Addr) (fd : FuncData), ExcI K C fI ∧ FnOk P w K mg base CX0 1 fI fd ["self", f, h] (spInit2 C f h) ∧ Binds K fd ["self", f, h] [] ∧ ∀ (a : Addr) (u v : Value) (s' : Shared), BindsTo s' fd ⟨[.ref a], [(h, v), (f, u)]⟩ [("self", .ref a), (f, u), (h, v)]
/-- a new exception that holds the value -/
def tE1 (C : Addr) (f : Str) (te : TE) : TE := fun σ H Q => te σ H fun v H1 => ∀ a H2, H1 a = none → (∀ b o, H1 b = some o → H2 b = some o) → ExcAt H2 a C [(f, v)] → Q (.ref a) H2
def tE2 (C : Addr) (f h : Str) (te tu : TE) : TE := fun σ H Q => te σ H fun v H1 => tu σ H1 fun u H2 => ∀ a H3, H2 a = none → (∀ b o, H2 b = some o → H3 b = some o) → ExcAt H3 a C [(h, u), (f, v)] → Q (.ref a) H3
def tE2k (C : Addr) (f h : Str) (te tu : TE) : TE := fun σ H Q => te σ H fun u H1 => tu σ H1 fun v H2 => ∀ a H3, H2 a = none → (∀ b o, H2 b = some o → H3 b = some o) → ExcAt H3 a C [(h, u), (f, v)] → Q (.ref a) H3
def tE0 (C : Addr) : TE := fun _ H Q => ∀ a H2, H a = none → (∀ b o, H b = some o → H2 b = some o) → ExcAt H2 a C [] → Q (.ref a) H2
theorem but_new {H H' : Hp} {a : Addr} {o : HO} (n : H a = none) (b : But1 a (upd H a o) H') : ∀ c u, H c = some u → H' c = some u := fun c u e => b c u (ne_of_none e n) (by rw [upd_ne (ne_of_none e n)]; exact e)
section
variable {X : Cx} {e e2 : Expr} {te tu : TE} {x f h : Str} {p pos kp kp2 : Pos} {C : Addr}
theorem PE.imp {t t' : TE} (hp : PE X e t) (k : ∀ σ H Q, t' σ H Q → t σ H Q) : PE X e t' := ⟨fun pins s σ H Q I q => hp.run pins s σ H Q I (k σ H Q q)⟩
theorem TE_mono_of {te : TE} : True := trivial
theorem pe_E1 (E : E1 X.prog X.w X.K X.mg X.base x f C) (hr : Room 2 X.A) (hg : Gl X x) (he : PE X e te) (mono : ∀ σ H Q Q', (∀ v H1, Q v H1 → Q' v H1) → te σ H Q → te σ H Q')
    (hdb : (x == ("__debug__" : Str)) = false := by decide) (hs : starEach [e] X.env = (false, eval e X.env) :: starEach [] X.env := by rfl) : PE X (.Call (.Name x p) [e] [] pos) (tE1 C f te) := by
  obtain ⟨fI, fd, T, G, hb, _⟩ := E.ex
  refine PE.imp (pe_mkE (k := 1) T G hr hb hg E.g (pa_cons he pa_nil hs) hdb hs (by rfl)) fun σ H Q q => ?_
  refine mono σ H _ _ (fun v H1 q1 => ?_) q
  refine ⟨by show 1 ≤ 1000; decide, fun a na => ⟨a, v, rfl, upd_same, fun H2 b x2 => ⟨rfl, q1 a H2 na (but_new na b) x2⟩⟩⟩
theorem pe_E1k (E : E1 X.prog X.w X.K X.mg X.base x f C) (hr : Room 2 X.A) (hg : Gl X x) (he : PE X e te) (mono : ∀ σ H Q Q', (∀ v H1, Q v H1 → Q' v H1) → te σ H Q → te σ H Q')
    (hdb : (x == ("__debug__" : Str)) = false := by decide) : PE X (.Call (.Name x p) [] [⟨some f, e, kp⟩] pos) (tE1 C f te) := by
  obtain ⟨fI, fd, T, G, _, hb⟩ := E.ex
  refine PE.imp (pe_mkK (k := 1) (ks := [f]) (r := id) (rV := id) T G hr (fun a ws s' _ hl => ?_) (fun z => z) hg E.g (pk_cons he pk_nil) (by rfl) (by rfl) hdb (by rfl)) fun σ H Q q => ?_
  · match ws, hl with
    | [u], _ => exact hb a u s'
  · refine mono σ H _ _ (fun v H1 q1 => ?_) q
    exact fun a na => ⟨a, v, rfl, upd_same, fun H2 b x2 => ⟨rfl, q1 a H2 na (but_new na b) x2⟩⟩
theorem pe_E2 (E : E2 X.prog X.w X.K X.mg X.base x f h C) (hr : Room 2 X.A) (hg : Gl X x) (he : PE X e te) (he2 : PE X e2 tu) (mono : ∀ σ H Q Q', (∀ v H1, Q v H1 → Q' v H1) → te σ H Q → te σ H Q') (mono2 : ∀ σ H Q Q', (∀ v H1, Q v H1 → Q' v H1) → tu σ H Q → tu σ H Q')
    (hdb : (x == ("__debug__" : Str)) = false := by decide) (hs : starEach [e, e2] X.env = (false, eval e X.env) :: starEach [e2] X.env := by rfl) (hs2 : starEach [e2] X.env = (false, eval e2 X.env) :: starEach [] X.env := by rfl) (hpl : (backTo pos (starEach [e2] X.env)).any (·.1) = false := by rfl) :
    PE X (.Call (.Name x p) [e, e2] [] pos) (tE2 C f h te tu) := by
  obtain ⟨fI, fd, T, G, hb, _⟩ := E.ex
  refine PE.imp (pe_mkE (k := 1) T G hr hb hg E.g (pa_cons he (pa_cons he2 pa_nil hs2) hs) hdb hs hpl) fun σ H Q q => ?_
  refine mono σ H _ _ (fun v H1 q1 => mono2 σ H1 _ _ (fun u H2 q2 => ?_) q1) q
  exact ⟨by show 2 ≤ 1000; decide, fun a na => ⟨a, v, u, rfl, upd_same, fun H3 b x3 => ⟨rfl, q2 a H3 na (but_new na b) x3⟩⟩⟩
/-- x(h = e, f = e2) -/
theorem pe_E2k (E : E2 X.prog X.w X.K X.mg X.base x f h C) (hr : Room 2 X.A) (hg : Gl X x) (he : PE X e te) (he2 : PE X e2 tu) (mono : ∀ σ H Q Q', (∀ v H1, Q v H1 → Q' v H1) → te σ H Q → te σ H Q') (mono2 : ∀ σ H Q Q', (∀ v H1, Q v H1 → Q' v H1) → tu σ H Q → tu σ H Q')
    (hdb : (x == ("__debug__" : Str)) = false := by decide) : PE X (.Call (.Name x p) [] [⟨some h, e, kp⟩, ⟨some f, e2, kp2⟩] pos) (tE2k C f h te tu) := by
  obtain ⟨fI, fd, T, G, _, hb⟩ := E.ex
  refine PE.imp (pe_mkK (k := 1) (ks := [h, f]) (r := List.reverse) (rV := List.reverse) T G hr (fun a ws s' _ hl => ?_) (fun z => ?_) hg E.g (pk_cons he (pk_cons he2 pk_nil)) (by rfl) (by rfl) hdb (by rfl)) fun σ H Q q => ?_
  · have hl2 : ws.length = 2 := by simpa using hl
    match ws, hl2 with
    | [u, v], _ => exact hb a v u s'
  · rename_i zs ws
    induction z with
    | nil => exact .nil
    | cons r1 r2 ih =>
      rw [List.reverse_cons, List.reverse_cons]
      exact ih.append (.cons r1 .nil)
  · refine mono σ H _ _ (fun u H1 q1 => mono2 σ H1 _ _ (fun v H2 q2 => ?_) q1) q
    exact fun a na => ⟨a, v, u, rfl, upd_same, fun H3 b x3 => ⟨rfl, q2 a H3 na (but_new na b) x3⟩⟩
theorem pe_E0 {bmB : List Value} {B newId initId : String} (F : ExcBaseFacts B newId initId bmB) (q : PySem.W.excIn X.K C bmB newId = true) (gC : X.mg x = some (.ref C)) (kC : PySem.W.keepIn X.K (.ref C) = true) (hg : Gl X x)
    (hdb : (x == ("__debug__" : Str)) = false := by decide) : PE X (.Call (.Name x p) [] [] pos) (tE0 C) := by
  refine PE.imp (pe_mk0 F q gC kC hg hdb) fun σ H Q q a na => q a _ na (fun b o z => ?_) ⟨none, upd_same, .inl ⟨rfl, rfl⟩⟩
  rw [upd_ne (ne_of_none z na)]
  exact z
end
theorem mono_var (i : Nat) : ∀ (σ : L2.St) (H : Hp) (Q Q' : VK), (∀ v H1, Q v H1 → Q' v H1) → tVar i σ H Q → tVar i σ H Q' := fun σ H Q Q' k ⟨v, h, q⟩ => ⟨v, h, k _ _ q⟩
end Own

set_option Elab.async false
set_option linter.all false
set_option maxRecDepth 100000
set_option maxHeartbeats 4000000
/-! raise C(e), C an error class of one field: the error's own dict is new and holds the value -/
namespace Own
open PySem PySem.Spec PyProof.Rows L2
def spIni (C : Addr) (f : Str) : Sp := fun vs H Q _ => ∃ (a : Addr) (v : V), vs = [.ref a, v] ∧ H a = some (exo a C none) ∧ ∀ dx, H dx = none → dx ≠ a → Q .non (upd (upd H dx (exd dx [(f, v)])) a (exo a C (some dx)))
/-- what is known of a class of one field that is raised -/
structure EI (P : Program) (w : World) (K : PySem.W.Frag) (mg : Str → Option Value) (base : Heap) (x f : Str) (C : Addr) : Prop where
  g : mg x = some (.ref C)
  ex : ∃ (fI : Addr) (fd : FuncData), ExcI K C fI ∧ FnOk P w K mg base CX0 1 fI fd ["self", f] (spIni C f) ∧ Binds K fd ["self", f] []
def tRs (C : Addr) (f : Str) (te : TE) : L2.St → Hp → XK → Prop := fun σ H Q => te σ H fun v H1 => ∀ d H2, H1 d = none → (∀ b o, H1 b = some o → H2 b = some o) → H2 d = some (.xd [(f, v)]) → Q (.ref C) (some d) H2
section
variable {X : Cx} {e : Expr} {te : TE} {x f : Str} {p pos pos2 : Pos} {C : Addr}
theorem pmk_EI (E : EI X.prog X.w X.K X.mg X.base x f C) (hr : Room 2 X.A) (hg : Gl X x) (he : PE X e te) (mono : ∀ σ H Q Q', (∀ v H1, Q v H1 → Q' v H1) → te σ H Q → te σ H Q')
    (hdb : (x == ("__debug__" : Str)) = false := by decide) (hs : starEach [e] X.env = (false, eval e X.env) :: starEach [] X.env := by rfl) (hpl : (backTo pos (starEach [] X.env)).any (·.1) = false := by rfl) : PMk X (.Call (.Name x p) [e] [] pos) (tRs C f te) := by
  obtain ⟨fI, fd, T, G, hb⟩ := E.ex
  intro pins s σ H Q I h
  refine pmk_oex (CX := CX0) (ps := ["self", f]) (dvs := []) T.ox T.init T.fn G hr hb .nil pass0 hg E.g (pa_cons he pa_nil hs) hdb hs hpl pins s σ H Q I ?_
  refine mono σ H _ _ (fun v H1 q1 => ?_) h
  refine ⟨by show 1 ≤ 1000; decide, fun a na => ⟨a, v, rfl, upd_same, fun dx nd ne => ⟨rfl, dx, [(f, v)], upd_same, ?_, ?_, ?_⟩⟩⟩
  · rw [upd_ne ne]
    exact upd_same
  · rw [upd_ne ne] at nd
    exact nd
  · have nd1 : H1 dx = none := by
      rw [upd_ne ne] at nd
      exact nd
    refine q1 dx _ nd1 (fun b o e => ?_) upd_same
    have n1 := ne_of_none e nd1
    have n2 := ne_of_none e na
    rw [upd_ne n1, del_ne n2, upd_ne n2, upd_ne n1, upd_ne n2]
    exact e
theorem ps_EI {W : WX} (hc : X.calm = true) (tk : Takes X W) (E : EI X.prog X.w X.K X.mg X.base x f C) (hr : Room 2 X.A) (hg : Gl X x) (he : PE X e te) (mono : ∀ σ H Q Q', (∀ v H1, Q v H1 → Q' v H1) → te σ H Q → te σ H Q')
    (hdb : (x == ("__debug__" : Str)) = false := by decide) (hs : starEach [e] X.env = (false, eval e X.env) :: starEach [] X.env := by rfl) (hpl : (backTo pos (starEach [] X.env)).any (·.1) = false := by rfl) :
    PS X (.Raise (some (.Call (.Name x p) [e] [] pos)) none pos2) (fun _ σ H => tRs C f te σ H fun cls d H' => W cls d σ H') := ps_raise hc tk (pmk_EI E hr hg he mono hdb hs hpl)
end
end Own

set_option Elab.async false
set_option linter.all false
set_option maxRecDepth 100000
set_option maxHeartbeats 4000000
/-! try: .. except A as n: .. except B as n: .. (several clauses, each with its name) -/
namespace Own
open PySem PySem.Spec PyProof.Rows L2
abbrev Sui := Addr → Value → Option Addr → TS
/-- behind a suite its name's slot is empty -/
def gone (i : Nat) (D : Ends) : Ends := { nx := fun σ H => D.nx (σ.set i none) H, rt := D.rt, bk := fun σ H => D.bk (σ.set i none) H, ct := fun σ H => D.ct (σ.set i none) H }
/-- what the clauses wish, one behind the other: class, slot of the name, suite -/
def wAll (K : PySem.W.Frag) (out : WX) (D : Ends) : List (Value × Nat × Sui) → WX
  | [] => out
  | (c, i, ts) :: r => fun k d σ H => ∃ b, PySem.W.exmOne K k c = some b ∧ (b = true → ∀ a, H a = none → ts a k d (gone i D) (σ.set i (some (.ref a))) H) ∧ (b = false → wAll K out D r k d σ H)
inductive Clauses (X : Cx) : List ExceptHandler → List (Value × Nat × Sui) → Prop
  | nil : Clauses X [] []
  | cons {x n : Str} {c : Value} {i : Nat} {ts : Sui} {b : Stmt} {bs : List Stmt} {p q : Pos} {hs : List ExceptHandler} {l : List (Value × Nat × Sui)} (names : Names X x c) (slot : X.N[i]? = some n) (loc : X.env.kindOf n = some .local)
      (body : ∀ (a : Addr) (o : Obj) (k : Value) (d : Option Addr) (pn : List (Addr × Obj)), Zc k d o → (∃ vs, o.data = .fields vs) → PSs (X.suite a ((a, o) :: pn)) (b :: bs) (ts a k d)) (rest : Clauses X hs l) :
      Clauses X (.ExceptHandler (some (.Name x p)) (some n) (b :: bs) q :: hs) ((c, i, ts) :: l)
/-- an exception of the class k (its dict d) lies at a, caught by this frame; sI is the state without it -/
structure Come (X : Cx) (pins : List (Addr × Obj)) (σ : L2.St) (H : Hp) (B : Heap) (a : Addr) (k : Value) (d : Option Addr) (sI s : Shared) : Prop where
  inv : Inv X pins σ H sI
  base : ∀ c o, sI.heap.get? c = some o → c ∉ frs X.stack → B.get? c = some o
  fly : HandSPX.FlyingZ B (X.env :: X.outer) a (Zc k d) s.heap
  slots : sI.heap.UpToSlots s.heap
  off : H a = none
  os : s.os = sI.os
  bare : AllBare s.gens
section
variable {X : Cx} {pins : List (Addr × Obj)} {σ : L2.St} {H : Hp} {B : Heap} {a : Addr} {k : Value} {d : Option Addr} {sI s : Shared}
theorem Come.now (c : Come X pins σ H B a k d sI s) : Inv X pins σ H s := Inv.landed c.inv c.base c.fly.1 c.slots c.os c.bare
theorem Come.again (c : Come X pins σ H B a k d sI s) {h : Heap} (f : HandSPX.FlyingZ B (X.env :: X.outer) a (Zc k d) h) (u : s.heap.UpToSlots h) : Come X pins σ H B a k d sI { s with heap := h } :=
  ⟨c.inv, c.base, f, Heap.UpToSlots.trans c.slots u, c.off, c.os, c.bare⟩
theorem Come.held (c : Come X pins σ H B a k d sI s) (hf : X.env.frame = some X.env.locals) : ∃ o vs, s.heap.get? a = some o ∧ Zc k d o ∧ o.data = .fields vs ∧ Inv (X.suite a ((a, o) :: (X.pn ++ pins))) [] σ H s := by
  obtain ⟨o, vs, e, z, dt⟩ := c.fly.there
  have out : a ∉ frs (X.env :: X.outer) := by
    intro m
    obtain ⟨_, o2, e2, bad⟩ := c.fly.2.2.1.mem m
    rw [e] at e2
    rw [← Option.some.inj e2] at bad
    exact bad _ dt
  have mem : ∀ v ∈ X.env :: X.outer, v.frame = some a → False := fun v hv e3 => out (List.mem_filterMap.mpr ⟨v, hv, e3⟩)
  refine ⟨o, vs, e, z, dt, Inv.suite c.now e dt c.off (fun q => mem X.env List.mem_cons_self (by rw [hf, q])) fun q => ?_⟩
  obtain ⟨v, hv, e3⟩ := List.mem_filterMap.mp q
  exact mem v (List.mem_cons_of_mem _ hv) e3
theorem run_clauses {hds : List ExceptHandler} {l : List (Value × Nat × Sui)} {out : WX} {D : Ends} (st : X.stack = X.env :: X.outer) (hf : X.env.frame = some X.env.locals) (nd : X.N.Nodup) (tk : Takes X out) (C : Clauses X hds l) (c : Come X pins σ H B a k d sI s)
    (w : wAll X.K out D l k d σ H) : wpAny (model X.prog X.w) X.A (handleBy (.ref a) X.env hds) (SP X pins D) X.xe s := by
  have ok := c.inv.ok
  induction C with
  | nil =>
    obtain ⟨_, _, _, o, vs, T, oT, ts, e, z, dt, e1, _⟩ := id c.fly
    refine wpAny_handleBy_nil ?_
    unfold PySem.passOn
    refine wpAny_bind (wpAny_field e dt e1 ?_)
    have noT : ¬ (Value.ref T == Value.none) = true := by simp
    rw [if_neg noT]
    have go : wpAny (model X.prog X.w) X.A (setFlight (.ref a) X.env.frame) (fun _ s2 => wpAny (model X.prog X.w) X.A (throw (.ref a) : Sem Flow) (SP X pins D) X.xe s2) X.xe s := by
      rw [hf]
      refine HandSPX.setFlight_upZ c.fly fun g hg ug => wpAny_throw (tk _ _ ⟨a, B, sI, pins, σ, H, k, d, rfl, c.inv, c.base, Heap.UpToSlots.trans c.slots ug, .inr (.inr ?_), c.off, c.os, c.bare, w⟩)
      rw [st]
      exact hg
    first
      | exact wpAny_bind (wpAny_pure (wpAny_bind go))
      | exact wpAny_bind go
  | @cons x n cv i ts b0 bs p q hs2 l2 names slot loc body rest ih =>
    obtain ⟨b, hit, yes, no⟩ := w
    obtain ⟨o, vs, e, z, dt, S⟩ := c.held hf
    refine wpAny_handleBy_cons (codeAny_handlers_test ?_) (fun q => by cases q)
    have ty : PySem.W.Looks (model X.prog X.w) s.heap (typeOf (.ref a)) k := by
      intro A Q E s2 keep q
      refine wpAny_typeOf_ref (keep _ _ e) ?_
      rw [z.1]
      exact q
    have look := PySem.W.exm_one (M := model X.prog X.w) c.now.kIn ty hit
    have named : ∀ {Q E : Value → Shared → Prop}, Q cv s → wpAny (model X.prog X.w) (X.A.mark (some (.ref a))) (eval (.Name x p) X.env) Q E s := by
      intro Q E q
      obtain ⟨h1, h2, h3⟩ := names
      rcases h3 with h3 | ⟨h3, h4, h5⟩
      · exact ld_glob (X := X.suite a ((a, o) :: (X.pn ++ pins))) S h1 h3 q h2
      · exact ld_blt (X := X.suite a ((a, o) :: (X.pn ++ pins))) S h1 h3 h4 q h5 h2
    refine named (look.here ?_)
    cases b with
    | false => exact ih (no rfl)
    | true =>
      refine codeAny_handlers_suite_as (HandSPX.lands_againZ c.fly fun g fg ug => ?_)
      have c2 := c.again fg ug
      obtain ⟨o2, vs2, e2, z2, dt2, S2⟩ := c2.held hf
      refine store_ok (X := X.suite a ((a, o2) :: (X.pn ++ pins))) (v := .ref a) S2 nd slot (.inl loc) rfl (fun s5 S5 => ?_) (.inr loc)
      refine wpAny_mono ((body a o2 k d (X.pn ++ pins) z2 ⟨_, dt2⟩).run [] s5 _ H _ S5 (yes rfl a c.off)) (fun f s6 r => ?_) fun _ _ bad => bad.elim
      have leave : ∀ {σ6 : L2.St} {H6 : Hp} {R : Shared → Prop}, Inv (X.suite a ((a, o2) :: (X.pn ++ pins))) [] σ6 H6 s6 → (∀ s7, Inv X pins (σ6.set i none) H6 s7 → R s7) → wpAny (model X.prog X.w) X.A (do bindName X.env n .none; unbindBehindTheSuite X.env n q) (fun _ s7 => R s7) X.xe s6 := by
        intro σ6 H6 R S6 r
        exact gone_ok (Inv.unsuite S6 ok) nd slot loc r
      match f, r with
      | .next, ⟨_, _, S6, r⟩ => exact leave S6 fun _ J => ⟨_, _, J, r⟩
      | .brk, ⟨_, _, S6, r⟩ => exact leave S6 fun _ J => ⟨_, _, J, r⟩
      | .cont, ⟨_, _, S6, r⟩ => exact leave S6 fun _ J => ⟨_, _, J, r⟩
      | .ret u, ⟨_, _, _, S6, rv, r⟩ => exact leave S6 fun _ J => ⟨_, _, _, J, rv, r⟩
theorem ps_tryAll {body : List Stmt} {h0 : ExceptHandler} {hds : List ExceptHandler} {l : List (Value × Nat × Sui)} {pos : Pos} {tb : WX → TS} {out : WX} (st : X.stack = X.env :: X.outer) (hf : X.env.frame = some X.env.locals) (nd : X.N.Nodup) (tk : Takes X out)
    (hb : ∀ (W : WX) (pn : List (Addr × Obj)) (xe : Value → Shared → Prop), Takes (X.tr pn xe) W → PassesOwn (model X.prog X.w) X.A X.env xe → PSs (X.tr pn xe) body (tb W)) (C : Clauses X (h0 :: hds) l) :
    PS X (.Try body (h0 :: hds) [] [] pos) (fun D σ H => tb (fun k d σ1 H1 => σ1.length = X.N.length → wAll X.K out D l k d σ1 H1) D σ H) := by
  refine ⟨fun pins s σ H D I w => wpAny_Try_except ?_⟩
  have ok := I.ok
  have fr : X.A.frames = some (X.env :: X.outer) := by rw [ok.frames, st]
  let xe : Value → Shared → Prop := fun e s1 => wpAny (model X.prog X.w) X.A (noteFrame e X.env) (fun _ s2 => wpAny (model X.prog X.w) X.A (setFlight e none) (fun _ s3 => wpAny (model X.prog X.w) X.A (handleBy e X.env (h0 :: hds)) (SP X pins D) X.xe s3) X.xe s2) X.xe s1
  have tk2 : Takes (X.tr (X.pn ++ pins) xe) (fun k d σ1 H1 => σ1.length = X.N.length → wAll X.K out D l k d σ1 H1) := by
    rintro u s1 ⟨a, B, sI, pins1, σ1, H1, k, d, rfl, J, nb, up, sky, na, os, ag, w1⟩
    have sky1 : Sky B (X.env :: X.outer) a (Zc k d) X.env.locals s1.heap := by
      rw [← st]
      exact sky
    refine Sky.land Zc.steady fr hf sky1 fun g fg ug => ?_
    exact run_clauses st hf nd tk C ⟨Inv.ofTry J ok, nb, fg, Heap.UpToSlots.trans up ug, na, os, ag⟩ (w1 J.len)
  refine wpAny_mono ((hb _ (X.pn ++ pins) xe tk2 PassesOwn.looking).run [] s σ H D (Inv.toTry I _) w) (fun f s1 r => ?_) fun _ _ x => x
  match f, r with
  | .next, ⟨_, _, J, r⟩ => exact wpAny_execs_nil ⟨_, _, Inv.ofTry J ok, r⟩
  | .brk, ⟨_, _, J, r⟩ => exact ⟨_, _, Inv.ofTry J ok, r⟩
  | .cont, ⟨_, _, J, r⟩ => exact ⟨_, _, Inv.ofTry J ok, r⟩
  | .ret u, ⟨_, _, _, J, rv, r⟩ => exact ⟨_, _, _, Inv.ofTry J ok, rv, r⟩
end
end Own

set_option Elab.async false
set_option linter.all false
set_option maxRecDepth 100000
set_option maxHeartbeats 4000000
/-! try: .. except A as n: .. except ..: of several clauses the first one always meets what comes -/
namespace Own
open PySem PySem.Spec PyProof.Rows L2
section
variable {X : Cx} {pins : List (Addr × Obj)} {σ : L2.St} {H : Hp} {B : Heap} {a : Addr} {k : Value} {d : Option Addr} {sI s : Shared}
theorem run_first {D : Ends} {x n : Str} {cv : Value} {i : Nat} {ts : Sui} {b0 : Stmt} {bs : List Stmt} {p q : Pos} {hds : List ExceptHandler} (hf : X.env.frame = some X.env.locals) (nd : X.N.Nodup)
    (names : Names X x cv) (slot : X.N[i]? = some n) (loc : X.env.kindOf n = some .local)
    (body : ∀ (a : Addr) (o : Obj) (k : Value) (d : Option Addr) (pn : List (Addr × Obj)), Zc k d o → (∃ vs, o.data = .fields vs) → PSs (X.suite a ((a, o) :: pn)) (b0 :: bs) (ts a k d))
    (c : Come X pins σ H B a k d sI s) (hit : PySem.W.exmOne X.K k cv = some true) (yes : ∀ a, H a = none → ts a k d (gone i D) (σ.set i (some (.ref a))) H) :
    wpAny (model X.prog X.w) X.A (handleBy (.ref a) X.env (.ExceptHandler (some (.Name x p)) (some n) (b0 :: bs) q :: hds)) (SP X pins D) X.xe s := by
  have ok := c.inv.ok
  obtain ⟨o, vs, e, z, dt, S⟩ := c.held hf
  refine wpAny_handleBy_cons (codeAny_handlers_test ?_) (fun q => by cases q)
  have ty : PySem.W.Looks (model X.prog X.w) s.heap (typeOf (.ref a)) k := by
    intro A Q E s2 keep q
    refine wpAny_typeOf_ref (keep _ _ e) ?_
    rw [z.1]
    exact q
  have look := PySem.W.exm_one (M := model X.prog X.w) c.now.kIn ty hit
  have named : ∀ {Q E : Value → Shared → Prop}, Q cv s → wpAny (model X.prog X.w) (X.A.mark (some (.ref a))) (eval (.Name x p) X.env) Q E s := by
    intro Q E q
    obtain ⟨h1, h2, h3⟩ := names
    rcases h3 with h3 | ⟨h3, h4, h5⟩
    · exact ld_glob (X := X.suite a ((a, o) :: (X.pn ++ pins))) S h1 h3 q h2
    · exact ld_blt (X := X.suite a ((a, o) :: (X.pn ++ pins))) S h1 h3 h4 q h5 h2
  refine named (look.here ?_)
  refine codeAny_handlers_suite_as (HandSPX.lands_againZ c.fly fun g fg ug => ?_)
  have c2 := c.again fg ug
  obtain ⟨o2, vs2, e2, z2, dt2, S2⟩ := c2.held hf
  refine store_ok (X := X.suite a ((a, o2) :: (X.pn ++ pins))) (v := .ref a) S2 nd slot (.inl loc) rfl (fun s5 S5 => ?_) (.inr loc)
  refine wpAny_mono ((body a o2 k d (X.pn ++ pins) z2 ⟨_, dt2⟩).run [] s5 _ H _ S5 (yes a c.off)) (fun f s6 r => ?_) fun _ _ bad => bad.elim
  have leave : ∀ {σ6 : L2.St} {H6 : Hp} {R : Shared → Prop}, Inv (X.suite a ((a, o2) :: (X.pn ++ pins))) [] σ6 H6 s6 → (∀ s7, Inv X pins (σ6.set i none) H6 s7 → R s7) → wpAny (model X.prog X.w) X.A (do bindName X.env n .none; unbindBehindTheSuite X.env n q) (fun _ s7 => R s7) X.xe s6 := by
    intro σ6 H6 R S6 r
    exact gone_ok (Inv.unsuite S6 ok) nd slot loc r
  match f, r with
  | .next, ⟨_, _, S6, r⟩ => exact leave S6 fun _ J => ⟨_, _, J, r⟩
  | .brk, ⟨_, _, S6, r⟩ => exact leave S6 fun _ J => ⟨_, _, J, r⟩
  | .cont, ⟨_, _, S6, r⟩ => exact leave S6 fun _ J => ⟨_, _, J, r⟩
  | .ret u, ⟨_, _, _, S6, rv, r⟩ => exact leave S6 fun _ J => ⟨_, _, _, J, rv, r⟩
/-- what the first clause wishes -/
def wFirst (K : PySem.W.Frag) (D : Ends) (c : Value) (i : Nat) (ts : Sui) : WX := fun k d σ H => PySem.W.exmOne K k c = some true ∧ ∀ a, H a = none → ts a k d (gone i D) (σ.set i (some (.ref a))) H
theorem ps_tryFirst {body : List Stmt} {x n : Str} {cv : Value} {i : Nat} {ts : Sui} {b0 : Stmt} {bs : List Stmt} {p q : Pos} {hds : List ExceptHandler} {pos : Pos} {tb : WX → TS} (st : X.stack = X.env :: X.outer) (hf : X.env.frame = some X.env.locals) (nd : X.N.Nodup)
    (hb : ∀ (W : WX) (pn : List (Addr × Obj)) (xe : Value → Shared → Prop), Takes (X.tr pn xe) W → PassesOwn (model X.prog X.w) X.A X.env xe → PSs (X.tr pn xe) body (tb W))
    (names : Names X x cv) (slot : X.N[i]? = some n) (loc : X.env.kindOf n = some .local)
    (hs : ∀ (a : Addr) (o : Obj) (k : Value) (d : Option Addr) (pn : List (Addr × Obj)), Zc k d o → (∃ vs, o.data = .fields vs) → PSs (X.suite a ((a, o) :: pn)) (b0 :: bs) (ts a k d)) :
    PS X (.Try body (.ExceptHandler (some (.Name x p)) (some n) (b0 :: bs) q :: hds) [] [] pos) (fun D σ H => tb (fun k d σ1 H1 => σ1.length = X.N.length → wFirst X.K D cv i ts k d σ1 H1) D σ H) := by
  refine ⟨fun pins s σ H D I w => wpAny_Try_except ?_⟩
  have ok := I.ok
  have fr : X.A.frames = some (X.env :: X.outer) := by rw [ok.frames, st]
  let xe : Value → Shared → Prop := fun e s1 => wpAny (model X.prog X.w) X.A (noteFrame e X.env) (fun _ s2 => wpAny (model X.prog X.w) X.A (setFlight e none) (fun _ s3 => wpAny (model X.prog X.w) X.A (handleBy e X.env (.ExceptHandler (some (.Name x p)) (some n) (b0 :: bs) q :: hds)) (SP X pins D) X.xe s3) X.xe s2) X.xe s1
  have tk2 : Takes (X.tr (X.pn ++ pins) xe) (fun k d σ1 H1 => σ1.length = X.N.length → wFirst X.K D cv i ts k d σ1 H1) := by
    rintro u s1 ⟨a, B, sI, pins1, σ1, H1, k, d, rfl, J, nb, up, sky, na, os, ag, w1⟩
    have sky1 : Sky B (X.env :: X.outer) a (Zc k d) X.env.locals s1.heap := by
      rw [← st]
      exact sky
    refine Sky.land Zc.steady fr hf sky1 fun g fg ug => ?_
    obtain ⟨hit, yes⟩ := w1 J.len
    exact run_first hf nd names slot loc hs ⟨Inv.ofTry J ok, nb, fg, Heap.UpToSlots.trans up ug, na, os, ag⟩ hit yes
  refine wpAny_mono ((hb _ (X.pn ++ pins) xe tk2 PassesOwn.looking).run [] s σ H D (Inv.toTry I _) w) (fun f s1 r => ?_) fun _ _ x => x
  match f, r with
  | .next, ⟨_, _, J, r⟩ => exact wpAny_execs_nil ⟨_, _, Inv.ofTry J ok, r⟩
  | .brk, ⟨_, _, J, r⟩ => exact ⟨_, _, Inv.ofTry J ok, r⟩
  | .cont, ⟨_, _, J, r⟩ => exact ⟨_, _, Inv.ofTry J ok, r⟩
  | .ret u, ⟨_, _, _, J, rv, r⟩ => exact ⟨_, _, _, Inv.ofTry J ok, rv, r⟩
end
end Own

set_option Elab.async false
set_option linter.all false
set_option maxRecDepth 100000
/-! a block of which a statement always leaves: what stands behind it needs no term -/
namespace Own
open PySem PySem.Spec PyProof.Rows L2
def tStop (t : TS) : TS := fun D σ H => t { D with nx := fun _ _ => False } σ H
theorem pss_stop {X : Cx} {st : Stmt} {rest : List Stmt} {t : TS} (h1 : PS X st t) : PSs X (st :: rest) (tStop t) := by
  refine ⟨fun pins s σ H D I h => ?_⟩
  refine wpAny_execs_cons (thn (h1.run pins s σ H { D with nx := fun _ _ => False } I h) fun f s1 q => ?_)
  cases f with
  | next =>
    obtain ⟨_, _, _, q⟩ := q
    exact q.elim
  | ret v => exact q
  | brk => exact q
  | cont => exact q
end Own

set_option Elab.async false
set_option linter.all false
set_option maxRecDepth 100000
/-! f(k = v, ..): a def called with keywords alone -/
namespace Own
open PySem PySem.Spec PyProof.Rows L2
def tCallK0 (m : Nat) (sp : Sp) (gV : List V → List V → List V) (E : XK) (tk : TA) : TE := fun σ H Q => tk σ H fun zs H2 => zs.length = m ∧ sp (gV [] zs) H2 Q E
theorem pe_callK0 {X : Cx} {CX : CXT} {k : Nat} {f : Addr} {fd : FuncData} {ps ks : List Str} {sp : Sp} {E : XK} {x : Str} {p pos : Pos} {kws : List Keyword} {tk : TA} {g : List Value → List Value → List Value} {gV : List V → List V → List V}
    (F : FnOk X.prog X.w X.K X.mg X.base CX k f fd ps sp) (hr : Room k X.A) (hg : Gl X x) (hm : X.mg x = some (.ref f)) (hk : PySem.W.keepIn X.K (.ref f) = true) (hb : KBn X.K fd ps 0 ks g gV) (hx : Passes CX X E) (hkw : PK X kws tk)
    (hall : (backToKw pos (keywordEach kws X.env)).all (·.1.isSome) = true := by rfl) (hks : (backToKw pos (keywordEach kws X.env)).filterMap (·.1) = ks := by rfl) (hdb : (x == ("__debug__" : Str)) = false := by decide)
    (hpl : ((backTo pos (starEach [] X.env)).any (·.1) || (backToKw pos (keywordEach kws X.env)).any (·.1.isNone)) = false := by rfl) :
    PE X (.Call (.Name x p) [] kws pos) (tCallK0 ks.length sp gV E tk) := by
  refine ⟨fun pins s σ H Q I h => ?_⟩
  refine wpAny_Call_Name_kw (ld_glob I hg hm ?_ hdb)
  refine PySem.W.callWith_KW0 (h₀ := X.base) I.ok.mod.kin hk hall ?_ hpl
  refine thn (hkw.run pos pins s σ H _ I h) fun ws s2 ⟨zs, H2, I2, rz, l2, q2⟩ => ⟨I2.kIn, ?_⟩
  rw [hks]
  exact run_fnN (us := []) (vs := []) F hr hb hx I2 .nil rz rfl l2 q2
end Own

set_option Elab.async false
set_option linter.all false
set_option maxRecDepth 100000
set_option maxHeartbeats 2000000
/-! He.hookX over a part of the heap of one's own choice -/
namespace Own
open PySem PySem.Spec PyProof.Rows L2 He
def asN (names : List Str) (n : Nat) (g : Addr → Option Obj) : List Addr := mainGlobals :: Nat.rec (names.map fun x => ga (frG g [mainGlobals]) x) (fun _ as => growD g as) n
section
variable (as : (Addr → Option Obj) → List Addr)
def obsY (fa : List Fa) (fn : List DefD) (ts : List Tab) (tf : List Defn) (ex : PySem.W.Frag → Bool) (g : Addr → Option Obj) : AlX := (obsT fa fn ts (frT g (as g)), ex (frT g (as g)) && tabsB g tf (frT g (as g)))
theorem saysY_of {fa : List Fa} {fn : List DefD} {ts : List Tab} {tf : List Defn} {ex : PySem.W.Frag → Bool} {w : World} {h : Heap} (e : obsY as fa fn ts tf ex h.get? = valX fn ts w) : SaysX fa fn ts tf ex w h (frT h.get? (as h.get?)) := by
  have e1 : obsT fa fn ts (frT h.get? (as h.get?)) = valT fn ts w := congrArg (fun z : AlX => z.1) e
  have e2 : (ex (frT h.get? (as h.get?)) && tabsB h.get? tf (frT h.get? (as h.get?))) = true := congrArg (fun z : AlX => z.2) e
  obtain ⟨h1, h2⟩ := ba e2
  have key : ∀ p ∈ tf, PySem.W.codeHdIn (frT h.get? (as h.get?)) (cT (frT h.get? (as h.get?)) p).1 (cT (frT h.get? (as h.get?)) p).2 = true ∧ ∃ o, h.get? (cT (frT h.get? (as h.get?)) p).2 = some o ∧ emptyTab o = true := fun p hp => by
    obtain ⟨h3, h4⟩ := ba (List.all_eq_true.mp h2 p hp)
    refine ⟨h3, ?_⟩
    cases q : h.get? (cT (frT h.get? (as h.get?)) p).2 with
    | none =>
      rw [q] at h4
      cases h4
    | some o =>
      rw [q] at h4
      exact ⟨o, rfl, h4⟩
  exact ⟨e1, h1, fun p hp => (key p hp).1, fun p hp => by
    obtain ⟨_, o, q, z⟩ := key p hp
    exact frT_none q z, fun p hp => by
    obtain ⟨_, o, q, z⟩ := key p hp
    rw [q, emptyTab_eq z]⟩
def hookY (fa : List Fa) (fn : List DefD) (ts : List Tab) (tf : List Defn) (ex : PySem.W.Frag → Bool) : PySem.W.Hook where
  α := AlX
  obs := fun s => obsY as fa fn ts tf ex s.heap.get?
  val := fun w => valX fn ts w
  says := fun w h => ∃ K : PySem.W.Frag, K.In h ∧ SaysX fa fn ts tf ex w h K
  of := fun _ _ e => ⟨_, frT_in, saysY_of as e⟩
  keeps := fun _ _ _ ⟨K, hK, c⟩ k => ⟨K, PySem.W.Frag.In.keeps hK k, ⟨c.t, c.more, c.hd, c.out, fun p hp => k _ _ (c.empty p hp)⟩⟩
theorem obsY_eq {fa : List Fa} {fn : List DefD} {ts : List Tab} {tf : List Defn} {ex : PySem.W.Frag → Bool} {g : Addr → Option Obj} {s : Shared} (h : ∀ a, g a = s.heap.get? a) : obsY as fa fn ts tf ex g = (hookY as fa fn ts tf ex).obs s := by
  have e : g = s.heap.get? := funext h
  rw [e] <;> rfl
end
end Own

set_option Elab.async false
set_option linter.all false
set_option maxRecDepth 100000
set_option maxHeartbeats 4000000
/-! a long top in three runs of the kernel: to a state that is written out, from it to another one, and from that to the end -/
namespace Own.Three
open PySem PySem.W PySem.Calls PyProof.Rows HandSHeadRun
section
variable (st : SharedT → Thread → Option (SharedT × Thread)) (n0 : Nat) (ann : Option Value)
/-- so many steps -/
def goK : Nat → SharedT → Thread → Option (SharedT × Thread)
  | 0, s, t => some (s, t)
  | m + 1, s, t => match through t with
    | true => none
    | false => match stepOk n0 ann t with
      | false => none
      | true => match st s t with
        | some r => frS r.1 fun s' => goK m s' r.2
        | none => none
/-- a segment, to its end -/
def segF : Nat → SharedT → Thread → Option (Flow × SharedT × Code × Pos)
  | 0, _, _ => none
  | m + 1, s, t => match endAt 1 t with
    | some f => some (f, s, t.code, t.pos)
    | none => match stepOk n0 ann t with
      | false => none
      | true => match st s t with
        | some r => frS r.1 fun s' => segF m s' r.2
        | none => none
end
section
variable {tb : String → Option Builtin} {p : Program} {w : World} {n0 : Nat} {ann : Option Value}
theorem goK_ok : ∀ {m : Nat} {s s' : SharedT} {t t' : Thread}, goK (stepT (denote tb) p w) n0 ann m s t = some (s', t') → topGo tb p w n0 ann m s.abs t = some (s'.abs, t')
  | 0, s, s', t, t', h => by
    cases h
    rfl
  | m + 1, s, s', t, t', h => by
    unfold goK at h
    unfold topGo
    cases e1 : through t with
    | true =>
      rw [e1] at h
      cases h
    | false =>
      rw [e1] at h
      cases e2 : stepOk n0 ann t with
      | false =>
        rw [e2] at h
        cases h
      | true =>
        rw [e2] at h
        cases e3 : stepT (denote tb) p w s t with
        | none =>
          rw [e3] at h
          cases h
        | some r =>
          obtain ⟨s2, t2⟩ := r
          rw [e3] at h
          have h2 : goK (stepT (denote tb) p w) n0 ann m s2 t2 = some (s', t') := (frS_eq s2 _).symm.trans h
          have h3 := goK_ok h2
          show (match step (denote tb) p w s.abs t with
            | .go s' t' => topGo tb p w n0 ann m s' t'
            | .halt _ _ => none) = some (s'.abs, t')
          rw [stepT_spec e3]
          exact h3
theorem segF_ok : ∀ {m : Nat} {s s' : SharedT} {t : Thread} {f : Flow} {c : Code} {q : Pos}, segF (stepT (denote tb) p w) n0 ann m s t = some (f, s', c, q) → segRun tb p w n0 ann 1 m s.abs t = some (f, s'.abs, c, q)
  | 0, _, _, _, _, _, _, h => by cases h
  | m + 1, s, s', t, f, c, q, h => by
    unfold segF at h
    unfold segRun
    cases e1 : endAt 1 t with
    | some x =>
      rw [e1] at h
      cases h
      rfl
    | none =>
      rw [e1] at h
      cases e2 : stepOk n0 ann t with
      | false =>
        rw [e2] at h
        cases h
      | true =>
        rw [e2] at h
        cases e3 : stepT (denote tb) p w s t with
        | none =>
          rw [e3] at h
          cases h
        | some r =>
          obtain ⟨s2, t2⟩ := r
          rw [e3] at h
          have h2 : segF (stepT (denote tb) p w) n0 ann m s2 t2 = some (f, s', c, q) := (frS_eq s2 _).symm.trans h
          have h3 := segF_ok h2
          show (match step (denote tb) p w s.abs t with
            | .go s' t' => segRun tb p w n0 ann 1 m s' t'
            | .halt _ _ => none) = some (f, s'.abs, c, q)
          rw [stepT_spec e3]
          exact h3
end
/-- what a program's head is cut by -/
structure Cut where
  p : Program
  l1 : List Stmt
  l2 : List Stmt
  l3 : List Stmt
  env : Env
  q : Pos
  n0 : Nat
  ann : Option Value
  pre : Nat
  pp : Pos
  pm : Pos
  pl : Pos
  /-- more than the steps -/
  M : Nat
namespace Cut
variable (C : Cut)
abbrev code : Code := .body (C.l1 ++ (C.l2 ++ C.l3)) C.env
abbrev B : List Frame := [topFrame C.q]
/-- the state ahead of the top -/
def beginF (st : Program → SharedT → Thread → Option (SharedT × Thread)) (fence : Program → Shared → Option Shared) : Option Shared := match impF (st (opening C.p)) C.M (startT (opening C.p)) (start (opening C.p)).2 with
  | some s => fence C.p s.abs
  | none => none
/-- the top to the cut -/
def firstF (st : Program → SharedT → Thread → Option (SharedT × Thread)) (fence : Program → Shared → Option Shared) : Option (Bool × Nat × Option Value × Thread × (Flow × Code) × Flow × SharedT × Code × Pos) := match C.beginF st fence with
  | some s0 => (match treeOf s0 with
    | some x => frS x fun x => (match goK (st C.p) C.n0 C.ann C.pre x (topStub C.p) with
      | some ra => (match segF (st C.p) C.n0 C.ann C.M ra.1 (blockOf (C.l1 ++ (C.l2 ++ C.l3)) C.env ra.2.code ra.2.pos C.B) with
        | some rb => (match segF (st C.p) C.n0 C.ann C.M rb.2.1 (piecesOf C.l1 C.env rb.2.2.1 rb.2.2.2 C.B) with
          | some rm => some (s0.heap.isNs mainGlobals && s0.gens.size == 0, x.n, s0.heap.nsMap mainGlobals "__annotations__", ra.2, (rb.1, rb.2.2.1), rm)
          | none => none)
        | none => none)
      | none => none)
    | none => none)
  | none => none
/-- .. from the cut to the next -/
def midF (st : Program → SharedT → Thread → Option (SharedT × Thread)) (m : SharedT) : Option (Flow × SharedT × Code × Pos) := frS m fun m => segF (st C.p) C.n0 C.ann C.M m (piecesOf C.l2 C.env C.code C.pm C.B)
/-- .. and to the end -/
def secondF (st : Program → SharedT → Thread → Option (SharedT × Thread)) (m : SharedT) : Option (SharedT × Flow × Code) := frS m fun m => match segF (st C.p) C.n0 C.ann C.M m (piecesOf C.l3 C.env C.code C.pl C.B) with
  | some re => (match goF (st C.p) C.n0 C.ann C.M re.2.1 ⟨doneF .next, re.2.2.1, re.2.2.2, C.B⟩ with
    | some s => some (s, re.1, re.2.2.1)
    | none => none)
  | none => none
section
variable {C : Cut}
theorem begin_ok {w : World} {s0 : Shared} (h : C.beginF (fun q => stepT (denote treeTable) q w) fenceModules? = some s0) : fencedOpening treeTable C.p w C.M = some s0 := by
  unfold beginF at h
  cases e1 : impF (stepT (denote treeTable) (opening C.p) w) C.M (startT (opening C.p)) (start (opening C.p)).2 with
  | none =>
    rw [e1] at h
    cases h
  | some s =>
    rw [e1] at h
    have a1 := impF_ok e1
    rw [startT_eq] at a1
    unfold fencedOpening
    rw [a1]
    exact h
/-- the runs make the whole -/
theorem whole_ok {w : World} {m m2 : SharedT} {s0 : Shared} {s1 : SharedT} (h0 : C.beginF (fun q => stepT (denote treeTable) q w) fenceModules? = some s0)
    (h1 : C.firstF (fun q => stepT (denote treeTable) q w) fenceModules? = some (true, C.n0, C.ann, ⟨denote treeTable C.code, C.code, C.pp, C.B⟩, (.next, C.code), (.next, m, C.code, C.pm)))
    (hm : C.midF (fun q => stepT (denote treeTable) q w) m = some (.next, m2, C.code, C.pl))
    (h2 : C.secondF (fun q => stepT (denote treeTable) q w) m2 = some (s1, .next, C.code)) :
    (s0.heap.isNs mainGlobals && s0.gens.size == 0) = true ∧ ∃ N, topRun treeTable C.p w s0.heap.objs.size (s0.heap.nsMap mainGlobals "__annotations__") N s0 (topStub C.p) = some s1.abs ∧ N ≤ C.pre + (C.M + (C.M + (C.M + (C.M + C.M)))) := by
  unfold firstF at h1
  rw [h0] at h1
  dsimp only at h1
  cases e1 : treeOf s0 with
  | none =>
    rw [e1] at h1
    cases h1
  | some x =>
    rw [e1] at h1
    obtain ⟨ex, en⟩ := treeOf_eq e1
    have h3 := (frS_eq x _).symm.trans h1
    cases e2 : goK (stepT (denote treeTable) C.p w) C.n0 C.ann C.pre x (topStub C.p) with
    | none =>
      rw [e2] at h3
      cases h3
    | some ra =>
      obtain ⟨sa, ta⟩ := ra
      rw [e2] at h3
      cases e3 : segF (stepT (denote treeTable) C.p w) C.n0 C.ann C.M sa (blockOf (C.l1 ++ (C.l2 ++ C.l3)) C.env ta.code ta.pos C.B) with
      | none =>
        dsimp only at h3
        rw [e3] at h3
        cases h3
      | some rb =>
        obtain ⟨fb, sb, cb, pb⟩ := rb
        dsimp only at h3
        rw [e3] at h3
        cases e4 : segF (stepT (denote treeTable) C.p w) C.n0 C.ann C.M sb (piecesOf C.l1 C.env cb pb C.B) with
        | none =>
          dsimp only at h3
          rw [e4] at h3
          cases h3
        | some rm =>
          obtain ⟨fm, sm, cm, pm⟩ := rm
          dsimp only at h3
          rw [e4] at h3
          have h4 := Option.some.inj h3
          simp only [Prod.mk.injEq] at h4
          obtain ⟨z1, z2, z3, z4, ⟨z5, z6⟩, z7, z8, z9, z10⟩ := h4
          subst z4 z5 z6 z7 z8 z9 z10
          unfold secondF at h2
          have h5 := (frS_eq m2 _).symm.trans h2
          cases e5 : segF (stepT (denote treeTable) C.p w) C.n0 C.ann C.M m2 (piecesOf C.l3 C.env C.code C.pl C.B) with
          | none =>
            rw [e5] at h5
            cases h5
          | some re =>
            obtain ⟨fe, se, ce, pe⟩ := re
            rw [e5] at h5
            dsimp only at h5
            cases e6 : goF (stepT (denote treeTable) C.p w) C.n0 C.ann C.M se ⟨doneF .next, ce, pe, C.B⟩ with
            | none =>
              rw [e6] at h5
              cases h5
            | some sf =>
              rw [e6] at h5
              have h6 := Option.some.inj h5
              simp only [Prod.mk.injEq] at h6
              obtain ⟨y1, y2, y3⟩ := h6
              subst y1 y2 y3
              refine ⟨z1, _, ?_, Nat.le_refl _⟩
              rw [en, z2, z3]
              have k1 := goK_ok e2
              rw [ex] at k1
              refine go_top k1 (piece_block (segF_ok e3) (piece_app (segF_ok e4) ?_))
              have e7 : segF (stepT (denote treeTable) C.p w) C.n0 C.ann C.M sm (piecesOf C.l2 C.env C.code C.pm C.B) = some (.next, m2, C.code, C.pl) := (frS_eq sm _).symm.trans hm
              have k2 : topRun treeTable C.p w C.n0 C.ann (C.M + (C.M + C.M)) sm.abs (restOf (C.l2 ++ (C.l3 ++ [])) C.env C.code C.pm [topFrame C.q]) = some sf.abs := piece_app (segF_ok e7) (piece_app (segF_ok e5) (piece_nil (goF_ok e6)))
              rw [List.append_nil] at k2
              exact k2
end
end Cut
variable {C : Cut}
theorem twins (w : World) : (fun q => stepT (denote treeTable) q w) = fun q => stepQ (denQ tabQ) q w := by
  rw [stepQ_eq, denQ_eq, tabQ_eq]
/-- a law whose top is run in three -/
theorem head_three {r : OpenRow} {q : Program} {H : Hook} {ob : SharedT → H.α} {loose : List PySem.Str} {d : DefRec} {kwd : List (PySem.Str × PySem.Expr)} {mid mid2 : World → SharedT} (hC : C.p = r.prog) (ho : ∀ s : SharedT, ob s = H.obs s.abs)
    (r1 : ∀ w, C.firstF (fun q => stepQ (denQ tabQ) q w) fenceQ = some (true, C.n0, C.ann, ⟨denQ tabQ C.code, C.code, C.pp, C.B⟩, (.next, C.code), (.next, mid w, C.code, C.pm)))
    (rm : ∀ w, C.midF (fun q => stepQ (denQ tabQ) q w) (mid w) = some (.next, mid2 w, C.code, C.pl))
    (r2 : ∀ w, (C.beginF (fun q => stepQ (denQ tabQ) q w) fenceQ).bind (fun s0 => (C.secondF (fun q => stepQ (denQ tabQ) q w) (mid2 w)).map fun z => (looksF r.prog s0.heap z.1.abs, z.2)) = some (true, .next, C.code))
    (r3 : ∀ w, (C.secondF (fun q => stepQ (denQ tabQ) q w) (mid2 w)).map (fun z => seenQ q loose (importedModules r.prog.main.body) (fun s => xlAt q [] s && recOk r.toRowW.records s) z.1.abs) = some (openGood q loose))
    (r4 : ∀ w, (C.secondF (fun q => stepQ (denQ tabQ) q w) (mid2 w)).map (fun z => ob z.1) = some (H.val w))
    (hdef : defOf q r.name = some (d, kwd)) (hp : r.prog.theDef r.name = some (d.params, d.body, d.scope)) (hk : kwWritten? d.params.kwonlyargs d.params.kw_defaults = some kwd)
    (hwr : (!r.writes || r.records.isEmpty) = true) (k1 : r.wellSaid = true) (ok : (chainsOk q && opensWell r.prog && (frees r.toRowW && r.within.isEmpty)) = true) (hb : r.prog.bare) (hw : r.toRowW.promised)
    (call : WalkO q loose (XL q []) H.says r.toRowW d kwd fun f vs => PySem.call f vs) : r.Holds := by
  have left : LeftO r.prog q loose (fun s => xlAt q [] s && recOk r.toRowW.records s) H.obs H.val (C.M + (C.pre + (C.M + (C.M + (C.M + (C.M + C.M)))))) true := fun w => by
    have a1 := r1 w
    have am := rm w
    have a2 := r2 w
    have a3 := r3 w
    have a4 := r4 w
    rw [← twins w, ← fenceQ_eq] at a1 a2
    rw [← twins w] at a3 a4 am
    have eden : denQ tabQ C.code = denote treeTable C.code := by rw [denQ_eq, tabQ_eq]
    rw [eden] at a1
    cases b0 : C.beginF (fun q => stepT (denote treeTable) q w) fenceModules? with
    | none =>
      rw [b0] at a2
      cases a2
    | some s0 =>
      rw [b0] at a2
      cases b2 : C.secondF (fun q => stepT (denote treeTable) q w) (mid2 w) with
      | none =>
        rw [b2] at a3
        cases a3
      | some z =>
        obtain ⟨s1, f, c⟩ := z
        rw [b2] at a2 a3 a4
        have a5 : (looksF r.prog s0.heap s1.abs, f, c) = (true, Flow.next, C.code) := Option.some.inj a2
        simp only [Prod.mk.injEq] at a5
        obtain ⟨l1, rfl, rfl⟩ := a5
        have a6 := Option.some.inj a3
        have a7 := Option.some.inj a4
        dsimp only at a6 a7
        obtain ⟨t1, N, t2, t3⟩ := Cut.whole_ok b0 a1 am b2
        have o1 := Cut.begin_ok b0
        rw [hC] at o1 t2
        have t4 := topRun_mono (C.M + (C.pre + (C.M + (C.M + (C.M + (C.M + C.M))))) - N) _ _ _ _ t2
        rw [show N + (C.M + (C.pre + (C.M + (C.M + (C.M + (C.M + C.M))))) - N) = C.M + (C.pre + (C.M + (C.M + (C.M + (C.M + C.M))))) by omega] at t4
        have o2 : fencedOpening treeTable r.prog w (C.M + (C.pre + (C.M + (C.M + (C.M + (C.M + C.M)))))) = some s0 := by
          unfold fencedOpening at o1 ⊢
          cases o3 : importEnds treeTable (opening r.prog) w C.M (start (opening r.prog)).1 (start (opening r.prog)).2 with
          | none =>
            rw [o3] at o1
            cases o1
          | some si =>
            rw [o3] at o1
            rw [importEnds_mono _ _ _ _ _ o3]
            exact o1
        have t5 : topFrom treeTable r.prog w (C.M + (C.pre + (C.M + (C.M + (C.M + (C.M + C.M)))))) s0 = some s1.abs := by
          unfold topFrom
          rw [t1]
          show (topRun treeTable r.prog w _ _ _ s0 (topStub r.prog)).bind _ = _
          rw [t4]
          have l2 : (staticsOk (importedModules r.prog.main.body) s0.heap s1.abs.heap && namesBound r.prog s1.abs.heap && gensDone s1.abs && laidKept s0.heap s1.abs.heap) = true := l1
          show (match staticsOk (importedModules r.prog.main.body) s0.heap s1.abs.heap && namesBound r.prog s1.abs.heap && gensDone s1.abs && laidKept s0.heap s1.abs.heap with | true => some s1.abs | false => none) = _
          rw [l2]
        unfold openEnds
        rw [o2]
        show (topFrom treeTable r.prog w _ s0).map _ = _
        rw [t5]
        refine congrArg some (Prod.ext ?_ ?_)
        · exact (seenQ_eq q loose _ _ s1.abs).trans a6
        · show H.obs s1.abs = _
          rw [← ho]
          exact a7
  exact holds_open (r := r) (q := q) (loose := loose) (XP := XL q []) (YP := H.says) (d := d) (kwd := kwd) left H.of H.keeps (fun s z => xl_of s (Bool.and_eq_true_iff.mp z).1) XL.keeps hdef hp hk (fun s z => recFacts_of (Bool.and_eq_true_iff.mp z).2) hwr k1 ok hb hw call
end Own.Three

set_option Elab.async false
set_option linter.all false
set_option maxRecDepth 100000
/-! a long text's tables looked through in parts -/
namespace Own.Tabs
open PySem PySem.TablesWhole
theorem wSs_app {top sc : Scope} {cx : PySem.TablesWhole.Ctx} : ∀ (l1 l2 : List Stmt), wSs holds top cx sc (l1 ++ l2) = (wSs holds top cx sc l1 && wSs holds top cx sc l2)
  | [], l2 => by
    rw [List.nil_append]
    simp only [wSs, holds, Bool.true_and]
  | s :: l1, l2 => by
    rw [List.cons_append]
    simp only [wSs]
    rw [wSs_app l1 l2]
    exact (Bool.and_assoc _ _ _).symm
/-- the main text alone, its statements in three heaps -/
theorem tables_of {p : Program} (i j : Nat) (h1 : p.modules = []) (h2 : p.parses = []) (h3 : p.harvested = [])
    (h4 : wSs gather p.main.scope ⟨p.main.scope, [], [], [], none⟩ p.main.scope p.main.body = []) (h5 : noTwice p.main.scope = true)
    (a : wSs holds p.main.scope ⟨p.main.scope, [], [], [], none⟩ p.main.scope (p.main.body.take i) = true)
    (b : wSs holds p.main.scope ⟨p.main.scope, [], [], [], none⟩ p.main.scope ((p.main.body.drop i).take j) = true)
    (c : wSs holds p.main.scope ⟨p.main.scope, [], [], [], none⟩ p.main.scope ((p.main.body.drop i).drop j) = true) : p.tablesWhole = true := by
  have e : wSs holds p.main.scope ⟨p.main.scope, [], [], [], none⟩ p.main.scope p.main.body = true := by
    rw [← List.take_append_drop i p.main.body, wSs_app, a, ← List.take_append_drop j (p.main.body.drop i), wSs_app, b, c]
    rfl
  unfold Program.tablesWhole wProgram wModule
  rw [h1, h2, h3, h4, h5]
  dsimp only
  rw [e]
  rfl
end Own.Tabs

set_option Elab.async false
set_option linter.all false
set_option maxRecDepth 100000
namespace K03
open PySem PySem.Spec PyProof.Rows L2 Own
def topS (i : Nat) : Stmt := PySem.Challenge.pw_lastbell_k03_houses_asked_for.main.body.getD i (.Pass ⟨0, 0, 0, 0⟩)
abbrev sStream : Stmt := topS 183
abbrev sDraw : Stmt := topS 184
abbrev sPick : Stmt := topS 185
abbrev sMixed : Stmt := topS 186
abbrev sStepping : Stmt := topS 188
abbrev sHouse : Stmt := topS 189
abbrev sIsInt : Stmt := topS 34
abbrev sIsNum : Stmt := topS 35
abbrev sIsList : Stmt := topS 36
abbrev sIsPlace : Stmt := topS 39
abbrev sIsRoad : Stmt := topS 40
abbrev sIsDoor : Stmt := topS 41
abbrev sSame : Stmt := topS 187
abbrev sLaw : Stmt := topS 194
abbrev sMet : Stmt := topS 193
abbrev sAskA : Stmt := topS 190
abbrev sAskB : Stmt := topS 191
abbrev sAskC : Stmt := topS 192
abbrev sNeedHouse : Stmt := topS 46
abbrev sDesk : Stmt := inClass (topS 164) 0
/-- the names that the law's helpers use must be the built-in ones -/
structure Bt (mg : Str → Option Value) : Prop where
  abs : mg "abs" = none
  int : mg "int" = none
  list : mg "list" = none
  len : mg "len" = none
  isi : mg "isinstance" = none
  tuple : mg "tuple" = none
  dict : mg "dict" = none
  bool : mg "bool" = none
  all : mg "all" = none
  zip : mg "zip" = none
  range : mg "range" = none
  enum : mg "enumerate" = none
  max : mg "max" = none
  str : mg "str" = none
  min : mg "min" = none
/-- all that was tracked stays but what stands at a and l -/
def But2 (a l : Addr) (H H' : Hp) : Prop := ∀ b o, b ≠ a → b ≠ l → H b = some o → H' b = some o
theorem But2.trans {a l : Addr} {H H1 H2 : Hp} (x : But2 a l H H1) (y : But2 a l H1 H2) : But2 a l H H2 := fun b o h1 h2 e => y b o h1 h2 (x b o h1 h2 e)
/-- the stream of draws: its list at a, the cells that are left at l -/
structure Strm (N : Int) (H : Hp) (a l : Addr) : Prop where
  ex : ∃ (xs : List Int) (c n m : Int), H a = some (.lst [.ref l, .int c, .int n, .int m]) ∧ H l = some (.lst (xs.map V.int)) ∧ xs.length ≤ 63 ∧ 0 ≤ c ∧ 0 ≤ n ∧ n ≤ N ∧ 0 ≤ m ∧ m < 2147483647
theorem Strm.ne {N : Int} {H : Hp} {a l : Addr} (x : Strm N H a l) : a ≠ l := by
  obtain ⟨xs, c, n, m, h1, h2, _⟩ := x.ex
  refine ne_of h1 h2 fun z => ?_
  have z1 := HO.lst.inj z
  cases xs with
  | nil => cases z1
  | cons y ys => cases z1
theorem Strm.mono {N M : Int} {H : Hp} {a l : Addr} (x : Strm N H a l) (h : N ≤ M) : Strm M H a l := by
  obtain ⟨xs, c, n, m, h1, h2, h3, h4, h5, h6, h7⟩ := x.ex
  exact ⟨xs, c, n, m, h1, h2, h3, h4, h5, Int.le_trans h6 h, h7⟩
theorem Strm.keep {N : Int} {H H' : Hp} {a l : Addr} (x : Strm N H a l) (k : ∀ b o, H b = some o → (∀ t, o ≠ .tbl t) → H' b = some o) : Strm N H' a l := by
  obtain ⟨xs, c, n, m, h1, h2, h3⟩ := x.ex
  exact ⟨xs, c, n, m, k _ _ h1 (fun t z => by cases z), k _ _ h2 (fun t z => by cases z), h3⟩
/-! ### lists of ints and of bools as data -/
theorem dp_ints {K : PySem.W.Frag} {H : Hp} : ∀ xs : List Int, DpAll K H (xs.map V.int) (xs.map PyData.int)
  | [] => .nil
  | x :: r => .cons (.int x) (dp_ints r)
theorem dp_bls {K : PySem.W.Frag} {H : Hp} : ∀ xs : List Bool, DpAll K H (xs.map V.bl) (xs.map PyData.bool)
  | [] => .nil
  | x :: r => .cons (.bl x) (dp_bls r)
theorem lay_ints : ∀ xs : List Int, PyData.canLayAll0 (xs.map PyData.int) = true ∧ PyData.depthAll (xs.map PyData.int) = 0
  | [] => ⟨rfl, rfl⟩
  | x :: r => by
    obtain ⟨h1, h2⟩ := lay_ints r
    constructor
    · show (PyData.canLay0 (.int x) && PyData.canLayAll0 (r.map PyData.int)) = true
      rw [h1] <;> rfl
    · show max (PyData.depth (.int x)) (PyData.depthAll (r.map PyData.int)) = 0
      rw [h2] <;> rfl
theorem lay_bls : ∀ xs : List Bool, PyData.canLayAll0 (xs.map PyData.bool) = true ∧ PyData.depthAll (xs.map PyData.bool) = 0
  | [] => ⟨rfl, rfl⟩
  | x :: r => by
    obtain ⟨h1, h2⟩ := lay_bls r
    constructor
    · show (PyData.canLay0 (.bool x) && PyData.canLayAll0 (r.map PyData.bool)) = true
      rw [h1] <;> rfl
    · show max (PyData.depth (.bool x)) (PyData.depthAll (r.map PyData.bool)) = 0
      rw [h2] <;> rfl
theorem sh_list {ds : List PyData} (h1 : PyData.canLayAll0 ds = true) (h2 : PyData.depthAll ds = 0) : SeqAt.shaped (.list ds) = true := by
  show (PyData.canLayAll0 ds && decide (PyData.depthAll ds + 1 ≤ 64)) = true
  rw [h1, h2]
  rfl
theorem sh_ints (xs : List Int) : SeqAt.shaped (.list (xs.map PyData.int)) = true := sh_list (lay_ints xs).1 (lay_ints xs).2
theorem sh_bls (xs : List Bool) : SeqAt.shaped (.list (xs.map PyData.bool)) = true := sh_list (lay_bls xs).1 (lay_bls xs).2
theorem eqv_bls : ∀ xs : List Bool, PyData.eqvAll (xs.map PyData.bool) (xs.map PyData.bool) = true
  | [] => rfl
  | x :: r => by
    show ((x == x) && PyData.eqvAll (r.map PyData.bool) (r.map PyData.bool)) = true
    rw [eqv_bls r, beq_self_eq_true] <;> rfl
end K03

set_option Elab.async false
set_option linter.all false
set_option maxRecDepth 100000
set_option maxHeartbeats 2000000
namespace K03
open PySem PySem.Spec PyProof.Rows L2 Own
theorem scDraw : FnScope ["_law_stream_here", "_law_many", "_law_cell", "_law_digit", "_law_mixed_here"] ["_law_stream_here", "_law_many"] (defScope sDraw) := ⟨rfl, rfl, rfl, by decide +kernel, rfl, by decide +kernel, by decide +kernel⟩
theorem scPick : FnScope ["_law_stream_here", "_law_things"] ["_law_stream_here", "_law_things"] (defScope sPick) := ⟨rfl, rfl, rfl, by decide +kernel, rfl, by decide +kernel, by decide +kernel⟩
theorem scStream : FnScope ["_law_script"] ["_law_script"] (defScope sStream) := ⟨rfl, rfl, rfl, by decide +kernel, rfl, by decide +kernel, by decide +kernel⟩
def spStream (K : PySem.W.Frag) : Sp := fun vs H Q _ => ∃ (s : Addr) (ns : List Int), vs = [.ref s] ∧ SqL K H s (ns.map V.int) ∧ ns.length ≤ 63 ∧
  ∀ H' a l, Same H H' → H a = none → H l = none → Strm 0 H' a l → Q (.ref a) H'
def spDraw : Sp := fun vs H Q _ => ∃ (a l : Addr) (N many : Int), vs = [.ref a, .int many] ∧ Strm N H a l ∧ 0 ≤ N ∧ N ≤ 1000000000 ∧ 0 < many ∧ many < 1073741824 ∧
  ∀ H' d, 0 ≤ d → d < many → But2 a l H H' → Strm (N + 1) H' a l → Q (.int d) H'
def spPick : Sp := fun vs H Q _ => ∃ (a l p : Addr) (N : Int) (xs : List V), vs = [.ref a, .ref p] ∧ Strm N H a l ∧ 0 ≤ N ∧ N ≤ 1000000000 ∧ p ≠ a ∧ p ≠ l ∧ H p = some (.lst xs) ∧ 0 < xs.length ∧ xs.length ≤ 1000 ∧
  ∀ H' v, v ∈ xs → But2 a l H H' → Strm (N + 1) H' a l → Q v H'
section
variable {P : Program} {w : World} {K : PySem.W.Frag} {mg : Str → Option Value} {base : Heap}
theorem ok_stream {f : Addr} {fd : FuncData} (F : Fun K "_law_stream" "_law_stream" sStream f fd) (T : Bt mg) : FnOk P w K mg base CX0 1 f fd ["_law_script"] (spStream K) := by
  refine F.ok scStream (fun vs H Q E h => ?_) (fun cdv A outer s H vs Q E hr h => ?_)
  · obtain ⟨s, ns, rfl, _⟩ := h
    rfl
  · obtain ⟨s0, ns, rfl, hS, hl, k⟩ := h
    refine ⟨_, pss_one (ps_ret (pe_lst (pa_cons (pe_callTy call_list_of (by rfl) T.list (by decide +kernel) (pa_cons (pv 0) pa_nil)) (pa_cons pe_int (pa_cons pe_int (pa_cons pe_int pa_nil)))))), ?_⟩
    refine ⟨_, rfl, s0, _, rfl, .inl hS, fun l hl0 => ⟨by show 4 ≤ sizeLine; decide, fun a ha => ?_⟩⟩
    have nal : a ≠ l := fun z => by
      rw [z, upd_same] at ha
      cases ha
    have ha0 : H a = none := by
      rw [upd_ne nal] at ha
      exact ha
    refine k _ a l (fun b o e => ?_) ha0 hl0 ⟨ns, 0, 0, 17, upd_same, ?_, hl, by decide, by decide, by decide, by decide, by decide⟩
    · rw [upd_ne (ne_of_none e ha0), upd_ne (ne_of_none e hl0)]
      exact e
    · rw [upd_ne nal.symm]
      exact upd_same
theorem but2_set {a l : Addr} {H H1 : Hp} {o : HO} (b : But2 a l H H1) : But2 a l H (upd H1 a o) := fun x y h1 h2 e => by
  rw [upd_ne h1]
  exact b x y h1 h2 e
theorem but2_setl {a l : Addr} {H H1 : Hp} {o : HO} (b : But2 a l H H1) : But2 a l H (upd H1 l o) := fun x y h1 h2 e => by
  rw [upd_ne h2]
  exact b x y h1 h2 e
theorem but2_new {a l p : Addr} {H H1 : Hp} {o : HO} (b : But2 a l H H1) (hp : H1 p = none) : But2 a l H (upd H1 p o) := fun x y h1 h2 e => by
  have z := b x y h1 h2 e
  rw [upd_ne (ne_of_none z hp)]
  exact z
theorem seq0 (n : Nat) : seqIndex? 0 (n + 1) = some 0 := by
  refine (ixN_seq (n := n + 1) (i := 0) (j := 0) ?_).1
  unfold ixN
  rw [if_pos (Int.le_refl 0), if_pos (by omega)]
  rfl
/-- the stream's state within a draw -/
structure Mid (a l : Addr) (n : Int) (H H' : Hp) (xs : List Int) (c m : Int) : Prop where
  ha : H' a = some (.lst [.ref l, .int c, .int n, .int m])
  hl : H' l = some (.lst (xs.map V.int))
  len : xs.length ≤ 63
  c0 : 0 ≤ c
  m0 : 0 ≤ m
  m1 : m < 2147483647
  but : But2 a l H H'
theorem Mid.ne {a l : Addr} {n : Int} {H H' : Hp} {xs : List Int} {c m : Int} (M : Mid a l n H H' xs c m) : a ≠ l := by
  refine ne_of M.ha M.hl fun z => ?_
  have z1 := HO.lst.inj z
  cases xs with
  | nil => cases z1
  | cons y ys => cases z1
theorem ok_draw {f : Addr} {fd : FuncData} (F : Fun K "_law_draw" "_law_draw" sDraw f fd) (T : Bt mg) : FnOk P w K mg base CX0 1 f fd ["_law_stream_here", "_law_many"] spDraw := by
  refine F.ok scDraw (fun vs H Q E h => ?_) (fun cdv A outer s H vs Q E hr h => ?_)
  · obtain ⟨a, l, N, many, rfl, _⟩ := h
    rfl
  · obtain ⟨a, l, N, many, rfl, S, hN0, hN1, hm0, hm1, k⟩ := h
    have nal := S.ne
    obtain ⟨xs, c, n, m, h1, h2, h3, h4, h5, h6, h7, h8⟩ := S.ex
    refine ⟨_, pss_cons (ps_asg (pe_op op_add (pe_ix ix_list (pv 0) pe_int (fun _ _ => rfl)) pe_int) (pg_sub (pv 0) pe_int set_list))
      (Evl.pss_cut (ps_while PassesOwn.never (PW.pt (pw_and (pt_cmpR op_eq (pe_ix ix_list (pv 0) pe_int (fun _ _ => rfl)) pe_int (nomark _)) (pw_and1 (pt_cmpR (op_neD hr.units) (pe_ix ix_list (pv 0) pe_int (fun _ _ => rfl)) (pe_lst pa_nil) (nomark _)))))
        (pss_cons (ps_set (i := 2) scDraw.nd rfl (Or.inl rfl) (pe_callB call_abs (by rfl) T.abs (by decide +kernel) (pa_cons (pe_bm PySem.F.plainAttrs_list PySem.F.slot_list_pop PySem.F.type_list_pop mt_popAt (pe_ix ix_list (pv 0) pe_int (fun _ _ => rfl)) (pa_cons pe_int pa_nil)) pa_nil)))
        (pss_cons (ps_asg (pe_op op_mod (pe_callTy call_int1 (by rfl) T.int (by decide +kernel) (pa_cons (pe_op op_add (pe_op op_add (pe_op op_mul (pe_ix ix_list (pv 0) pe_int (fun _ _ => rfl)) pe_int) (pv 2)) pe_int) pa_nil)) pe_int) (pg_sub (pv 0) pe_int set_list))
        (pss_one (ps_asg (pe_ifExp (pt_cmpR op_ge (pv 2) (pe_op op_pow pe_int pe_int) (nomark _)) (pv 2) pe_int) (pg_sub (pv 0) pe_int set_list))))))
      (pss_cons (ps_if (pt_cmpR op_gt (pe_ix ix_list (pv 0) pe_int (fun _ _ => rfl)) pe_int (nomark _))
        (pss_cons (ps_set (i := 3) scDraw.nd rfl (Or.inl rfl) (pe_op op_modN (pe_callTy call_int1 (by rfl) T.int (by decide +kernel) (pa_cons (pe_ix ix_list (pv 0) pe_int (fun _ _ => rfl)) pa_nil)) (pv 1)))
        (pss_cons (ps_asg (pe_op op_fdivN (pe_ix ix_list (pv 0) pe_int (fun _ _ => rfl)) (pv 1)) (pg_sub (pv 0) pe_int set_list))
        (pss_one (ps_ret (pv 3))))) pss_nil)
      (pss_cons (ps_set (i := 4) scDraw.nd rfl (Or.inl rfl) (pe_op op_mod (pe_callTy call_int1 (by rfl) T.int (by decide +kernel) (pa_cons (pe_op op_pow (pe_op op_add (pe_op op_add (pe_ix ix_list (pv 0) pe_int (fun _ _ => rfl)) (pe_op op_mul pe_int (pe_ix ix_list (pv 0) pe_int (fun _ _ => rfl)))) pe_int) pe_int) pa_nil)) pe_int))
      (pss_one (ps_ret (pe_op op_modN (pe_op op_mod (pe_callTy call_int1 (by rfl) T.int (by decide +kernel) (pa_cons (pe_op op_pow (pe_op op_add (pe_op op_add (pe_op op_mul (pv 4) pe_int) (pe_op op_mul pe_int (pe_ix ix_list (pv 0) pe_int (fun _ _ => rfl)))) pe_int) pe_int) pa_nil)) pe_int) (pv 1))))))), ?_⟩
    refine ⟨_, rfl, a, _, _, _, rfl, rfl, SqL.of h1, (by rfl), _, _, rfl, rfl, _, rfl, a, _, _, 2, rfl, rfl, h1, (by rfl), ?_⟩
    refine ⟨fun σ' H' => ∃ (xs : List Int) (c m : Int) (v : Option V), σ' = [some (.ref a), some (.int many), v, none, none] ∧ Mid a l (n + 1) H H' xs c m, ?_, ?_⟩
    · refine ⟨fun j σ' H' => ∃ (xs : List Int) (c m : Int) (v : Option V), σ' = [some (.ref a), some (.int many), v, none, none] ∧ Mid a l (n + 1) H H' xs c m ∧ j = xs.length, ⟨_, xs, c, m, none, rfl, ⟨upd_same, by rw [upd_ne nal.symm]; exact h2, h3, h4, h7, h8, fun b o q1 q2 e => by rw [upd_ne q1]; exact e⟩, rfl⟩, ?_⟩
      rintro j σ' H1 ⟨xs, c0, m0, v, rfl, M, rfl⟩
      refine ⟨_, rfl, a, _, _, _, rfl, rfl, SqL.of M.ha, (by rfl), rfl, _, rfl, ?_⟩
      refine ite2 (fun hc => ?_) (fun hc => ?_)
      · have hc0 : c0 = 0 := V.int.inj (of_decide_eq_true hc)
        refine ⟨_, rfl, a, _, _, _, rfl, rfl, SqL.of M.ha, (by rfl), Nat.zero_le _, fun p hp => ?_⟩
        have npa : a ≠ p := ne_of_none M.ha hp
        have npl : l ≠ p := ne_of_none M.hl hp
        have M2 : Mid a l (n + 1) H (upd H1 p (.lst [])) xs c0 m0 := ⟨by rw [upd_ne npa]; exact M.ha, by rw [upd_ne npl]; exact M.hl, M.len, M.c0, M.m0, M.m1, but2_new M.but hp⟩
        refine ⟨.list (xs.map PyData.int), .list [], .lst (SqL.of M2.hl) (dp_ints xs), .lst (SqL.of upd_same) .nil, sh_ints xs, rfl, _, rfl, ?_⟩
        cases xs with
        | nil =>
          refine iteF ?_
          exact ⟨[], c0, m0, v, rfl, M2⟩
        | cons y ys =>
          refine iteT ⟨fun σ2 H2 => ∃ (xs : List Int) (c m : Int) (v : Option V), σ2 = [some (.ref a), some (.int many), v, none, none] ∧ Mid a l (n + 1) H H2 xs c m ∧ ys.length = xs.length, ?_, ?_⟩
          · rintro σ2 H2 ⟨xs, c, m, v, e1, e2, e3⟩
            exact ⟨ys.length, Nat.lt_succ_self _, xs, c, m, v, e1, e2, e3⟩
          · have hl2 := M2.hl
            refine ⟨_, rfl, a, _, _, .ref l, rfl, rfl, SqL.of M2.ha, (by rfl), .inl ⟨rfl, _, SqL.of hl2⟩, l, _, 0, 0, .int y, rfl, rfl, hl2, by decide, by decide, (by rw [List.length_map]; exact seq0 _), rfl, _, rfl, ?_⟩
            have M3 : Mid a l (n + 1) H (upd (upd H1 p (.lst [])) l (.lst (ys.map V.int))) ys c0 m0 := ⟨by rw [upd_ne nal]; exact M2.ha, upd_same, by have := M2.len; simp at this; omega, M2.c0, M2.m0, M2.m1, but2_setl M2.but⟩
            have z0 : ((y :: ys).map V.int).eraseIdx 0 = ys.map V.int := rfl
            rw [z0]
            have cell0 : (0 : Int) ≤ (if y < 0 then -y else y) := by split <;> omega
            generalize (if y < 0 then -y else y) = cell at cell0 ⊢
            refine ⟨_, rfl, a, _, _, _, rfl, rfl, SqL.of M3.ha, (by rfl), _, _, rfl, rfl, .inl ⟨by have := M3.m0; omega, by have := M3.m1; omega⟩, _, rfl, _, _, rfl, rfl, _, _, rfl, rfl, .inl ⟨_, rfl, _, _, rfl, rfl, (show (0 : Int) < 2147483647 by decide), _, rfl, a, _, _, 3, rfl, rfl, M3.ha, (by rfl), ?_⟩⟩
            have r0 := Int.emod_nonneg (m0 * 8191 + cell + 3) (by decide : (2147483647 : Int) ≠ 0)
            have r1 := Int.emod_lt_of_pos (m0 * 8191 + cell + 3) (by decide : (0 : Int) < 2147483647)
            have M4 : Mid a l (n + 1) H (upd (upd (upd H1 p (.lst [])) l (.lst (ys.map V.int))) a (.lst [.ref l, .int c0, .int (n + 1), .int ((m0 * 8191 + cell + 3) % 2147483647)])) ys c0 ((m0 * 8191 + cell + 3) % 2147483647) :=
              ⟨upd_same, by rw [upd_ne nal.symm]; exact M3.hl, M3.len, M3.c0, r0, r1, but2_set M3.but⟩
            refine ⟨_, rfl, _, _, rfl, rfl, ⟨by decide, by decide, by decide⟩, _, _, rfl, rfl, _, rfl, ?_⟩
            have last : ∀ c2 : Int, 0 ≤ c2 → ∃ (xs : List Int) (c m : Int) (v : Option V), [some (V.ref a), some (V.int many), some (V.int cell), none, none] = [some (V.ref a), some (V.int many), v, none, none] ∧ Mid a l (n + 1) H (upd (upd (upd (upd H1 p (.lst [])) l (.lst (ys.map V.int))) a (.lst [.ref l, .int c0, .int (n + 1), .int ((m0 * 8191 + cell + 3) % 2147483647)])) a (.lst [.ref l, .int c2, .int (n + 1), .int ((m0 * 8191 + cell + 3) % 2147483647)])) xs c m ∧ ys.length = xs.length :=
              fun c2 hc2 => ⟨ys, c2, _, _, rfl, ⟨upd_same, by rw [upd_ne nal.symm]; exact M4.hl, M4.len, hc2, r0, r1, but2_set M4.but⟩, rfl⟩
            refine ite2 (fun hge => ?_) (fun hge => ?_)
            · exact ⟨_, rfl, _, rfl, a, _, _, 1, rfl, rfl, M4.ha, (by rfl), last _ cell0⟩
            · exact ⟨_, rfl, a, _, _, 1, rfl, rfl, M4.ha, (by rfl), last _ (Int.le_refl 0)⟩
      · refine iteF ?_
        exact ⟨xs, c0, m0, v, rfl, M⟩
    · rintro σ' H1 ⟨xs, c, m, v, rfl, M⟩
      have mod0 : ∀ z : Int, 0 ≤ z.fmod many ∧ z.fmod many < many := fun z => by
        rw [Int.fmod_eq_emod_of_nonneg z (by omega)]
        exact ⟨Int.emod_nonneg _ (by omega), Int.emod_lt_of_pos _ hm0⟩
      have c0 := M.c0
      have m0 := M.m0
      have m1 := M.m1
      have fin : ∀ (H2 : Hp) (c2 : Int), 0 ≤ c2 → H2 a = some (.lst [.ref l, .int c2, .int (n + 1), .int m]) → H2 l = some (.lst (xs.map V.int)) → Strm (N + 1) H2 a l := fun H2 c2 h0 ha hl => ⟨xs, c2, n + 1, m, ha, hl, M.len, h0, by omega, by omega, m0, m1⟩
      refine ⟨_, rfl, a, _, _, _, rfl, rfl, SqL.of M.ha, (by rfl), _, _, rfl, rfl, _, rfl, ite2 (fun hc => ?_) (fun hc => ?_)⟩
      · refine ⟨_, rfl, a, _, _, _, rfl, rfl, SqL.of M.ha, (by rfl), .inl ⟨_, rfl, _, rfl, _, _, rfl, rfl, (show many ≠ 0 by omega), ?_⟩⟩
        refine ⟨_, rfl, a, _, _, _, rfl, rfl, SqL.of M.ha, (by rfl), _, rfl, _, _, rfl, rfl, ⟨by omega, by omega⟩, _, rfl, a, _, _, 1, rfl, rfl, M.ha, (by rfl), _, rfl, ?_⟩
        refine k _ _ (mod0 c).1 (mod0 c).2 (but2_set M.but) (fin _ (c.fdiv many) ?_ upd_same (by rw [upd_ne nal.symm]; exact M.hl))
        rw [Int.fdiv_eq_ediv_of_nonneg _ (by omega)]
        exact Int.ediv_nonneg c0 (by omega)
      · refine ⟨_, rfl, a, _, _, _, rfl, rfl, SqL.of M.ha, (by rfl), _, rfl, a, _, _, _, rfl, rfl, SqL.of M.ha, (by rfl), _, _, rfl, rfl, .inl ⟨by decide, by decide⟩, _, _, rfl, rfl, _, _, rfl, rfl, _, _, rfl, rfl, ⟨by decide, by decide, ?_⟩, .inl ⟨_, rfl, _, _, rfl, rfl, (show (0 : Int) < 2147483629 by decide), ?_⟩⟩
        · show (m + 7919 * (n + 1) + 104729).natAbs < 2 ^ 64
          omega
        · have r0 := Int.emod_nonneg ((m + 7919 * (n + 1) + 104729) ^ (5 : Int).toNat) (by decide : (2147483629 : Int) ≠ 0)
          have r1 := Int.emod_lt_of_pos ((m + 7919 * (n + 1) + 104729) ^ (5 : Int).toNat) (by decide : (0 : Int) < 2147483629)
          refine ⟨_, rfl, _, _, rfl, rfl, .inl ⟨Int.lt_of_lt_of_le (by decide) r0, Int.lt_trans r1 (by decide)⟩, _, rfl, a, _, _, _, rfl, rfl, SqL.of M.ha, (by rfl), _, _, rfl, rfl, .inl ⟨by decide, by decide⟩, _, _, rfl, rfl, _, _, rfl, rfl, _, _, rfl, rfl, ⟨by decide, by decide, ?_⟩, .inl ⟨_, rfl, _, _, rfl, rfl, (show (0 : Int) < 1000000007 by decide), _, rfl, _, _, rfl, rfl, (show many ≠ 0 by omega), ?_⟩⟩
          · show ((m + 7919 * (n + 1) + 104729) ^ (5 : Int).toNat % 2147483629 * 48271 + 30011 * (n + 1) + 29).natAbs < 2 ^ 64
            generalize (m + 7919 * (n + 1) + 104729) ^ (5 : Int).toNat % 2147483629 = z at r0 r1
            omega
          · exact k _ _ (mod0 _).1 (mod0 _).2 M.but (fin _ c c0 M.ha M.hl)
theorem ok_pick {f fD : Addr} {fd fdD : FuncData} (F : Fun K "_law_pick" "_law_pick" sPick f fd) (T : Bt mg) (FD : Fun K "_law_draw" "_law_draw" sDraw fD fdD) (gD : mg "_law_draw" = some (.ref fD)) (bD : Binds K fdD ["_law_stream_here", "_law_many"] []) :
    FnOk P w K mg base CX0 2 f fd ["_law_stream_here", "_law_things"] spPick := by
  have GD : FnOk P w K mg base CX0 1 fD fdD ["_law_stream_here", "_law_many"] spDraw := ok_draw FD T
  refine F.ok scPick (fun vs H Q E h => ?_) (fun cdv A outer s H vs Q E hr h => ?_)
  · obtain ⟨a, l, p, N, xs, rfl, _⟩ := h
    rfl
  · obtain ⟨a, l, p, N, xs, rfl, S, hN0, hN1, hpa, hpl, hp, hx0, hx1, k⟩ := h
    refine ⟨_, pss_one (ps_ret (pe_ix ix_list (pv 1) (pe_call GD hr (by rfl) gD FD.kp bD .nil pass0 (pa_cons (pv 0) (pa_cons (pe_callB call_len_seq (by rfl) T.len PySem.boot_len (pa_cons (pv 1) pa_nil)) pa_nil))) (fun _ _ => rfl))), ?_⟩
    refine ⟨_, rfl, _, rfl, _, rfl, p, xs, rfl, .inl (SqL.of hp), a, l, N, (xs.length : Int), rfl, S, hN0, hN1, by omega, by omega, fun H' d d0 d1 b S' => ?_⟩
    have hd : d.toNat < xs.length := by omega
    have e : atI xs d = some xs[d.toNat] := at_of (j := d.toNat) (by omega) (List.getElem?_eq_getElem hd)
    exact ⟨p, xs, d, _, rfl, rfl, SqL.of (b _ _ hpa hpl hp), e, k H' _ (List.getElem_mem hd) b S'⟩
end
end K03

set_option Elab.async false
set_option linter.all false
set_option maxRecDepth 100000
set_option maxHeartbeats 4000000
namespace K03
open PySem PySem.Spec PyProof.Rows L2 Own
theorem scMixed : FnScope ["_law_stream_here", "_law_things", "_law_left", "_law_found", "_law_k"] ["_law_stream_here", "_law_things"] (defScope sMixed) := ⟨rfl, rfl, rfl, by decide +kernel, rfl, by decide +kernel, by decide +kernel⟩
/-- what was new behind a call was new ahead of it -/
theorem But2.fresh {N : Int} {a l p : Addr} {H H' : Hp} (b : But2 a l H H') (S : Strm N H' a l) (h : H' p = none) : H p = none := by
  obtain ⟨xs, c, n, m, h1, h2, _⟩ := S.ex
  cases e : H p with
  | none => rfl
  | some o =>
    rw [b p o (ne_of_none h1 h).symm (ne_of_none h2 h).symm e] at h
    cases h
theorem But2.refl {a l : Addr} {H : Hp} : But2 a l H H := fun _ _ _ _ e => e
theorem Strm.but {N : Int} {a l : Addr} {H H' : Hp} (S : Strm N H a l) (k : ∀ b o, H b = some o → H' b = some o) : Strm N H' a l := S.keep fun b o e _ => k b o e
/-- a draw's place and the list's are unlike new ones -/
theorem Strm.ne_new {N : Int} {a l p : Addr} {H : Hp} (S : Strm N H a l) (h : H p = none) : p ≠ a ∧ p ≠ l := by
  obtain ⟨xs, c, n, m, h1, h2, _⟩ := S.ex
  exact ⟨(ne_of_none h1 h).symm, (ne_of_none h2 h).symm⟩
def spMixed : Sp := fun vs H Q _ => ∃ (a l p : Addr) (N : Int) (xs : List V), vs = [.ref a, .ref p] ∧ Strm N H a l ∧ 0 ≤ N ∧ N + 100 ≤ 1000000000 ∧ p ≠ a ∧ p ≠ l ∧ H p = some (.lst xs) ∧ xs.length ≤ 100 ∧
  ∀ H' q ys, List.Perm ys xs → But2 a l H H' → H q = none → H' q = some (.lst ys) → Strm (N + 100) H' a l → Q (.ref q) H'
structure MixI (a l p pl pf : Addr) (N : Int) (xs : List V) (H0 : Hp) (i : Nat) (σ : L2.St) (H : Hp) : Prop where
  s : ∃ k, σ = [some (.ref a), some (.ref p), some (.ref pl), some (.ref pf), k]
  d : ∃ ls fs, H pl = some (.lst ls) ∧ H pf = some (.lst fs) ∧ ls.length + i = xs.length ∧ fs.length = i ∧ List.Perm (fs ++ ls) xs
  b : But2 a l H0 H
  t : Strm (N + i) H a l
theorem same_new {H : Hp} {p : Addr} {o : HO} (h : H p = none) : Same H (upd H p o) := fun b u e => by
  rw [upd_ne (ne_of_none e h)]
  exact e
theorem perm_erase : ∀ {ls : List V} {j : Nat} (h : j < ls.length), List.Perm ([ls[j]] ++ ls.eraseIdx j) ls
  | x :: r, 0, _ => .refl _
  | x :: r, j + 1, h => by
    have z := perm_erase (ls := r) (j := j) (Nat.lt_of_succ_lt_succ h)
    show List.Perm (r[j]'(Nat.lt_of_succ_lt_succ h) :: x :: r.eraseIdx j) (x :: r)
    exact .trans (.swap _ _ _) (.cons _ z)
theorem Strm.upd {N : Int} {a l p : Addr} {H : Hp} {o : HO} (S : Strm N H a l) (h1 : p ≠ a) (h2 : p ≠ l) : Strm N (L2.upd H p o) a l := by
  obtain ⟨xs, c, n, m, h3, h4, h5⟩ := S.ex
  exact ⟨xs, c, n, m, by rw [upd_ne h1.symm]; exact h3, by rw [upd_ne h2.symm]; exact h4, h5⟩
section
variable {P : Program} {w : World} {K : PySem.W.Frag} {mg : Str → Option Value} {base : Heap}
theorem ok_mixed {f fD : Addr} {fd fdD : FuncData} (F : Fun K "_law_mixed" "_law_mixed" sMixed f fd) (T : Bt mg) (FD : Fun K "_law_draw" "_law_draw" sDraw fD fdD) (gD : mg "_law_draw" = some (.ref fD)) (bD : Binds K fdD ["_law_stream_here", "_law_many"] []) :
    FnOk P w K mg base CX0 2 f fd ["_law_stream_here", "_law_things"] spMixed := by
  have GD : FnOk P w K mg base CX0 1 fD fdD ["_law_stream_here", "_law_many"] spDraw := ok_draw FD T
  refine F.ok scMixed (fun vs H Q E h => ?_) (fun cdv A outer s H vs Q E hr h => ?_)
  · obtain ⟨a, l, p, N, xs, rfl, _⟩ := h
    rfl
  · obtain ⟨a, l, p, N, xs, rfl, S, hN0, hN1, hpa, hpl, hp, hx, k⟩ := h
    refine ⟨_, (pss_cons (ps_par (i := 2) (j := 3) (by rfl) scMixed.nd rfl rfl (by decide) rfl rfl (pa_cons (pe_callTy call_list_of (by rfl) T.list (by decide +kernel) (pa_cons (pv 1) pa_nil)) (pa_cons (pe_lst pa_nil) pa_nil)) (by rfl))
  (pss_cons (ps_for PassesOwn.never rfl (pi_range1 (by rfl) T.range (pa_cons (pe_callB call_len_seq (by rfl) T.len (by decide +kernel) (pa_cons (pv 2) pa_nil)) pa_nil)) (pg_name (i := 4) (x := "_law_k") scMixed.nd rfl (Or.inl rfl)) (pss_one (ps_expr (pe_bm PySem.F.plainAttrs_list PySem.F.slot_list_append PySem.F.type_list_append mt_append (pv 3) (pa_cons (pe_bm PySem.F.plainAttrs_list PySem.F.slot_list_pop PySem.F.type_list_pop mt_popAt (pv 2) (pa_cons (pe_call GD hr (by rfl) gD FD.kp bD .nil pass0 (pa_cons (pv 0) (pa_cons (pe_callB call_len_seq (by rfl) T.len (by decide +kernel) (pa_cons (pv 2) pa_nil)) pa_nil))) pa_nil)) pa_nil)))))
  (pss_one (ps_ret (pv 3))))), ?_⟩
    refine ⟨_, rfl, p, xs, rfl, .inl (SqL.of hp), fun pl hpl0 => ⟨Nat.zero_le _, fun pf hpf => ⟨_, _, rfl, ?_⟩⟩⟩
    have ⟨n1, n2⟩ := S.ne_new hpl0
    have S1 : Strm N (upd H pl (.lst xs)) a l := S.but fun b o e => same_new hpl0 b o e
    have ⟨n3, n4⟩ := S1.ne_new hpf
    have S2 : Strm N (upd (upd H pl (.lst xs)) pf (.lst [])) a l := S1.but fun b o e => same_new hpf b o e
    have npf : pl ≠ pf := ne_of_none (H := upd H pl (.lst xs)) upd_same hpf
    have hf0 : H pf = none := by
      rw [upd_ne npf.symm] at hpf
      exact hpf
    have b0 : But2 a l H (upd (upd H pl (.lst xs)) pf (.lst [])) := but2_new (but2_new But2.refl hpl0) hpf
    refine ⟨_, rfl, pl, xs, rfl, .inl (SqL.of (by rw [upd_ne npf]; exact upd_same)), _, rfl, by omega, by omega, ?_⟩
    refine for_range (MixI a l p pl pf N xs H) ⟨⟨_, rfl⟩, ⟨xs, [], by rw [upd_ne npf]; exact upd_same, upd_same, rfl, rfl, .refl _⟩, b0, by simpa using S2⟩ (fun i σ H1 hi w => ?_) (fun σ H1 w => ?_)
    · obtain ⟨⟨k0, rfl⟩, ⟨ls, fs, hl, hf, e1, e2, pm⟩, bt, st⟩ := w
      have hi' : i < xs.length := by omega
      have e0 : (xs.length : Int).toNat = xs.length := by omega
      refine ⟨_, rfl, .inl ⟨rfl, _, SqL.of hf⟩, _, rfl, .inl ⟨rfl, _, SqL.of hl⟩, _, rfl, _, rfl, pl, ls, rfl, .inl (SqL.of hl), a, l, _, _, rfl, st, by omega, by omega, by omega, by omega, fun H2 d d0 d1 b2 st2 => ?_⟩
      have hl2 := b2 _ _ n1 n2 hl
      have hf2 := b2 _ _ n3 n4 hf
      have hd : d.toNat < ls.length := by omega
      refine ⟨pl, ls, d, d.toNat, ls[d.toNat], rfl, rfl, hl2, by omega, by omega, (ixN_seq (n := ls.length) (i := d) (j := d.toNat) ?_).1, List.getElem?_eq_getElem hd, ?_⟩
      · unfold ixN
        rw [if_pos d0, if_pos d1]
      refine ⟨pf, fs, _, rfl, rfl, ?_, ?_, ?_⟩
      · rw [upd_ne npf.symm]
        exact hf2
      · rw [e2]
        exact Nat.lt_of_lt_of_le (Nat.lt_of_lt_of_le hi' hx) (by decide)
      · refine ⟨⟨_, rfl⟩, ⟨ls.eraseIdx d.toNat, fs ++ [ls[d.toNat]], ?_, upd_same, ?_, ?_, ?_⟩, ?_, ?_⟩
        · rw [upd_ne npf]
          exact upd_same
        · rw [List.length_eraseIdx_of_lt hd]
          omega
        · rw [List.length_append, e2]
          rfl
        · refine List.Perm.trans ?_ pm
          rw [List.append_assoc]
          refine List.Perm.append_left fs ?_
          exact perm_erase hd
        · exact fun b o h1 h2 e => by
            have z := bt b o h1 h2 e
            have z1 := b2 _ _ h1 h2 z
            have q1 : b ≠ pl := ne_of_none e hpl0
            have q2 : b ≠ pf := ne_of_none e hf0
            rw [upd_ne q2, upd_ne q1]
            exact z1
        · have z : N + ((i + 1 : Nat) : Int) = N + i + 1 := by omega
          rw [z]
          refine (st2.upd n1 n2).upd n3 n4
    · obtain ⟨⟨k0, rfl⟩, ⟨ls, fs, hl, hf, e1, e2, pm⟩, bt, st⟩ := w
      have e0 : (xs.length : Int).toNat = xs.length := by omega
      rw [e0] at e1 e2 st
      have ln : ls = [] := List.eq_nil_of_length_eq_zero (by omega)
      rw [ln, List.append_nil] at pm
      refine ⟨_, rfl, k _ pf fs pm bt hf0 hf (st.mono (by omega))⟩
end
end K03

set_option Elab.async false
set_option linter.all false
set_option maxRecDepth 100000
set_option maxHeartbeats 8000000
namespace K03
open PySem PySem.Spec PyProof.Rows L2 Own
section
variable {X : Cx} {e : Expr} {g g2 : TG}
theorem pg_or (h : PG X e g) (h2 : PG X e g2) : PG X e (fun v σ H Q => g v σ H Q ∨ g2 v σ H Q) := ⟨fun pins s σ H v u Q I r hw => by
  rcases hw with hw | hw
  · exact h.run pins s σ H v u Q I r hw
  · exact h2.run pins s σ H v u Q I r hw⟩
end
/-! ### kinds of values -/
def atomV : V → Bool
  | .non => true
  | .bl _ => true
  | .int _ => true
  | .str _ => true
  | _ => false
/-- an atom, a list, a tuple or a dict -/
def Shp (H : Hp) (v : V) : Prop := atomV v = true ∨ (∃ a xs, v = .ref a ∧ H a = some (.lst xs)) ∨ (∃ a xs, v = .ref a ∧ H a = some (.tup xs)) ∨ ∃ a kvs, v = .ref a ∧ H a = some (.dK kvs)
theorem Shp.same {H H' : Hp} {v : V} (h : Shp H v) (e : Same H H') : Shp H' v := by
  rcases h with h | ⟨a, xs, h1, h2⟩ | ⟨a, xs, h1, h2⟩ | ⟨a, xs, h1, h2⟩
  · exact .inl h
  · exact .inr (.inl ⟨a, xs, h1, e _ _ h2⟩)
  · exact .inr (.inr (.inl ⟨a, xs, h1, e _ _ h2⟩))
  · exact .inr (.inr (.inr ⟨a, xs, h1, e _ _ h2⟩))
theorem shp_int {H : Hp} (i : Int) : Shp H (.int i) := .inl rfl
/-- what a list or a tuple holds -/
def seqOf (H : Hp) : V → Option (List V)
  | .ref a => match H a with
    | some (.lst xs) => some xs
    | some (.tup xs) => some xs
    | _ => none
  | _ => none
theorem seq_same {H H' : Hp} {v : V} (h : Shp H v) (e : Same H H') : seqOf H' v = seqOf H v := by
  rcases h with h | ⟨a, xs, rfl, h2⟩ | ⟨a, xs, rfl, h2⟩ | ⟨a, xs, rfl, h2⟩
  · cases v <;> first | rfl | cases h
  · show (match H' a with | some (.lst xs) => some xs | some (.tup xs) => some xs | _ => none) = (match H a with | some (.lst xs) => some xs | some (.tup xs) => some xs | _ => none)
    rw [h2, e _ _ h2]
  · show (match H' a with | some (.lst xs) => some xs | some (.tup xs) => some xs | _ => none) = (match H a with | some (.lst xs) => some xs | some (.tup xs) => some xs | _ => none)
    rw [h2, e _ _ h2]
  · show (match H' a with | some (.lst xs) => some xs | some (.tup xs) => some xs | _ => none) = (match H a with | some (.lst xs) => some xs | some (.tup xs) => some xs | _ => none)
    rw [h2, e _ _ h2]
theorem seq_lst {H : Hp} {a : Addr} {xs : List V} (h : H a = some (.lst xs)) : seqOf H (.ref a) = some xs := by
  show (match H a with | some (.lst xs) => some xs | some (.tup xs) => some xs | _ => none) = some xs
  rw [h]
theorem seq_tup {H : Hp} {a : Addr} {xs : List V} (h : H a = some (.tup xs)) : seqOf H (.ref a) = some xs := by
  show (match H a with | some (.lst xs) => some xs | some (.tup xs) => some xs | _ => none) = some xs
  rw [h]
theorem seq_atom {H : Hp} {v : V} (h : atomV v = true) : seqOf H v = none := by
  cases v <;> first | rfl | cases h
theorem seq_dic {H : Hp} {a : Addr} {kvs : List (Key × V)} (h : H a = some (.dK kvs)) : seqOf H (.ref a) = none := by
  show (match H a with | some (.lst xs) => some xs | some (.tup xs) => some xs | _ => none) = none
  rw [h]
def isI : V → Bool
  | .int _ => true
  | _ => false
def isN : V → Bool
  | .int i => decide (0 ≤ i)
  | _ => false
def isP (n : Int) : V → Bool
  | .int i => decide (0 ≤ i) && decide (i < n)
  | _ => false
/-! ### types -/
def TyS (K : PySem.W.Frag) (H : Hp) (x : V) (T : String) : Prop := ∀ H', Same H H' → TyX K H' x (.type T)
theorem TyS.grow {K : PySem.W.Frag} {H H' : Hp} {x : V} {T : String} (h : TyS K H x T) (e : Same H H') : TyS K H' x T := fun H2 e2 => h H2 (e.trans e2)
theorem TyS.now {K : PySem.W.Frag} {H : Hp} {x : V} {T : String} (h : TyS K H x T) : TyX K H x (.type T) := h H (Same.refl H)
theorem kit2 {K : PySem.W.Frag} {T a b : String} {x y r : Bool} (ha : kitB T a = some x) (hb : kitB T b = some y) (h : (x || y) = r) : PySem.W.kitAny K (.type T) [.type a, .type b] = some r := by
  subst h
  refine kitAny_cons (kit_ty ha) (fun e => ?_) (fun e => by rw [e]; rfl)
  rw [e]
  refine kitAny_cons (kit_ty hb) (fun e => ?_) (fun e => by rw [e]; rfl)
  rw [e]
  exact kitAny_nil
theorem shp_ty {K : PySem.W.Frag} {H : Hp} {v : V} (h : Shp H v) : ∃ (T : String) (i b l t s : Bool), TyS K H v T ∧ kitB T "int" = some i ∧ kitB T "bool" = some b ∧ kitB T "list" = some l ∧ kitB T "tuple" = some t ∧ kitB T "str" = some s ∧
    isI v = (i && !b) ∧ (seqOf H v).isSome = (l || t) ∧ (s = true → ∃ z, v = .str z) ∧ (∀ z, v = .str z → s = true) := by
  rcases h with h | ⟨a, xs, rfl, h2⟩ | ⟨a, xs, rfl, h2⟩ | ⟨a, xs, rfl, h2⟩
  · cases v with
    | non => exact ⟨"NoneType", false, false, false, false, false, fun _ _ => .base .non, by decide +kernel, by decide +kernel, by decide +kernel, by decide +kernel, by decide +kernel, rfl, rfl, fun z => (by cases z), fun z e => (by cases e)⟩
    | bl b => exact ⟨"bool", true, true, false, false, false, fun _ _ => .base (.bl b), by decide +kernel, by decide +kernel, by decide +kernel, by decide +kernel, by decide +kernel, rfl, rfl, fun z => (by cases z), fun z e => (by cases e)⟩
    | int i => exact ⟨"int", true, false, false, false, false, fun _ _ => .base (.int i), by decide +kernel, by decide +kernel, by decide +kernel, by decide +kernel, by decide +kernel, rfl, rfl, fun z => (by cases z), fun z e => (by cases e)⟩
    | str x => exact ⟨"str", false, false, false, false, true, fun _ _ => .base (.str x), by decide +kernel, by decide +kernel, by decide +kernel, by decide +kernel, by decide +kernel, rfl, rfl, fun _ => ⟨x, rfl⟩, fun _ _ => rfl⟩
    | _ => cases h
  · exact ⟨"list", false, false, true, false, false, fun H' e => .base (.lst (e _ _ h2)), by decide +kernel, by decide +kernel, by decide +kernel, by decide +kernel, by decide +kernel, rfl, by rw [seq_lst h2]; rfl, fun z => (by cases z), fun z e => (by cases e)⟩
  · exact ⟨"tuple", false, false, false, true, false, fun H' e => .base (.tup (e _ _ h2)), by decide +kernel, by decide +kernel, by decide +kernel, by decide +kernel, by decide +kernel, rfl, by rw [seq_tup h2]; rfl, fun z => (by cases z), fun z e => (by cases e)⟩
  · exact ⟨"dict", false, false, false, false, false, fun H' e => .base (.dK (e _ _ h2)), by decide +kernel, by decide +kernel, by decide +kernel, by decide +kernel, by decide +kernel, rfl, by rw [seq_dic h2]; rfl, fun z => (by cases z), fun z e => (by cases e)⟩
/-! ### is_integer, is_number, is_list, is_place -/
def spInt : Sp := fun vs H Q _ => ∃ v, vs = [v] ∧ Shp H v ∧ Q (.bl (isI v)) H
def spNum : Sp := fun vs H Q _ => ∃ v, vs = [v] ∧ Shp H v ∧ Q (.bl (isN v)) H
def spLst : Sp := fun vs H Q _ => ∃ v, vs = [v] ∧ Shp H v ∧ ∀ H', Same H H' → Q (.bl (seqOf H v).isSome) H'
def spPlace : Sp := fun vs H Q _ => ∃ (n : Int) (v : V), vs = [.int n, v] ∧ Shp H v ∧ Q (.bl (isP n v)) H
theorem scIsInt : FnScope ["thing"] ["thing"] (defScope sIsInt) := ⟨rfl, rfl, rfl, by decide +kernel, rfl, by decide +kernel, by decide +kernel⟩
theorem scIsNum : FnScope ["thing"] ["thing"] (defScope sIsNum) := ⟨rfl, rfl, rfl, by decide +kernel, rfl, by decide +kernel, by decide +kernel⟩
theorem scIsList : FnScope ["thing"] ["thing"] (defScope sIsList) := ⟨rfl, rfl, rfl, by decide +kernel, rfl, by decide +kernel, by decide +kernel⟩
theorem scIsPlace : FnScope ["places", "thing"] ["places", "thing"] (defScope sIsPlace) := ⟨rfl, rfl, rfl, by decide +kernel, rfl, by decide +kernel, by decide +kernel⟩
section
variable {P : Program} {w : World} {K : PySem.W.Frag} {mg : Str → Option Value} {base : Heap}
theorem ok_isInt {f : Addr} {fd : FuncData} (F : Fun K "is_integer" "is_integer" sIsInt f fd) (T : Bt mg) : FnOk P w K mg base CX0 1 f fd ["thing"] spInt := by
  refine F.ok scIsInt (fun vs H Q E h => ?_) (fun cdv A outer s H vs Q E hr h => ?_)
  · obtain ⟨v, rfl, _⟩ := h
    rfl
  · obtain ⟨v, rfl, hv, k⟩ := h
    refine ⟨_, (pss_one (ps_ret (pe_and (pe_callB call_isi (by rfl) T.isi (by decide +kernel) (pa_cons (pv 0) (pa_cons (pe_bltn (v := .ty "int") (by rfl) T.int (by decide +kernel) rfl) pa_nil))) (pe_one (pe_not (pe_callB call_isi (by rfl) T.isi (by decide +kernel) (pa_cons (pv 0) (pa_cons (pe_bltn (v := .ty "bool") (by rfl) T.bool (by decide +kernel) rfl) pa_nil)))))))), ?_⟩
    obtain ⟨Ty, i, b, l, t, s, ty, ki, kb, kl, kt, ks, e1, e2, _⟩ := shp_ty (K := K) hv
    refine ⟨_, rfl, _, _, _, _, i, rfl, .ty _, ty.now, kit_ty ki, i, rfl, ?_⟩
    cases i with
    | true =>
      refine iteT ⟨_, rfl, _, _, _, _, b, rfl, .ty _, ty.now, kit_ty kb, b, rfl, ?_⟩
      rw [e1] at k
      exact k
    | false =>
      refine iteF ?_
      rw [e1] at k
      exact k
theorem ok_isNum {f fI : Addr} {fd fdI : FuncData} (F : Fun K "is_number" "is_number" sIsNum f fd) (T : Bt mg) (FI : Fun K "is_integer" "is_integer" sIsInt fI fdI) (gI : mg "is_integer" = some (.ref fI)) (bI : Binds K fdI ["thing"] []) : FnOk P w K mg base CX0 2 f fd ["thing"] spNum := by
  have GI : FnOk P w K mg base CX0 1 fI fdI ["thing"] spInt := ok_isInt FI T
  refine F.ok scIsNum (fun vs H Q E h => ?_) (fun cdv A outer s H vs Q E hr h => ?_)
  · obtain ⟨v, rfl, _⟩ := h
    rfl
  · obtain ⟨v, rfl, hv, k⟩ := h
    refine ⟨_, (pss_one (ps_ret (pe_and (pe_call GI hr (by rfl) gI FI.kp bI .nil pass0 (pa_cons (pv 0) pa_nil)) (pe_one (pe_cmpR op_ge (pv 0) pe_int (nomark _)))))), ?_⟩
    refine ⟨_, rfl, v, rfl, hv, _, rfl, ?_⟩
    cases v with
    | int i => exact iteT ⟨_, rfl, _, _, rfl, rfl, k⟩
    | _ => exact iteF k
theorem ok_isLst {f : Addr} {fd : FuncData} (F : Fun K "is_list" "is_list" sIsList f fd) (T : Bt mg) : FnOk P w K mg base CX0 1 f fd ["thing"] spLst := by
  refine F.ok scIsList (fun vs H Q E h => ?_) (fun cdv A outer s H vs Q E hr h => ?_)
  · obtain ⟨v, rfl, _⟩ := h
    rfl
  · obtain ⟨v, rfl, hv, k⟩ := h
    refine ⟨_, (pss_one (ps_ret (pe_callB call_isiT (by rfl) T.isi (by decide +kernel) (pa_cons (pv 0) (pa_cons (pe_tup (pa_cons (pe_bltn (v := .ty "list") (by rfl) T.list (by decide +kernel) rfl) (pa_cons (pe_bltn (v := .ty "tuple") (by rfl) T.tuple (by decide +kernel) rfl) pa_nil))) pa_nil))))), ?_⟩
    obtain ⟨Ty, i, b, l, t, s, ty, ki, kb, kl, kt, ks, e1, e2, _⟩ := shp_ty (K := K) hv
    refine ⟨_, rfl, (by show 2 ≤ sizeLine; decide), fun tp htp => ?_⟩
    have e3 := same_new (o := HO.tup [V.ty "list", V.ty "tuple"]) htp
    refine ⟨_, tp, _, _, _, l || t, rfl, upd_same, .cons (.ty _) (.cons (.ty _) .nil), (ty.grow e3).now, kit2 kl kt rfl, ?_⟩
    rw [← e2]
    exact k _ e3
theorem ok_isPlace {f fI fN : Addr} {fd fdI fdN : FuncData} (F : Fun K "is_place" "is_place" sIsPlace f fd) (T : Bt mg) (FI : Fun K "is_integer" "is_integer" sIsInt fI fdI) (gI : mg "is_integer" = some (.ref fI)) (bI : Binds K fdI ["thing"] [])
    (FN : Fun K "is_number" "is_number" sIsNum fN fdN) (gN : mg "is_number" = some (.ref fN)) (bN : Binds K fdN ["thing"] []) : FnOk P w K mg base CX0 3 f fd ["places", "thing"] spPlace := by
  have GN : FnOk P w K mg base CX0 2 fN fdN ["thing"] spNum := ok_isNum FN T FI gI bI
  refine F.ok scIsPlace (fun vs H Q E h => ?_) (fun cdv A outer s H vs Q E hr h => ?_)
  · obtain ⟨n, v, rfl, _⟩ := h
    rfl
  · obtain ⟨n, v, rfl, hv, k⟩ := h
    refine ⟨_, (pss_one (ps_ret (pe_and (pe_call GN hr (by rfl) gN FN.kp bN .nil pass0 (pa_cons (pv 1) pa_nil)) (pe_one (pe_cmpR op_lt (pv 1) (pv 0) (nomark _)))))), ?_⟩
    refine ⟨_, rfl, v, rfl, hv, _, rfl, ?_⟩
    cases v with
    | int i =>
      refine ite2 (fun h0 => ?_) (fun h0 => ?_)
      · refine ⟨_, rfl, _, rfl, _, _, rfl, rfl, ?_⟩
        have e : isP n (.int i) = decide (i < n) := by
          show (decide (0 ≤ i) && decide (i < n)) = decide (i < n)
          rw [show decide (0 ≤ i) = true from h0]
          rfl
        rw [e] at k
        exact k
      · have e : isP n (.int i) = false := by
          show (decide (0 ≤ i) && decide (i < n)) = false
          rw [show decide (0 ≤ i) = false from Bool.eq_false_iff.mpr h0]
          rfl
        rw [e] at k
        exact k
    | _ => exact iteF k
end
end K03

set_option Elab.async false
set_option linter.all false
set_option maxRecDepth 100000
set_option maxHeartbeats 8000000
namespace K03
open PySem PySem.Spec PyProof.Rows L2 Own
theorem cut_to (xs : List V) {k : Int} (h : 0 ≤ k) : cutV xs none (some k) = xs.take k.toNat := by
  obtain ⟨n, rfl⟩ := Int.eq_ofNat_of_zero_le h
  unfold cutV
  rw [HT.sIx_nat]
  show (xs.drop 0).take (min n xs.length - 0) = xs.take n
  rw [List.drop_zero, Nat.sub_zero]
  by_cases z : n ≤ xs.length
  · rw [Nat.min_eq_left z]
  · rw [Nat.min_eq_right (by omega), List.take_of_length_le (Nat.le_refl _), List.take_of_length_le (by omega)]
theorem cut_from (xs : List V) {k : Int} (h : 0 ≤ k) : cutV xs (some k) none = xs.drop k.toNat := by
  obtain ⟨n, rfl⟩ := Int.eq_ofNat_of_zero_le h
  unfold cutV
  rw [HT.sIx_nat]
  show (xs.drop (min n xs.length)).take (xs.length - min n xs.length) = xs.drop n
  by_cases z : n ≤ xs.length
  · rw [Nat.min_eq_left z, List.take_of_length_le (by rw [List.length_drop]; exact Nat.le_refl _)]
  · rw [Nat.min_eq_right (by omega), List.drop_eq_nil_of_le (Nat.le_refl _), List.drop_eq_nil_of_le (by omega), List.take_nil]
/-- tuples stay -/
def TL (H H' : Hp) : Prop := ∀ b t, H b = some (.tup t) → H' b = some (.tup t)
theorem TL.trans {H H1 H2 : Hp} (x : TL H H1) (y : TL H1 H2) : TL H H2 := fun b t e => y b t (x b t e)
theorem TL.refl {H : Hp} : TL H H := fun _ _ e => e
theorem TL.new {H : Hp} {p : Addr} {o : HO} (h : H p = none) : TL H (upd H p o) := fun b t e => same_new h _ _ e
theorem TL.set {H : Hp} {p : Addr} {xs : List V} {o : HO} (h : H p = some (.lst xs)) : TL H (upd H p o) := fun b t e => by
  have n : b ≠ p := fun z => by
    rw [z, h] at e
    cases e
  rw [upd_ne n]
  exact e
theorem strm_ls {N : Int} {H : Hp} {a l : Addr} (S : Strm N H a l) : ∃ xs ys, H a = some (.lst xs) ∧ H l = some (.lst ys) := by
  obtain ⟨xs, c, n, m, h1, h2, _⟩ := S.ex
  exact ⟨_, _, h1, h2⟩
theorem But2.tl {N : Int} {H H' : Hp} {a l : Addr} (b : But2 a l H H') (S : Strm N H a l) : TL H H' := fun c t e => by
  obtain ⟨xs, ys, h1, h2⟩ := strm_ls S
  refine b c _ (fun z => ?_) (fun z => ?_) e
  · rw [z, h1] at e
    cases e
  · rw [z, h2] at e
    cases e
/-- values that are tuples of a kind -/
def AllT (H : Hp) (P : List V → Prop) (xs : List V) : Prop := ∀ v ∈ xs, ∃ p t, v = .ref p ∧ H p = some (.tup t) ∧ P t
theorem AllT.tl {H H' : Hp} {P : List V → Prop} {xs : List V} (h : AllT H P xs) (k : TL H H') : AllT H' P xs := fun v hv => by
  obtain ⟨p, t, e1, e2, e3⟩ := h v hv
  exact ⟨p, t, e1, k _ _ e2, e3⟩
theorem AllT.sub {H : Hp} {P : List V → Prop} {xs ys : List V} (h : AllT H P xs) (k : ∀ v ∈ ys, v ∈ xs) : AllT H P ys := fun v hv => h v (k v hv)
theorem AllT.app {H : Hp} {P : List V → Prop} {xs ys : List V} (h : AllT H P xs) (k : AllT H P ys) : AllT H P (xs ++ ys) := fun v hv => by
  rcases List.mem_append.mp hv with z | z
  · exact h v z
  · exact k v z
theorem AllT.nil {H : Hp} {P : List V → Prop} : AllT H P [] := fun v hv => by cases hv
theorem AllT.one {H : Hp} {P : List V → Prop} {p : Addr} {t : List V} (h : H p = some (.tup t)) (k : P t) : AllT H P [.ref p] := fun v hv => by
  rw [List.mem_singleton.mp hv]
  exact ⟨p, t, rfl, h, k⟩
theorem AllT.cons {H : Hp} {P : List V → Prop} {p : Addr} {t : List V} {xs : List V} (h : H p = some (.tup t)) (k : P t) (r : AllT H P xs) : AllT H P (.ref p :: xs) := (AllT.one h k).app r
/-- a road between some places; those of length 0 lead on in rank -/
def Rok (ps : List Int) (rk : Int → Nat) (t : List V) : Prop := ∃ x y d r : Int, t = [.int x, .int y, .int d, .int r] ∧ x ∈ ps ∧ y ∈ ps ∧ x ≠ y ∧ 0 ≤ d ∧ d ≤ 9 ∧ 1 ≤ r ∧ r ≤ 10 ∧ (d = 0 → rk x < rk y)
theorem nodup_but (b : Int) : ∀ {xs : List Int}, xs.Nodup → xs.length ≤ (xs.filter fun x => !decide (x = b)).length + 1
  | [], _ => Nat.zero_le _
  | x :: r, h => by
    obtain ⟨h1, h2⟩ := List.nodup_cons.mp h
    by_cases z : x = b
    · have e : (r.filter fun x => !decide (x = b)) = r := by
        refine List.filter_eq_self.mpr fun y hy => ?_
        have q : y ≠ b := fun w => h1 (by rw [z, ← w]; exact hy)
        rw [decide_eq_false q]
        rfl
      rw [List.filter_cons, decide_eq_true z]
      show (x :: r).length ≤ (r.filter fun x => !decide (x = b)).length + 1
      rw [e]
      exact Nat.le_refl _
    · have ih := nodup_but b h2
      rw [List.filter_cons, decide_eq_false z]
      show r.length + 1 ≤ (x :: r.filter fun x => !decide (x = b)).length + 1
      rw [List.length_cons]
      omega
/-- two more places -/
theorem two_more {b e : Int} {xs : List Int} (h : xs.Nodup) (hl : 4 ≤ xs.length) : ∃ x y r, (xs.filter fun z => !decide (z = b) && !decide (z = e)) = x :: y :: r ∧ x ≠ y ∧ x ∈ xs ∧ y ∈ xs ∧ x ≠ b ∧ x ≠ e ∧ y ≠ b ∧ y ≠ e := by
  have h1 := nodup_but e h
  have h2 := nodup_but b (h.filter fun x => !decide (x = e))
  rw [List.filter_filter] at h2
  have h3 : ((xs.filter fun z => !decide (z = b) && !decide (z = e))).Nodup := h.filter _
  have hm : ∀ z ∈ (xs.filter fun z => !decide (z = b) && !decide (z = e)), z ∈ xs ∧ z ≠ b ∧ z ≠ e := fun z hz => by
    obtain ⟨q1, q2⟩ := List.mem_filter.mp hz
    refine ⟨q1, fun w => ?_, fun w => ?_⟩
    · rw [decide_eq_true w] at q2
      cases q2
    · rw [decide_eq_true w] at q2
      cases z' : decide (z = b) <;> rw [z'] at q2 <;> cases q2
  generalize (xs.filter fun z => !decide (z = b) && !decide (z = e)) = f at h2 h3 hm
  match f, h3, hm, h2 with
  | [], _, _, h2 => simp at h2; omega
  | [x], _, _, h2 => simp at h2; omega
  | x :: y :: r, h3, hm, _ =>
    refine ⟨x, y, r, rfl, fun z => ?_, (hm x (by simp)).1, (hm y (by simp)).1, (hm x (by simp)).2.1, (hm x (by simp)).2.2, (hm y (by simp)).2.1, (hm y (by simp)).2.2⟩
    rw [z] at h3
    exact (List.nodup_cons.mp h3).1 List.mem_cons_self
abbrev NStep : List Str := ["_law_stream_here", "_law_begin", "_law_end", "_law_order", "_law_wide", "_law_one", "_law_other", "_law_room", "_law_first", "_law_middle", "_law_last", "_law_found", "_law_place"]
theorem scStepping : FnScope NStep ["_law_stream_here", "_law_begin", "_law_end", "_law_order", "_law_wide"] (defScope sStepping) := ⟨rfl, rfl, rfl, by decide +kernel, rfl, by decide +kernel, by decide +kernel⟩
def spStepping : Sp := fun vs H Q _ => ∃ (a l po : Addr) (N b e wide : Int) (ps : List Int), vs = [.ref a, .int b, .int e, .ref po, .int wide] ∧ Strm N H a l ∧ 0 ≤ N ∧ N + 20 ≤ 1000000000 ∧ po ≠ a ∧ po ≠ l ∧
  H po = some (.lst (ps.map V.int)) ∧ ps.Nodup ∧ 4 ≤ ps.length ∧ ps.length ≤ 100 ∧ b ∈ ps ∧ e ∈ ps ∧ 1 ≤ wide ∧ wide ≤ 10 ∧
  ∀ H' q xs, But2 a l H H' → H q = none → H' q = some (.lst xs) → xs.length = 5 → (∀ rk, AllT H' (Rok ps rk) xs) → Strm (N + 20) H' a l → Q (.ref q) H'
section
variable {P : Program} {w : World} {K : PySem.W.Frag} {mg : Str → Option Value} {base : Heap}
theorem ok_stepping {f fD : Addr} {fd fdD : FuncData} (F : Fun K "_law_stepping" "_law_stepping" sStepping f fd) (T : Bt mg) (FD : Fun K "_law_draw" "_law_draw" sDraw fD fdD) (gD : mg "_law_draw" = some (.ref fD)) (bD : Binds K fdD ["_law_stream_here", "_law_many"] []) :
    FnOk P w K mg base CX0 2 f fd ["_law_stream_here", "_law_begin", "_law_end", "_law_order", "_law_wide"] spStepping := by
  have GD : FnOk P w K mg base CX0 1 fD fdD ["_law_stream_here", "_law_many"] spDraw := ok_draw FD T
  refine F.ok scStepping (fun vs H Q E h => ?_) (fun cdv A outer s H vs Q E hr h => ?_)
  · obtain ⟨a, l, po, N, b, e, wide, ps, rfl, _⟩ := h
    rfl
  · obtain ⟨a, l, po, N, b, e, wide, ps, rfl, S, hN0, hN1, hpa, hpl, hp, hnd, hl4, hl1, hb, he, hw0, hw1, k⟩ := h
    refine ⟨_, (pss_cons (ps_asg (pe_slice sl_list (pe_lc (own := [("_law_place", 12)]) (g := gName 12) rfl scStepping.nd (pi_list (pv 3)) (blkOk_by (N := NStep) (sc := defScope sStepping) (by decide +kernel)) (fun _ _ _ _ _ => (pg_name (i := 12) (x := "_law_place") scStepping.nd rfl (Or.inl rfl))) (fun _ _ _ _ _ => (pts_one (PW.pt (pw_and (pt_cmpR op_ne (pv 12) (pv 1) (nomark _)) (pw_and1 (pt_cmpR op_ne (pv 12) (pv 2) (nomark _))))))) (fun _ _ _ _ _ => (pv 12))) po_none (po_some pe_int)) (pg_unl rfl (pgs_cons (pg_name (i := 5) (x := "_law_one") scStepping.nd rfl (Or.inl rfl)) (pgs_cons (pg_name (i := 6) (x := "_law_other") scStepping.nd rfl (Or.inl rfl)) pgs_nil))))
  (pss_cons (ps_par (i := 7) (j := 8) (by rfl) scStepping.nd rfl rfl (by decide) rfl rfl (pa_cons (pe_op op_add pe_int (pe_call GD hr (by rfl) gD FD.kp bD .nil pass0 (pa_cons (pv 0) (pa_cons (pv 4) pa_nil)))) (pa_cons (pe_op op_add pe_int (pe_call GD hr (by rfl) gD FD.kp bD .nil pass0 (pa_cons (pv 0) (pa_cons pe_int pa_nil)))) pa_nil)) (by rfl))
  (pss_cons (ps_par (i := 9) (j := 10) (by rfl) scStepping.nd rfl rfl (by decide) rfl rfl (pa_cons (pe_op op_add pe_int (pe_call GD hr (by rfl) gD FD.kp bD .nil pass0 (pa_cons (pv 0) (pa_cons pe_int pa_nil)))) (pa_cons (pe_op op_add pe_int (pe_call GD hr (by rfl) gD FD.kp bD .nil pass0 (pa_cons (pv 0) (pa_cons pe_int pa_nil)))) pa_nil)) (by rfl))
  (pss_cons (ps_set (i := 11) scStepping.nd rfl (Or.inl rfl) (pe_lst (pa_cons (pe_tup (pa_cons (pv 1) (pa_cons (pv 5) (pa_cons (pv 8) (pa_cons (pv 7) pa_nil))))) (pa_cons (pe_tup (pa_cons (pv 5) (pa_cons (pv 6) (pa_cons (pv 9) (pa_cons (pv 7) pa_nil))))) (pa_cons (pe_tup (pa_cons (pv 6) (pa_cons (pv 2) (pa_cons (pv 10) (pa_cons (pv 7) pa_nil))))) pa_nil)))))
  (pss_cons (ps_expr (pe_bm PySem.F.plainAttrs_list PySem.F.slot_list_append PySem.F.type_list_append mt_append (pv 11) (pa_cons (pe_tup (pa_cons (pv 1) (pa_cons (pv 6) (pa_cons (pe_op op_add (pe_op op_add (pe_op op_add (pv 8) (pv 9)) pe_int) (pe_call GD hr (by rfl) gD FD.kp bD .nil pass0 (pa_cons (pv 0) (pa_cons pe_int pa_nil)))) (pa_cons (pe_op op_add pe_int (pe_call GD hr (by rfl) gD FD.kp bD .nil pass0 (pa_cons (pv 0) (pa_cons (pv 4) pa_nil)))) pa_nil))))) pa_nil)))
  (pss_one (ps_ret (pe_op op_cat (pv 11) (pe_lst (pa_cons (pe_tup (pa_cons (pv 5) (pa_cons (pv 2) (pa_cons (pe_op op_add (pe_op op_add (pe_op op_add (pv 9) (pv 10)) pe_int) (pe_call GD hr (by rfl) gD FD.kp bD .nil pass0 (pa_cons (pv 0) (pa_cons pe_int pa_nil)))) (pa_cons (pe_op op_add pe_int (pe_call GD hr (by rfl) gD FD.kp bD .nil pass0 (pa_cons (pv 0) (pa_cons (pv 4) pa_nil)))) pa_nil))))) pa_nil)))))))))), ?_⟩
    refine ⟨_, rfl, po, rfl, ⟨_, SqL.of hp⟩, fun D hD => ?_⟩
    refine lc_it walk_list (fun i H' => Same H H' ∧ H' D = some (.lst (((ps.take i).filter fun z => !decide (z = b) && !decide (z = e)).map V.int))) ⟨same_new hD, upd_same⟩ (fun i H' _ q => SqL.of (q.1 _ _ hp)) ?_ ?_
    · rintro i x H3 H4 hi ⟨q1, q2⟩ ⟨rfl, hx⟩
      rw [List.getElem?_map] at hx
      obtain ⟨z, hz, rfl⟩ := Option.map_eq_some_iff.mp hx
      have e1 : (ps.take (i + 1)) = ps.take i ++ [z] := by rw [List.take_add_one, hz]; rfl
      have e2 : ((ps.take (i + 1)).filter fun z => !decide (z = b) && !decide (z = e)) = ((ps.take i).filter fun z => !decide (z = b) && !decide (z = e)) ++ ([z].filter fun z => !decide (z = b) && !decide (z = e)) := by rw [e1, List.filter_append]
      have skip : (!decide (z = b) && !decide (z = e)) = false → Same H H4 ∧ H4 D = some (HO.lst (List.map V.int (List.filter (fun z => !decide (z = b) && !decide (z = e)) (List.take (i + 1) ps)))) := fun hf => by
        rw [e2, List.filter_cons, hf]
        refine ⟨q1, ?_⟩
        rw [q2]
        simp
      refine ⟨rfl, _, rfl, _, rfl, rfl, _, rfl, ite2 (fun hc => ?_) (fun hc => ?_)⟩
      · have hzb : z ≠ b := fun w => by
          rw [w, decide_eq_true rfl] at hc
          cases hc
        refine ⟨_, rfl, _, rfl, rfl, _, rfl, ite2 (fun hc2 => ?_) (fun hc2 => ?_)⟩
        · have hze : z ≠ e := fun w => by
            rw [w, decide_eq_true rfl] at hc2
            cases hc2
          refine ⟨_, rfl, _, q2, ?_, fun p o g => ?_, ?_⟩
          · rw [List.length_map]
            refine Nat.lt_of_le_of_lt (List.length_filter_le _ _) ?_
            rw [List.length_take]
            exact Nat.lt_of_le_of_lt (Nat.min_le_right _ _) (Nat.lt_of_le_of_lt hl1 (by decide))
          · rw [upd_ne (ne_of_none g hD)]
            exact q1 _ _ g
          · rw [upd_same, e2, List.map_append, List.filter_cons, decide_eq_false hzb, decide_eq_false hze]
            rfl
        · have hze : z = e := by
            cases w : decide (z = e) with
            | true => exact of_decide_eq_true w
            | false => exact absurd (fun w2 => of_decide_eq_false w (V.int.inj w2)) (by simpa using hc2)
          refine skip ?_
          rw [decide_eq_true hze]
          simp
      · have hzb : z = b := by
          cases w : decide (z = b) with
          | true => exact of_decide_eq_true w
          | false => exact absurd (fun w2 => of_decide_eq_false w (V.int.inj w2)) (by simpa using hc)
        refine skip ?_
        rw [decide_eq_true hzb]
        rfl
    · rintro H3 ⟨q1, q2⟩
      obtain ⟨x, y, r, ef, nxy, hx, hy, nxb, nxe, nyb, nye⟩ := two_more (b := b) (e := e) hnd hl4
      rw [List.length_map, List.take_of_length_le (Nat.le_refl _), ef] at q2
      refine ⟨_, rfl, D, _, rfl, SqL.of q2, fun t ht => ?_⟩
      rw [cut_to _ (by decide)]
      have S3 : Strm N H3 a l := S.but q1
      have b3 : But2 a l H H3 := fun p o h1 h2 g => q1 _ _ g
      generalize hH5 : upd H3 t (.lst (List.take (Int.toNat 2) (List.map V.int (x :: y :: r)))) = H5
      have b5 : But2 a l H H5 := by rw [← hH5]; exact but2_new b3 ht
      have S5 : Strm N H5 a l := by rw [← hH5]; exact S3.but (same_new ht)
      have g5 : H5 t = some (.lst [.int x, .int y]) := by rw [← hH5]; exact upd_same
      refine ⟨t, _, rfl, SqL.of g5, rfl, _, _, rfl, _, _, rfl, rfl, ?_⟩
      refine ⟨_, rfl, _, rfl, a, l, _, wide, rfl, S5, hN0, by omega, by omega, by omega, fun H6 d1 p1 r1 b6 S6 => ?_⟩
      refine ⟨_, _, rfl, rfl, _, rfl, a, l, _, 2, rfl, S6, by omega, by omega, by decide, by decide, fun H7 d2 p2 r2 b7 S7 => ?_⟩
      refine ⟨_, _, rfl, rfl, _, _, rfl, ?_⟩
      refine ⟨_, rfl, a, l, _, 2, rfl, S7, by omega, by omega, by decide, by decide, fun H8 d3 p3 r3 b8 S8 => ?_⟩
      refine ⟨_, _, rfl, rfl, _, rfl, a, l, _, 2, rfl, S8, by omega, by omega, by decide, by decide, fun H9 d4 p4 r4 b9 S9 => ?_⟩
      refine ⟨_, _, rfl, rfl, _, _, rfl, ?_⟩
      have c9 : But2 a l H H9 := (((b5.trans b6).trans b7).trans b8).trans b9
      refine ⟨_, rfl, _, rfl, _, rfl, _, rfl, (by show 4 ≤ sizeLine; decide), fun t1 ht1 => ?_⟩
      refine ⟨_, rfl, _, rfl, _, rfl, _, rfl, (by show 4 ≤ sizeLine; decide), fun t2 ht2 => ?_⟩
      refine ⟨_, rfl, _, rfl, _, rfl, _, rfl, (by show 4 ≤ sizeLine; decide), fun t3 ht3 => ?_⟩
      refine ⟨(by show 3 ≤ sizeLine; decide), fun t4 ht4 => ?_⟩
      have u1 := same_new (o := .tup [.int b, .int x, .int (1 + d2), .int (1 + d1)]) ht1
      have u2 := same_new (o := .tup [.int x, .int y, .int (1 + d3), .int (1 + d1)]) ht2
      have u3 := same_new (o := .tup [.int y, .int e, .int (1 + d4), .int (1 + d1)]) ht3
      have u4 := same_new (o := .lst [.ref t1, .ref t2, .ref t3]) ht4
      have v1 := (u2.trans (u3.trans u4)) _ _ upd_same
      have v2 := (u3.trans u4) _ _ upd_same
      have v3 := u4 _ _ upd_same
      have S10 := S9.but (u1.trans (u2.trans (u3.trans u4)))
      have S93 := S9.but (u1.trans (u2.trans u3))
      have n4 := S93.ne_new ht4
      have f4 : H t4 = none := But2.fresh (((c9.trans (fun p o _ _ g => u1 p o g)).trans (fun p o _ _ g => u2 p o g)).trans (fun p o _ _ g => u3 p o g)) S93 ht4
      have b10 := ((((c9.trans (fun p o _ _ g => u1 p o g)).trans (fun p o _ _ g => u2 p o g)).trans (fun p o _ _ g => u3 p o g)).trans (fun p o _ _ g => u4 p o g))
      have v4 : upd (upd (upd (upd H9 t1 (.tup [.int b, .int x, .int (1 + d2), .int (1 + d1)])) t2 (.tup [.int x, .int y, .int (1 + d3), .int (1 + d1)])) t3 (.tup [.int y, .int e, .int (1 + d4), .int (1 + d1)])) t4 (.lst [.ref t1, .ref t2, .ref t3]) t4 = some (.lst [.ref t1, .ref t2, .ref t3]) := upd_same
      refine ⟨_, rfl, .inl ⟨rfl, _, SqL.of v4⟩, _, rfl, _, rfl, _, rfl, _, rfl, _, _, rfl, rfl, _, _, rfl, rfl, ?_⟩
      clear u1 u2 u3 u4
      refine ⟨_, rfl, a, l, _, 3, rfl, S10, by omega, by omega, by decide, by decide, fun H11 d5 p5 r5 b11 S11 => ?_⟩
      refine ⟨_, _, rfl, rfl, _, rfl, _, rfl, a, l, _, wide, rfl, S11, by omega, by omega, by omega, by omega, fun H12 d6 p6 r6 b12 S12 => ?_⟩
      refine ⟨_, _, rfl, rfl, (by show 4 ≤ sizeLine; decide), fun t5 ht5 => ?_⟩
      have k12 : TL _ H12 := (b11.tl S10).trans (b12.tl S11)
      have w1 := k12 _ _ v1
      have w2 := k12 _ _ v2
      have w3 := k12 _ _ v3
      have w4 := b12 _ _ n4.1 n4.2 (b11 _ _ n4.1 n4.2 v4)
      have c12 : But2 a l H H12 := ((show But2 a l H _ from b10).trans b11).trans b12
      clear v1 v2 v3 v4 k12 b11 b12 S11 S10 b10 S93
      have u5 := same_new (o := .tup [.int b, .int y, .int (1 + d2 + (1 + d3) + 1 + d5), .int (1 + d6)]) ht5
      have n54 : t4 ≠ t5 := ne_of_none w4 ht5
      refine ⟨t4, _, _, rfl, rfl, u5 _ _ w4, (by show 3 < sizeLine; decide), ?_⟩
      refine ⟨_, rfl, ?_⟩
      have s5 : TL (upd H12 t5 (.tup [.int b, .int y, .int (1 + d2 + (1 + d3) + 1 + d5), .int (1 + d6)])) (upd (upd H12 t5 (.tup [.int b, .int y, .int (1 + d2 + (1 + d3) + 1 + d5), .int (1 + d6)])) t4 (.lst [.ref t1, .ref t2, .ref t3, .ref t5])) := TL.set (u5 _ _ w4)
      have x5 := s5 _ _ upd_same
      have x1 := s5 _ _ (u5 _ _ w1)
      have x2 := s5 _ _ (u5 _ _ w2)
      have x3 := s5 _ _ (u5 _ _ w3)
      have x4 : (upd (upd H12 t5 (.tup [.int b, .int y, .int (1 + d2 + (1 + d3) + 1 + d5), .int (1 + d6)])) t4 (.lst [.ref t1, .ref t2, .ref t3, .ref t5])) t4 = some (.lst [.ref t1, .ref t2, .ref t3, .ref t5]) := upd_same
      have c13 : But2 a l H (upd (upd H12 t5 (.tup [.int b, .int y, .int (1 + d2 + (1 + d3) + 1 + d5), .int (1 + d6)])) t4 (.lst [.ref t1, .ref t2, .ref t3, .ref t5])) := fun p o h1 h2 g => by
        rw [upd_ne (ne_of_none g f4)]
        exact u5 _ _ (c12 _ _ h1 h2 g)
      have S13 : Strm _ (upd (upd H12 t5 (.tup [.int b, .int y, .int (1 + d2 + (1 + d3) + 1 + d5), .int (1 + d6)])) t4 (.lst [.ref t1, .ref t2, .ref t3, .ref t5])) a l := (S12.but u5).upd n4.1 n4.2
      refine ⟨_, rfl, _, rfl, _, rfl, _, rfl, _, _, rfl, rfl, _, _, rfl, rfl, ?_⟩
      refine ⟨_, rfl, a, l, _, 3, rfl, S13, by omega, by omega, by decide, by decide, fun H14 d7 p7 r7 b14 S14 => ?_⟩
      refine ⟨_, _, rfl, rfl, _, rfl, _, rfl, a, l, _, wide, rfl, S14, by omega, by omega, by omega, by omega, fun H15 d8 p8 r8 b15 S15 => ?_⟩
      refine ⟨_, _, rfl, rfl, (by show 4 ≤ sizeLine; decide), fun t6 ht6 => ?_⟩
      have k15 : TL _ H15 := (b14.tl S13).trans (b15.tl S14)
      have y1 := k15 _ _ x1
      have y2 := k15 _ _ x2
      have y3 := k15 _ _ x3
      have y5 := k15 _ _ x5
      have y4 := b15 _ _ n4.1 n4.2 (b14 _ _ n4.1 n4.2 x4)
      have c15 : But2 a l H H15 := (c13.trans b14).trans b15
      clear x1 x2 x3 x4 x5 k15 b14 b15 S14 S13 c13 s5
      refine ⟨(by show 1 ≤ sizeLine; decide), fun t7 ht7 => ?_⟩
      have u6 := same_new (o := .tup [.int x, .int e, .int (1 + d3 + (1 + d4) + 1 + d7), .int (1 + d8)]) ht6
      have u7 := same_new (o := .lst [.ref t6]) ht7
      refine ⟨t4, t7, _, _, rfl, rfl, (u6.trans u7) _ _ y4, upd_same, (by show 5 ≤ sizeLine; decide), fun q hq => ?_⟩
      have u8 := same_new (o := .lst [.ref t1, .ref t2, .ref t3, .ref t5, .ref t6]) hq
      have uu := u6.trans (u7.trans u8)
      have S16 := S15.but (u6.trans u7)
      have c16 : But2 a l H _ := fun p o h1 h2 g => (u6.trans u7) _ _ (c15 p o h1 h2 g)
      refine k _ q _ (fun p o h1 h2 g => u8 _ _ (c16 p o h1 h2 g)) (But2.fresh c16 S16 hq) upd_same rfl (fun rk => ?_) ((S15.but uu).mono (by omega))
      have pl : ∀ d r : Int, 1 ≤ d → ∀ u v : Int, d = 0 → rk u < rk v := fun d r h u v z => by omega
      refine AllT.cons (uu _ _ y1) ⟨b, x, _, _, rfl, hb, hx, nxb.symm, by omega, by omega, by omega, by omega, fun z => by omega⟩ ?_
      refine AllT.cons (uu _ _ y2) ⟨x, y, _, _, rfl, hx, hy, nxy, by omega, by omega, by omega, by omega, fun z => by omega⟩ ?_
      refine AllT.cons (uu _ _ y3) ⟨y, e, _, _, rfl, hy, he, nye, by omega, by omega, by omega, by omega, fun z => by omega⟩ ?_
      refine AllT.cons (uu _ _ y5) ⟨b, y, _, _, rfl, hb, hy, nyb.symm, by omega, by omega, by omega, by omega, fun z => by omega⟩ ?_
      exact AllT.one ((u7.trans u8) _ _ upd_same) ⟨x, e, _, _, rfl, hx, he, nxe, by omega, by omega, by omega, by omega, fun z => by omega⟩
end
end K03

set_option Elab.async false
set_option linter.all false
set_option maxRecDepth 100000
set_option maxHeartbeats 8000000
namespace K03
open PySem PySem.Spec PyProof.Rows L2 Own
theorem ixT {X : Cx} {K : PySem.W.Frag} (h : X.K = K) : IxR X (rIxT K) := by
  subst h
  exact ix_tup
/-- a permutation of ints is one of ints -/
theorem perm_ints {ys : List V} {xs : List Int} (h : List.Perm ys (xs.map V.int)) : ∃ zs : List Int, ys = zs.map V.int ∧ List.Perm zs xs := by
  let g : V → Int := fun v => match v with | .int i => i | _ => 0
  have e : ∀ (ws : List V), (∀ v ∈ ws, v ∈ xs.map V.int) → ws = (ws.map g).map V.int := fun ws => by
    induction ws with
    | nil => exact fun _ => rfl
    | cons w r ih =>
      intro hm
      obtain ⟨i, _, hi⟩ := List.mem_map.mp (hm w List.mem_cons_self)
      have e2 := ih fun v hv => hm v (List.mem_cons_of_mem _ hv)
      rw [List.map_cons, List.map_cons, ← e2, ← hi]
  refine ⟨ys.map g, e ys fun v hv => h.mem_iff.mp hv, ?_⟩
  have p := h.map g
  rw [List.map_map] at p
  have z : (g ∘ V.int) = id := rfl
  rw [z, List.map_id] at p
  exact p
/-- the places in a drawn order -/
structure Hm (many cut : Int) (ps : List Int) : Prop where
  nd : ps.Nodup
  len : (ps.length : Int) = many
  mem : ∀ x ∈ ps, 0 ≤ x ∧ x < many
  c1 : 1 ≤ cut
  c2 : cut < many
  m2 : 2 ≤ many
  m20 : many ≤ 20
structure Hl (long wide late : Int) : Prop where
  l1 : 1 ≤ long
  l2 : long ≤ 5
  w1 : 1 ≤ wide
  w2 : wide ≤ 10
  t1 : 1 ≤ late
  t2 : late ≤ 3
theorem range_perm {many : Int} (h2 : 2 ≤ many) {ys : List V} (h : List.Perm ys (rgV 0 many)) : ∃ ps : List Int, ys = ps.map V.int ∧ ps.Nodup ∧ (ps.length : Int) = many ∧ ∀ x ∈ ps, 0 ≤ x ∧ x < many := by
  have e : rgV 0 many = ((List.range many.toNat).map fun i : Nat => (i : Int)).map V.int := by
    unfold rgV
    rw [List.map_map, Int.sub_zero]
    refine List.map_congr_left fun i _ => ?_
    show V.int (0 + (i : Int)) = V.int (i : Int)
    rw [Int.zero_add]
  rw [e] at h
  obtain ⟨ps, rfl, pm⟩ := perm_ints h
  refine ⟨ps, rfl, ?_, ?_, fun x hx => ?_⟩
  · refine pm.nodup_iff.mpr ?_
    refine List.Pairwise.map _ (fun i j n z => n (Int.ofNat.inj z)) List.nodup_range
  · rw [pm.length_eq, List.length_map, List.length_range]
    omega
  · obtain ⟨i, hi, rfl⟩ := List.mem_map.mp (pm.mem_iff.mp hx)
    have := List.mem_range.mp hi
    omega
/-- a list that is the def's own: new, and not the stream's -/
structure Fr (a l : Addr) (H0 : Hp) (p : Addr) : Prop where
  na : p ≠ a
  nl : p ≠ l
  f : H0 p = none
theorem Fr.of {a l p : Addr} {H0 H : Hp} {n : Int} (b : But2 a l H0 H) (t : Strm n H a l) (h : H p = none) : Fr a l H0 p := ⟨(t.ne_new h).1, (t.ne_new h).2, b.fresh t h⟩
/-- what holds throughout -/
structure B0 (a l po : Addr) (H0 : Hp) (ps : List Int) (n : Int) (H : Hp) : Prop where
  b : But2 a l H0 H
  t : Strm n H a l
  o : H po = some (.lst (ps.map V.int))
  r : Fr a l H0 po
theorem B0.draw {a l po : Addr} {H0 H H' : Hp} {ps : List Int} {n m : Int} (x : B0 a l po H0 ps n H) (b : But2 a l H H') (t : Strm m H' a l) : B0 a l po H0 ps m H' := ⟨x.b.trans b, t, b _ _ x.r.na x.r.nl x.o, x.r⟩
theorem B0.same {a l po : Addr} {H0 H H' : Hp} {ps : List Int} {n : Int} (x : B0 a l po H0 ps n H) (b : Same H H') : B0 a l po H0 ps n H' := ⟨x.b.trans fun p o _ _ g => b p o g, x.t.but b, b _ _ x.o, x.r⟩
theorem B0.new {a l po p : Addr} {H0 H : Hp} {ps : List Int} {n : Int} {o : HO} (x : B0 a l po H0 ps n H) (h : H p = none) : B0 a l po H0 ps n (upd H p o) := x.same (same_new h)
theorem B0.set {a l po p : Addr} {H0 H : Hp} {ps : List Int} {n : Int} {o : HO} (x : B0 a l po H0 ps n H) (r : Fr a l H0 p) (h : p ≠ po) : B0 a l po H0 ps n (upd H p o) := ⟨fun q u h1 h2 g => by
  rw [upd_ne (ne_of_none g r.f)]
  exact x.b q u h1 h2 g, x.t.upd r.na r.nl, by rw [upd_ne h.symm]; exact x.o, x.r⟩
theorem B0.mono {a l po : Addr} {H0 H : Hp} {ps : List Int} {n m : Int} (x : B0 a l po H0 ps n H) (h : n ≤ m) : B0 a l po H0 ps m H := ⟨x.b, x.t.mono h, x.o, x.r⟩
theorem B0.fr {a l po p : Addr} {H0 H : Hp} {ps : List Int} {n : Int} (x : B0 a l po H0 ps n H) (h : H p = none) : Fr a l H0 p := Fr.of x.b x.t h
theorem B0.tl {a l po : Addr} {H0 H H' : Hp} {ps : List Int} {n : Int} (x : B0 a l po H0 ps n H) (b : But2 a l H H') : TL H H' := b.tl x.t
/-- a door at one of the places -/
def Dok (ps : List Int) (S : Int → Bool) (t : List V) : Prop := ∃ x h : Int, t = [.str (if S x = true then "in" else "out"), .int x, .int h] ∧ x ∈ ps ∧ 0 ≤ h ∧ h ≤ 9
def InT (t : List V) : Prop := ∃ x h : Int, t = [.str "in", .int x, .int h]
def OutT (t : List V) : Prop := ∃ x h : Int, t = [.str "out", .int x, .int h]
def Has (H : Hp) (P : List V → Prop) (xs : List V) : Prop := ∃ v ∈ xs, ∃ p t, v = .ref p ∧ H p = some (.tup t) ∧ P t
theorem Has.tl {H H' : Hp} {P : List V → Prop} {xs : List V} (h : Has H P xs) (k : TL H H') : Has H' P xs := by
  obtain ⟨v, hv, p, t, e1, e2, e3⟩ := h
  exact ⟨v, hv, p, t, e1, k _ _ e2, e3⟩
theorem Has.sub {H : Hp} {P : List V → Prop} {xs ys : List V} (h : Has H P xs) (k : ∀ v ∈ xs, v ∈ ys) : Has H P ys := by
  obtain ⟨v, hv, r⟩ := h
  exact ⟨v, k v hv, r⟩
def Pok (ps : List Int) (t : List V) : Prop := ∃ x y : Int, t = [.int x, .int y] ∧ x ∈ ps ∧ y ∈ ps ∧ x ≠ y
/-- whether a place is one of the INS' -/
def Sof (ps : List Int) (cut : Int) (x : Int) : Bool := decide (x ∈ ps.take cut.toNat)
/-- the drawn house in the heap -/
structure HouseAt (H : Hp) (many full doors : Int) (pr pd : Addr) (xs ys : List V) : Prop where
  m2 : 2 ≤ many
  m20 : many ≤ 20
  r : H pr = some (.lst xs)
  d : H pd = some (.lst ys)
  ne : pr ≠ pd
  roads : ∃ (ps : List Int) (rk : Int → Nat) (S : Int → Bool), (∀ x ∈ ps, 0 ≤ x ∧ x < many) ∧ AllT H (Rok ps rk) xs ∧ AllT H (Dok ps S) ys
  i : Has H InT ys
  o : Has H OutT ys
  lr : (xs.length : Int) ≤ full
  ld : (ys.length : Int) ≤ doors
  ld2 : 2 ≤ ys.length
  lr1 : 1 ≤ full → 0 < xs.length
def spHouse : Sp := fun vs H Q _ => ∃ (a l : Addr) (N places full doors : Int), vs = [.ref a, .int places, .int full, .int doors] ∧ Strm N H a l ∧ 0 ≤ N ∧ N + 2000 ≤ 1000000000 ∧ 2 ≤ places ∧ places ≤ 20 ∧ 0 ≤ full ∧ full ≤ 100 ∧ 2 ≤ doors ∧ doors ≤ 20 ∧
  ∀ H' t pr pd many xs ys, But2 a l H H' → H t = none → H pr = none → H pd = none → H' t = some (.tup [.int many, .ref pr, .ref pd]) → many ≤ places → HouseAt H' many full doors pr pd xs ys → Strm (N + 2000) H' a l → Q (.ref t) H'
end K03

set_option Elab.async false
set_option linter.all false
set_option maxRecDepth 100000
set_option maxHeartbeats 8000000
namespace K03
open PySem PySem.Spec PyProof.Rows L2 Own
abbrev NHouse : List Str := ["_law_stream_here", "_law_places", "_law_full", "_law_doors", "_law_many", "_law_order", "_law_found", "_law_some", "_law_long", "_law_wide", "_law_late", "_law_cut", "_law_k", "_law_sort", "_law_begins", "_law_ends", "_law_line", "_law_one", "_law_other", "_law_roads", "_law_rank", "_law_length", "_law_crossed", "_law_at", "_law_door"]
theorem scHouse : FnScope NHouse ["_law_stream_here", "_law_places", "_law_full", "_law_doors"] (defScope sHouse) := ⟨rfl, rfl, rfl, by decide +kernel, rfl, by decide +kernel, by decide +kernel⟩
/-- the slots behind the first rows -/
abbrev sgA (a po pf pn : Addr) (places full doors many long wide late cut : Int) (k sort begins ends line one other roads rank length crossed at_ : Option V) : L2.St :=
  [some (.ref a), some (.int places), some (.int full), some (.int doors), some (.int many), some (.ref po), some (.ref pf), some (.ref pn), some (.int long), some (.int wide), some (.int late), some (.int cut), k, sort, begins, ends, line, one, other, roads, rank, length, crossed, at_, none]
def MA (a l : Addr) (H0 : Hp) (N places full doors : Int) : L2.St → Hp → Prop := fun σ H => ∃ (po pf pn : Addr) (many long wide late cut : Int) (ps : List Int),
  σ = sgA a po pf pn places full doors many long wide late cut none none none none none none none none none none none none ∧ Hm many cut ps ∧ many ≤ places ∧ Hl long wide late ∧ B0 a l po H0 ps (N + 110) H ∧
  Fr a l H0 pf ∧ Fr a l H0 pn ∧ po ≠ pf ∧ po ≠ pn ∧ pf ≠ pn ∧ H pf = some (.lst []) ∧ H pn = some (.lst [])
/-- all stays but what stands at a, l and p -/
def But3 (a l p : Addr) (H H' : Hp) : Prop := ∀ b o, b ≠ a → b ≠ l → b ≠ p → H b = some o → H' b = some o
/-- the places of INS, of OUTS -/
structure Ends (a l : Addr) (H0 : Hp) (p : Addr) (ps bs : List Int) (H : Hp) : Prop where
  r : Fr a l H0 p
  h : H p = some (.lst (bs.map V.int))
  n : 0 < bs.length
  m : bs.length ≤ 20
  s : ∀ x ∈ bs, x ∈ ps
theorem Has.one {H : Hp} {P : List V → Prop} {xs : List V} {i : Nat} {x : V} (h : Has H P (xs.take (i + 1))) (e : xs[i]? = some x) : Has H P (xs.take i) ∨ ∃ p t, x = .ref p ∧ H p = some (.tup t) ∧ P t := by
  obtain ⟨v, hv, r⟩ := h
  rw [List.take_add_one, e] at hv
  rcases List.mem_append.mp hv with z | z
  · exact .inl ⟨v, z, r⟩
  · obtain rfl : v = x := by simpa using z
    exact .inr r
/-- two neighbours are unlike -/
def Nb (L : List Int) (i : Nat) : Prop := ∃ k u v, k < i ∧ L[k]? = some u ∧ L[k + 1]? = some v ∧ u ≠ v
theorem nb_of {L : List Int} {x : Int} (h : L[0]? = some x) : ∀ {n : Nat} {y : Int}, L[n]? = some y → x ≠ y → Nb L n
  | 0, y, e, ne => by
    rw [h] at e
    exact absurd (Option.some.inj e) ne
  | n + 1, y, e, ne => by
    have hn : n < L.length := by
      have := (List.getElem?_eq_some_iff.mp e).1
      omega
    by_cases z : L[n] = y
    · obtain ⟨k, u, v, h1, h2⟩ := nb_of h (n := n) (y := y) (by rw [List.getElem?_eq_getElem hn, z]) ne
      exact ⟨k, u, v, by omega, h2⟩
    · exact ⟨n, L[n], y, by omega, List.getElem?_eq_getElem hn, e, z⟩
theorem Nb.down {L : List Int} {j : Nat} (h : Nb L (j + 1)) (e : ∀ u v, L[j]? = some u → L[j + 1]? = some v → u = v) : Nb L j := by
  obtain ⟨k, u, v, h1, h2, h3, h4⟩ := h
  by_cases z : k = j
  · subst z
    exact absurd (e u v h2 h3) h4
  · exact ⟨k, u, v, by omega, h2, h3, h4⟩
def sorts0 (acc : List V) : List V := [.str "in", .str "out"] ++ acc
def MB (a l : Addr) (H0 : Hp) (N places full doors : Int) : L2.St → Hp → Prop := fun σ H => ∃ (po pf pn : Addr) (many long wide late cut : Int) (ps : List Int) (sort : Option V) (xs : List V),
  σ = sgA a po pf pn places full doors many long wide late cut none sort none none none none none none none none none none ∧ Hm many cut ps ∧ many ≤ places ∧ Hl long wide late ∧ B0 a l po H0 ps (N + 200) H ∧
  Fr a l H0 pf ∧ Fr a l H0 pn ∧ po ≠ pf ∧ po ≠ pn ∧ pf ≠ pn ∧ H pf = some (.lst []) ∧ H pn = some (.lst xs) ∧ AllT H (Dok ps (Sof ps cut)) xs ∧ Has H InT xs ∧ Has H OutT xs ∧ 2 ≤ xs.length ∧ (xs.length : Int) ≤ doors
structure LB (a l : Addr) (H0 : Hp) (N : Int) (po pf pn q : Addr) (cut : Int) (ps : List Int) (sorts : List V) (sh : L2.St → Prop) (i : Nat) (σ : L2.St) (H : Hp) : Prop where
  s : sh σ
  b : B0 a l po H0 ps (N + 2 * i) H
  f : H pf = some (.lst [])
  q : H q = some (.lst sorts)
  n : ∃ xs, H pn = some (.lst xs) ∧ xs.length = i ∧ AllT H (Dok ps (Sof ps cut)) xs ∧ (0 < i → Has H InT xs) ∧ (1 < i → Has H OutT xs)
def MC (a l : Addr) (H0 : Hp) (N places full doors : Int) : L2.St → Hp → Prop := fun σ H => ∃ (po pf pn pb pe : Addr) (many long wide late cut : Int) (ps bs es : List Int) (sort : Option V) (xs : List V),
  σ = sgA a po pf pn places full doors many long wide late cut none sort (some (.ref pb)) (some (.ref pe)) none none none none none none none none ∧ Hm many cut ps ∧ many ≤ places ∧ Hl long wide late ∧ B0 a l po H0 ps (N + 200) H ∧
  Fr a l H0 pf ∧ Fr a l H0 pn ∧ po ≠ pf ∧ po ≠ pn ∧ pf ≠ pn ∧ H pf = some (.lst []) ∧ H pn = some (.lst xs) ∧ AllT H (Dok ps (Sof ps cut)) xs ∧ Has H InT xs ∧ Has H OutT xs ∧ 2 ≤ xs.length ∧ (xs.length : Int) ≤ doors ∧
  Ends a l H0 pb ps bs H ∧ Ends a l H0 pe ps es H ∧ pb ≠ pf ∧ pe ≠ pf ∧ (∀ x ∈ bs, Sof ps cut x = true) ∧ ∀ x ∈ es, Sof ps cut x = false
theorem Ends.draw {a l p : Addr} {H0 H H' : Hp} {ps bs : List Int} (x : Ends a l H0 p ps bs H) (b : But2 a l H H') : Ends a l H0 p ps bs H' := ⟨x.r, b _ _ x.r.na x.r.nl x.h, x.n, x.m, x.s⟩
theorem Ends.same {a l p : Addr} {H0 H H' : Hp} {ps bs : List Int} (x : Ends a l H0 p ps bs H) (b : Same H H') : Ends a l H0 p ps bs H' := ⟨x.r, b _ _ x.h, x.n, x.m, x.s⟩
theorem Ends.set {a l p q : Addr} {H0 H : Hp} {o : HO} {ps bs : List Int} (x : Ends a l H0 p ps bs H) (h : p ≠ q) : Ends a l H0 p ps bs (upd H q o) := ⟨x.r, by rw [upd_ne h]; exact x.h, x.n, x.m, x.s⟩
/-- what stays while roads are laid -/
structure Kept (a l : Addr) (H0 : Hp) (po pf pn pb pe : Addr) (ps bs es : List Int) (xs : List V) (G0 : Hp) (n : Int) (H : Hp) : Prop where
  b : B0 a l po H0 ps n H
  n : H pn = some (.lst xs)
  t : TL G0 H
  x : Ends a l H0 pb ps bs H
  y : Ends a l H0 pe ps es H
  fn : Fr a l H0 pn
theorem Kept.draw {a l po pf pn pb pe : Addr} {H0 G0 H H' : Hp} {ps bs es : List Int} {xs : List V} {n m : Int} (w : Kept a l H0 po pf pn pb pe ps bs es xs G0 n H) (b : But2 a l H H') (S : Strm m H' a l) : Kept a l H0 po pf pn pb pe ps bs es xs G0 m H' :=
  ⟨w.b.draw b S, b _ _ w.fn.na w.fn.nl w.n, w.t.trans (b.tl w.b.t), w.x.draw b, w.y.draw b, w.fn⟩
theorem Kept.same {a l po pf pn pb pe : Addr} {H0 G0 H H' : Hp} {ps bs es : List Int} {xs : List V} {n : Int} (w : Kept a l H0 po pf pn pb pe ps bs es xs G0 n H) (b : Same H H') : Kept a l H0 po pf pn pb pe ps bs es xs G0 n H' :=
  ⟨w.b.same b, b _ _ w.n, w.t.trans fun c t e => b _ _ e, w.x.same b, w.y.same b, w.fn⟩
theorem Kept.new {a l po pf pn pb pe p : Addr} {H0 G0 H : Hp} {o : HO} {ps bs es : List Int} {xs : List V} {n : Int} (w : Kept a l H0 po pf pn pb pe ps bs es xs G0 n H) (h : H p = none) : Kept a l H0 po pf pn pb pe ps bs es xs G0 n (upd H p o) := w.same (same_new h)
theorem Kept.set {a l po pf pn pb pe p : Addr} {H0 G0 H : Hp} {o : HO} {zs : List V} {ps bs es : List Int} {xs : List V} {n : Int} (w : Kept a l H0 po pf pn pb pe ps bs es xs G0 n H) (r : Fr a l H0 p) (h : H p = some (.lst zs)) (h1 : p ≠ po) (h2 : p ≠ pn) (h3 : p ≠ pb) (h4 : p ≠ pe) : Kept a l H0 po pf pn pb pe ps bs es xs G0 n (upd H p o) :=
  ⟨w.b.set r h1, by rw [upd_ne h2.symm]; exact w.n, w.t.trans (TL.set h), w.x.set h3.symm, w.y.set h4.symm, w.fn⟩
theorem Kept.mono {a l po pf pn pb pe : Addr} {H0 G0 H : Hp} {ps bs es : List Int} {xs : List V} {n m : Int} (w : Kept a l H0 po pf pn pb pe ps bs es xs G0 n H) (h : n ≤ m) : Kept a l H0 po pf pn pb pe ps bs es xs G0 m H := ⟨w.b.mono h, w.n, w.t, w.x, w.y, w.fn⟩
structure LE (a l : Addr) (H0 : Hp) (N : Int) (po pf pn pb pe : Addr) (ps bs es : List Int) (xs : List V) (G0 : Hp) (sh : L2.St → Prop) (i : Nat) (σ : L2.St) (H : Hp) : Prop where
  s : sh σ
  w : Kept a l H0 po pf pn pb pe ps bs es xs G0 (N + 110 * i) H
  f : ∃ fs, H pf = some (.lst fs) ∧ (fs.length ≤ 30 + i ∧ 0 < fs.length) ∧ AllT H (Pok ps) fs
structure LD (a l : Addr) (H0 : Hp) (N : Int) (po pf pn pb pe : Addr) (ps bs es : List Int) (xs : List V) (G0 : Hp) (sh : L2.St → Prop) (i : Nat) (σ : L2.St) (H : Hp) : Prop where
  s : sh σ
  w : Kept a l H0 po pf pn pb pe ps bs es xs G0 (N + 110 * i) H
  f : ∃ fs, H pf = some (.lst fs) ∧ (fs.length ≤ 3 * i ∧ (0 < i → 0 < fs.length)) ∧ AllT H (Pok ps) fs
def MD (cap : Nat) (a l : Addr) (H0 : Hp) (N M places full doors : Int) : L2.St → Hp → Prop := fun σ H => ∃ (po pf pn pb pe : Addr) (many long wide late cut : Int) (ps bs es : List Int) (k sort line one other : Option V) (xs fs : List V) (G0 : Hp),
  σ = sgA a po pf pn places full doors many long wide late cut k sort (some (.ref pb)) (some (.ref pe)) line one other none none none none none ∧ Hm many cut ps ∧ many ≤ places ∧ Hl long wide late ∧
  Fr a l H0 pf ∧ po ≠ pf ∧ po ≠ pn ∧ pf ≠ pn ∧ AllT G0 (Dok ps (Sof ps cut)) xs ∧ Has G0 InT xs ∧ Has G0 OutT xs ∧ 2 ≤ xs.length ∧ (xs.length : Int) ≤ doors ∧
  Kept a l H0 po pf pn pb pe ps bs es xs G0 (N + M) H ∧ pb ≠ pf ∧ pe ≠ pf ∧ H pf = some (.lst fs) ∧ (fs.length ≤ cap ∧ 0 < fs.length) ∧ AllT H (Pok ps) fs
/-- the ranks of the places, in a list at pk -/
structure Rnk (a l : Addr) (H0 : Hp) (pk : Addr) (ps rs : List Int) (H : Hp) : Prop where
  r : Fr a l H0 pk
  h : H pk = some (.lst (rs.map V.int))
  p : List.Perm rs ps
def rkOf (rs : List Int) (x : Int) : Nat := rs.idxOf x
theorem idx_ok {x : Int} : ∀ {rs : List Int}, x ∈ rs → (rs.map V.int)[rs.idxOf x]? = some (.int x) ∧ ∀ (m : Nat) (z' : V), m < rs.idxOf x → (rs.map V.int)[m]? = some z' → eqV z' (.int x) = false
  | y :: r, h => by
    rw [List.idxOf_cons]
    by_cases e : y = x
    · subst e
      rw [beq_self_eq_true]
      exact ⟨rfl, fun m z' hm => absurd hm (Nat.not_lt_zero _)⟩
    · have e2 : (y == x) = false := by simpa using e
      rw [e2]
      have hr : x ∈ r := by
        rcases List.mem_cons.mp h with q | q
        · exact absurd q.symm e
        · exact q
      obtain ⟨h1, h2⟩ := idx_ok hr
      refine ⟨h1, fun m z' hm hz => ?_⟩
      match m, hm, hz with
      | 0, _, hz =>
        obtain rfl := Option.some.inj hz
        exact decide_eq_false e
      | m + 1, hm, hz => exact h2 m z' (Nat.lt_of_succ_lt_succ hm) hz
theorem ints_flat (rs : List Int) : (rs.map V.int).all flatV = true := by
  rw [List.all_map]
  exact List.all_eq_true.mpr fun _ _ => rfl
theorem idx_lt {x y : Int} {rs : List Int} (hx : x ∈ rs) (hy : y ∈ rs) (n : x ≠ y) (h : ¬ rs.idxOf x > rs.idxOf y) : rkOf rs x < rkOf rs y := by
  unfold rkOf
  refine Nat.lt_of_le_of_ne (Nat.le_of_not_lt h) fun z => n ?_
  have h1 := (idx_ok hx).1
  have h2 := (idx_ok hy).1
  rw [z, h2] at h1
  exact (V.int.inj (Option.some.inj h1)).symm
def MF (a l : Addr) (H0 : Hp) (N M places full doors : Int) : L2.St → Hp → Prop := fun σ H => ∃ (po pf pn pb pe pr pk : Addr) (many long wide late cut : Int) (ps bs es rs : List Int) (k sort line one other length : Option V) (xs fs rd : List V) (G0 : Hp),
  σ = sgA a po pf pn places full doors many long wide late cut k sort (some (.ref pb)) (some (.ref pe)) line one other (some (.ref pr)) (some (.ref pk)) length none none ∧ Hm many cut ps ∧ many ≤ places ∧ Hl long wide late ∧
  Fr a l H0 pr ∧ pr ≠ po ∧ pr ≠ pn ∧ pr ≠ pb ∧ pr ≠ pe ∧ pr ≠ pk ∧ AllT G0 (Dok ps (Sof ps cut)) xs ∧ Has G0 InT xs ∧ Has G0 OutT xs ∧ 2 ≤ xs.length ∧ (xs.length : Int) ≤ doors ∧
  Kept a l H0 po pf pn pb pe ps bs es xs G0 (N + M) H ∧ H pf = some (.lst fs) ∧ (fs.length ≤ 33 ∧ 0 < fs.length) ∧ AllT H (Pok ps) fs ∧ Rnk a l H0 pk ps rs H ∧ H pr = some (.lst rd) ∧ (rd.length : Int) ≤ full ∧ AllT H (Rok ps (rkOf rs)) rd
def MG (a l : Addr) (H0 : Hp) (N M places full doors : Int) : L2.St → Hp → Prop := fun σ H => ∃ (po pf pn pb pe pr pk : Addr) (many long wide late cut : Int) (ps bs es rs : List Int) (k sort line one other length cr at_ : Option V) (xs rd : List V) (G0 : Hp),
  σ = sgA a po pf pn places full doors many long wide late cut k sort (some (.ref pb)) (some (.ref pe)) line one other (some (.ref pr)) (some (.ref pk)) length cr at_ ∧ Hm many cut ps ∧ many ≤ places ∧ Hl long wide late ∧
  Fr a l H0 pr ∧ pr ≠ po ∧ pr ≠ pn ∧ pr ≠ pb ∧ pr ≠ pe ∧ pr ≠ pk ∧ AllT G0 (Dok ps (Sof ps cut)) xs ∧ Has G0 InT xs ∧ Has G0 OutT xs ∧ 2 ≤ xs.length ∧ (xs.length : Int) ≤ doors ∧
  Kept a l H0 po pf pn pb pe ps bs es xs G0 (N + M) H ∧ Rnk a l H0 pk ps rs H ∧ H pr = some (.lst rd) ∧ ((rd.length : Int) ≤ full ∧ (1 ≤ full → 0 < rd.length)) ∧ AllT H (Rok ps (rkOf rs)) rd
structure LG (a l : Addr) (H0 : Hp) (N : Int) (po pf pn pb pe pr pk q : Addr) (ps bs es rs : List Int) (xs qs : List V) (G0 : Hp) (sh : L2.St → Prop) (i : Nat) (σ : L2.St) (H : Hp) : Prop where
  s : sh σ
  w : Kept a l H0 po pf pn pb pe ps bs es xs G0 (N + 2 * i) H
  q : H q = some (.lst qs)
  aq : AllT H (Pok ps) qs
  R : Rnk a l H0 pk ps rs H
  r : ∃ rd, H pr = some (.lst rd) ∧ rd.length = i ∧ AllT H (Rok ps (rkOf rs)) rd
theorem Rnk.draw {a l pk : Addr} {H0 H H' : Hp} {ps rs : List Int} (x : Rnk a l H0 pk ps rs H) (b : But2 a l H H') : Rnk a l H0 pk ps rs H' := ⟨x.r, b _ _ x.r.na x.r.nl x.h, x.p⟩
theorem Rnk.same {a l pk : Addr} {H0 H H' : Hp} {ps rs : List Int} (x : Rnk a l H0 pk ps rs H) (b : Same H H') : Rnk a l H0 pk ps rs H' := ⟨x.r, b _ _ x.h, x.p⟩
theorem Rnk.set {a l pk q : Addr} {H0 H : Hp} {o : HO} {ps rs : List Int} (x : Rnk a l H0 pk ps rs H) (h : q ≠ pk) : Rnk a l H0 pk ps rs (upd H q o) := ⟨x.r, by rw [upd_ne h.symm]; exact x.h, x.p⟩
theorem mem_set_or {w v : V} : ∀ {xs : List V} {j : Nat}, v ∈ xs → v ∈ xs.set j w ∨ xs[j]? = some v
  | x :: r, 0, h => by
    rcases List.mem_cons.mp h with rfl | q
    · exact .inr rfl
    · exact .inl (List.mem_cons_of_mem _ q)
  | x :: r, j + 1, h => by
    rcases List.mem_cons.mp h with rfl | q
    · exact .inl List.mem_cons_self
    · rcases mem_set_or (j := j) q with z | z
      · exact .inl (List.mem_cons_of_mem _ z)
      · exact .inr z
/-- ints and tuples are unlike -/
theorem ints_ne {H : Hp} {p q : Addr} {ps : List Int} {xs : List V} {P : List V → Prop} (h1 : H p = some (.lst (ps.map V.int))) (h2 : H q = some (.lst xs)) (a : AllT H P xs) (n : 0 < ps.length) : q ≠ p := fun z => by
  rw [z, h1] at h2
  have e := HO.lst.inj (Option.some.inj h2)
  match ps, n, e with
  | i :: r, _, e =>
    rw [← e] at a
    obtain ⟨p', t, e1, _⟩ := a (V.int i) List.mem_cons_self
    cases e1
theorem ixN_at {n : Nat} {d : Int} (h0 : 0 ≤ d) (h1 : d < n) : ixN n d = some d.toNat := by
  unfold ixN
  rw [if_pos h0, if_pos h1]
theorem sof_in {ps : List Int} {cut : Int} {x : Int} (h : x ∈ ps.take cut.toNat) : Sof ps cut x = true := decide_eq_true h
theorem sof_out {ps : List Int} {cut : Int} {x : Int} (hn : ps.Nodup) (h : x ∈ ps.drop cut.toNat) : Sof ps cut x = false := by
  refine decide_eq_false fun z => ?_
  have e := List.take_append_drop cut.toNat ps
  rw [← e] at hn
  exact (List.nodup_append.mp hn).2.2 x z x h rfl
section
variable {P : Program} {w : World} {K : PySem.W.Frag} {mg : Str → Option Value} {base : Heap}
theorem ok_house {f fD fP fM fS : Addr} {fd fdD fdP fdM fdS : FuncData} (F : Fun K "_law_house" "_law_house" sHouse f fd) (T : Bt mg)
    (FD : Fun K "_law_draw" "_law_draw" sDraw fD fdD) (gD : mg "_law_draw" = some (.ref fD)) (bD : Binds K fdD ["_law_stream_here", "_law_many"] [])
    (FP : Fun K "_law_pick" "_law_pick" sPick fP fdP) (gP : mg "_law_pick" = some (.ref fP)) (bP : Binds K fdP ["_law_stream_here", "_law_things"] [])
    (FM : Fun K "_law_mixed" "_law_mixed" sMixed fM fdM) (gM : mg "_law_mixed" = some (.ref fM)) (bM : Binds K fdM ["_law_stream_here", "_law_things"] [])
    (FS : Fun K "_law_stepping" "_law_stepping" sStepping fS fdS) (gS : mg "_law_stepping" = some (.ref fS)) (bS : Binds K fdS ["_law_stream_here", "_law_begin", "_law_end", "_law_order", "_law_wide"] []) :
    FnOk P w K mg base CX0 3 f fd ["_law_stream_here", "_law_places", "_law_full", "_law_doors"] spHouse := by
  have GD : FnOk P w K mg base CX0 1 fD fdD ["_law_stream_here", "_law_many"] spDraw := ok_draw FD T
  have GP : FnOk P w K mg base CX0 2 fP fdP ["_law_stream_here", "_law_things"] spPick := ok_pick FP T FD gD bD
  have GM : FnOk P w K mg base CX0 2 fM fdM ["_law_stream_here", "_law_things"] spMixed := ok_mixed FM T FD gD bD
  have GS : FnOk P w K mg base CX0 2 fS fdS ["_law_stream_here", "_law_begin", "_law_end", "_law_order", "_law_wide"] spStepping := ok_stepping FS T FD gD bD
  refine F.ok scHouse (fun vs H Q E h => ?_) (fun cdv A outer s H vs Q E hr h => ?_)
  · obtain ⟨a, l, N, places, full, doors, rfl, _⟩ := h
    rfl
  · obtain ⟨a, l, N, places, full, doors, rfl, S, hN0, hN1, hp2, hp20, hf0, hf1, hd2, hd20, k⟩ := h
    refine ⟨_, (pss_cons (ps_set (i := 4) scHouse.nd rfl (Or.inl rfl) (pe_op op_add pe_int (pe_callB (call_max2 rfl) (by rfl) T.max (by decide +kernel) (pa_cons (pe_call GD (hr.mono (by decide)) (by rfl) gD FD.kp bD .nil pass0 (pa_cons (pv 0) (pa_cons (pe_op op_sub (pv 1) pe_int) pa_nil))) (pa_cons (pe_call GD (hr.mono (by decide)) (by rfl) gD FD.kp bD .nil pass0 (pa_cons (pv 0) (pa_cons (pe_op op_sub (pv 1) pe_int) pa_nil))) pa_nil)))))
  (pss_cons (ps_par3 (i := 5) (j := 6) (l := 7) (by rfl) scHouse.nd rfl rfl rfl (by decide) (by decide) (by decide) rfl rfl rfl (pa_cons (pe_call GM hr (by rfl) gM FM.kp bM .nil pass0 (pa_cons (pv 0) (pa_cons (pe_listRg rfl (by rfl) T.list (prg_1 (by rfl) T.range (pv 4))) pa_nil))) (pa_cons (pe_lst pa_nil) (pa_cons (pe_lst pa_nil) pa_nil))) (by rfl))
  (pss_cons (ps_par3 (i := 8) (j := 9) (l := 10) (by rfl) scHouse.nd rfl rfl rfl (by decide) (by decide) (by decide) rfl rfl rfl (pa_cons (pe_call GP hr (by rfl) gP FP.kp bP .nil pass0 (pa_cons (pv 0) (pa_cons (pe_lst (pa_cons pe_int (pa_cons pe_int (pa_cons pe_int (pa_cons pe_int pa_nil))))) pa_nil))) (pa_cons (pe_call GP hr (by rfl) gP FP.kp bP .nil pass0 (pa_cons (pv 0) (pa_cons (pe_lst (pa_cons pe_int (pa_cons pe_int (pa_cons pe_int (pa_cons pe_int pa_nil))))) pa_nil))) (pa_cons (pe_call GP hr (by rfl) gP FP.kp bP .nil pass0 (pa_cons (pv 0) (pa_cons (pe_lst (pa_cons pe_int (pa_cons pe_int (pa_cons pe_int pa_nil)))) pa_nil))) pa_nil))) (by rfl))
  (Evl.pss_cut (ps_set (i := 11) scHouse.nd rfl (Or.inl rfl) (pe_call GP hr (by rfl) gP FP.kp bP .nil pass0 (pa_cons (pv 0) (pa_cons (pe_lst (pa_cons (pe_op op_add pe_int (pe_call GD (hr.mono (by decide)) (by rfl) gD FD.kp bD .nil pass0 (pa_cons (pv 0) (pa_cons (pe_op op_sub (pv 4) pe_int) pa_nil)))) (pa_cons (pe_op op_fdiv (pv 4) pe_int) (pa_cons (pe_op op_fdiv (pe_op op_add (pv 4) pe_int) pe_int) pa_nil)))) pa_nil))))
  (Evl.pss_cut (ps_for PassesOwn.never rfl (pi_list (pe_op op_cat (pe_lst (pa_cons pe_str (pa_cons pe_str pa_nil))) (pe_lc (own := [("_law_k", 12)]) (g := gName 12) (tt := tYes) rfl scHouse.nd (pi_range1 (by rfl) T.range (pa_cons (pe_call GD (hr.mono (by decide)) (by rfl) gD FD.kp bD .nil pass0 (pa_cons (pv 0) (pa_cons (pe_op op_sub (pv 3) pe_int) pa_nil))) pa_nil)) (blkOk_by (N := NHouse) (sc := defScope sHouse) (by decide +kernel)) (fun _ _ _ _ _ => (pg_name (i := 12) (x := "_law_k") scHouse.nd rfl (Or.inl rfl))) (fun _ _ _ _ _ => pts_nil) (fun _ _ _ _ _ => (pe_call GP hr (by rfl) gP FP.kp bP .nil pass0 (pa_cons (pv 0) (pa_cons (pe_lst (pa_cons pe_str (pa_cons pe_str pa_nil))) pa_nil))))))) (pg_name (i := 13) (x := "_law_sort") scHouse.nd rfl (Or.inl rfl)) (pss_one (ps_expr (pe_bm PySem.F.plainAttrs_list PySem.F.slot_list_append PySem.F.type_list_append mt_append (pv 7) (pa_cons (pe_tup (pa_cons (pv 13) (pa_cons (pe_call GP hr (by rfl) gP FP.kp bP .nil pass0 (pa_cons (pv 0) (pa_cons (pe_ifExp (pt_cmpR op_eq (pv 13) pe_str (nomark _)) (pe_slice sl_list (pv 5) po_none (po_some (pv 11))) (pe_slice sl_list (pv 5) (po_some (pv 11)) po_none)) pa_nil))) (pa_cons (pe_call GD (hr.mono (by decide)) (by rfl) gD FD.kp bD .nil pass0 (pa_cons (pv 0) (pa_cons (pv 10) pa_nil))) pa_nil)))) pa_nil)))))
  (Evl.pss_cut (ps_par (i := 14) (j := 15) (by rfl) scHouse.nd rfl rfl (by decide) rfl rfl (pa_cons (pe_lc (own := [("_law_door", 24)]) (g := gName 24) rfl scHouse.nd (pi_list (pv 7)) (blkOk_by (N := NHouse) (sc := defScope sHouse) (by decide +kernel)) (fun _ _ _ _ _ => (pg_name (i := 24) (x := "_law_door") scHouse.nd rfl (Or.inl rfl))) (fun _ _ _ _ _ => (pts_one (pt_cmpR op_eq (pe_ix (ixT (K := K) rfl) (pv 24) pe_int (fun _ _ => rfl)) pe_str (nomark _)))) (fun _ _ _ _ _ => (pe_ix (ixT (K := K) rfl) (pv 24) pe_int (fun _ _ => rfl)))) (pa_cons (pe_lc (own := [("_law_door", 24)]) (g := gName 24) rfl scHouse.nd (pi_list (pv 7)) (blkOk_by (N := NHouse) (sc := defScope sHouse) (by decide +kernel)) (fun _ _ _ _ _ => (pg_name (i := 24) (x := "_law_door") scHouse.nd rfl (Or.inl rfl))) (fun _ _ _ _ _ => (pts_one (pt_cmpR op_eq (pe_ix (ixT (K := K) rfl) (pv 24) pe_int (fun _ _ => rfl)) pe_str (nomark _)))) (fun _ _ _ _ _ => (pe_ix (ixT (K := K) rfl) (pv 24) pe_int (fun _ _ => rfl)))) pa_nil)) (by rfl))
  (Evl.pss_cut (ps_for PassesOwn.never rfl (pi_range1 (by rfl) T.range (pa_cons (pe_op op_add pe_int (pe_call GD (hr.mono (by decide)) (by rfl) gD FD.kp bD .nil pass0 (pa_cons (pv 0) (pa_cons pe_int pa_nil)))) pa_nil)) (pg_name (i := 12) (x := "_law_k") scHouse.nd rfl (Or.inl rfl)) (pss_cons (ps_set (i := 16) scHouse.nd rfl (Or.inl rfl) (pe_op op_cat (pe_lst (pa_cons (pe_call GP hr (by rfl) gP FP.kp bP .nil pass0 (pa_cons (pv 0) (pa_cons (pv 14) pa_nil))) pa_nil)) (pe_slice sl_list (pe_call GM hr (by rfl) gM FM.kp bM .nil pass0 (pa_cons (pv 0) (pa_cons (pv 5) pa_nil))) po_none (po_some (pe_call GP hr (by rfl) gP FP.kp bP .nil pass0 (pa_cons (pv 0) (pa_cons (pe_lst (pa_cons pe_int (pa_cons pe_int (pa_cons pe_int (pa_cons pe_int (pa_cons pe_int pa_nil)))))) pa_nil)))))))
  (pss_cons (ps_expr (pe_bm PySem.F.plainAttrs_list PySem.F.slot_list_append PySem.F.type_list_append mt_append (pv 16) (pa_cons (pe_call GP hr (by rfl) gP FP.kp bP .nil pass0 (pa_cons (pv 0) (pa_cons (pv 15) pa_nil))) pa_nil)))
  (pss_one (ps_expr (pe_bm PySem.F.plainAttrs_list PySem.F.slot_list_extend PySem.F.type_list_extend mt_extend (pv 6) (pa_cons (pe_lc (own := [("_law_one", 17), ("_law_other", 18)]) (g := gTup K 2 (gCons (gName 17) (gCons (gName 18) gNil))) rfl scHouse.nd (pi_zip (by rfl) T.zip (pa_cons (pv 16) (pa_cons (pe_slice sl_list (pv 16) (po_some pe_int) po_none) pa_nil))) (blkOk_by (N := NHouse) (sc := defScope sHouse) (by decide +kernel)) (fun _ _ _ _ _ => (pg_tup rfl (pgs_cons (pg_name (i := 17) (x := "_law_one") scHouse.nd rfl (Or.inl rfl)) (pgs_cons (pg_name (i := 18) (x := "_law_other") scHouse.nd rfl (Or.inl rfl)) pgs_nil)))) (fun _ _ _ _ _ => (pts_one (pt_cmpR op_ne (pv 17) (pv 18) (nomark _)))) (fun _ _ _ _ _ => (pe_tup (pa_cons (pv 17) (pa_cons (pv 18) pa_nil))))) pa_nil)))))))
  (Evl.pss_cut (ps_for PassesOwn.never rfl (pi_range1 (by rfl) T.range (pa_cons (pe_call GD (hr.mono (by decide)) (by rfl) gD FD.kp bD .nil pass0 (pa_cons (pv 0) (pa_cons pe_int pa_nil))) pa_nil)) (pg_name (i := 12) (x := "_law_k") scHouse.nd rfl (Or.inl rfl)) (pss_cons (ps_asg (pe_slice sl_list (pe_call GM hr (by rfl) gM FM.kp bM .nil pass0 (pa_cons (pv 0) (pa_cons (pv 5) pa_nil))) po_none (po_some pe_int)) (pg_unl rfl (pgs_cons (pg_name (i := 17) (x := "_law_one") scHouse.nd rfl (Or.inl rfl)) (pgs_cons (pg_name (i := 18) (x := "_law_other") scHouse.nd rfl (Or.inl rfl)) pgs_nil))))
  (pss_one (ps_expr (pe_bm PySem.F.plainAttrs_list PySem.F.slot_list_append PySem.F.type_list_append mt_append (pv 6) (pa_cons (pe_tup (pa_cons (pv 17) (pa_cons (pv 18) pa_nil))) pa_nil))))))
  (Evl.pss_cut (ps_par (i := 19) (j := 20) (by rfl) scHouse.nd rfl rfl (by decide) rfl rfl (pa_cons (pe_lst pa_nil) (pa_cons (pe_call GP hr (by rfl) gP FP.kp bP .nil pass0 (pa_cons (pv 0) (pa_cons (pe_lst (pa_cons (pv 5) (pa_cons (pv 5) (pa_cons (pe_call GM hr (by rfl) gM FM.kp bM .nil pass0 (pa_cons (pv 0) (pa_cons (pv 5) pa_nil))) pa_nil)))) pa_nil))) pa_nil)) (by rfl))
  (Evl.pss_cut (ps_for PassesOwn.never rfl (pi_list (pe_slice sl_list (pv 6) po_none (po_some (pv 2)))) (pg_tup rfl (pgs_cons (pg_name (i := 17) (x := "_law_one") scHouse.nd rfl (Or.inl rfl)) (pgs_cons (pg_name (i := 18) (x := "_law_other") scHouse.nd rfl (Or.inl rfl)) pgs_nil))) (pss_cons (ps_set (i := 21) scHouse.nd rfl (Or.inl rfl) (pe_call GD (hr.mono (by decide)) (by rfl) gD FD.kp bD .nil pass0 (pa_cons (pv 0) (pa_cons (pe_op op_add (pv 8) pe_int) pa_nil))))
  (Evl.pss_cut (ps_set (i := 21) scHouse.nd rfl (Or.inl rfl) (pe_ifExp (PW.pt (pw_and (pt_cmpR op_eq (pv 21) pe_int (nomark _)) (pw_and1 (pt_cmpR op_gt (pe_bm PySem.F.plainAttrs_list PySem.F.slot_list_index PySem.F.type_list_index mt_index (pv 20) (pa_cons (pv 17) pa_nil)) (pe_bm PySem.F.plainAttrs_list PySem.F.slot_list_index PySem.F.type_list_index mt_index (pv 20) (pa_cons (pv 18) pa_nil)) (nomark _))))) pe_int (pv 21)))
  (pss_one (ps_expr (pe_bm PySem.F.plainAttrs_list PySem.F.slot_list_append PySem.F.type_list_append mt_append (pv 19) (pa_cons (pe_tup (pa_cons (pv 17) (pa_cons (pv 18) (pa_cons (pv 21) (pa_cons (pe_op op_add pe_int (pe_call GD (hr.mono (by decide)) (by rfl) gD FD.kp bD .nil pass0 (pa_cons (pv 0) (pa_cons (pv 9) pa_nil)))) pa_nil))))) pa_nil)))))))
  (Evl.pss_cut (ps_if (PW.pt (pw_and (pt_cmpR op_gt (pv 4) pe_int (nomark _)) (pw_and (pt_cmpR op_gt (pv 2) pe_int (nomark _)) (pw_and1 (pt_cmpR op_eq (pe_call GD (hr.mono (by decide)) (by rfl) gD FD.kp bD .nil pass0 (pa_cons (pv 0) (pa_cons pe_int pa_nil))) pe_int (nomark _)))))) (pss_cons (ps_set (i := 22) scHouse.nd rfl (Or.inl rfl) (pe_call GS hr (by rfl) gS FS.kp bS .nil pass0 (pa_cons (pv 0) (pa_cons (pe_call GP hr (by rfl) gP FP.kp bP .nil pass0 (pa_cons (pv 0) (pa_cons (pv 14) pa_nil))) (pa_cons (pe_call GP hr (by rfl) gP FP.kp bP .nil pass0 (pa_cons (pv 0) (pa_cons (pv 15) pa_nil))) (pa_cons (pv 5) (pa_cons (pv 9) pa_nil)))))))
  (pss_one (ps_set (i := 19) scHouse.nd rfl (Or.inl rfl) (pe_call GM hr (by rfl) gM FM.kp bM .nil pass0 (pa_cons (pv 0) (pa_cons (pe_op op_cat (pv 22) (pe_slice sl_list (pv 19) po_none (po_some (pe_call GD (hr.mono (by decide)) (by rfl) gD FD.kp bD .nil pass0 (pa_cons (pv 0) (pa_cons (pe_op op_sub (pv 2) pe_int) pa_nil)))))) pa_nil)))))) pss_nil)
  (Evl.pss_cut (ps_if (PW.pt (pw_and (pt_cmpR op_eq (pe_call GD (hr.mono (by decide)) (by rfl) gD FD.kp bD .nil pass0 (pa_cons (pv 0) (pa_cons pe_int pa_nil))) pe_int (nomark _)) (pw_and1 (pt_cmpR op_gt (pe_callB call_len_seq (by rfl) T.len (by decide +kernel) (pa_cons (pv 19) pa_nil)) pe_int (nomark _))))) (pss_cons (ps_set (i := 23) scHouse.nd rfl (Or.inl rfl) (pe_call GD (hr.mono (by decide)) (by rfl) gD FD.kp bD .nil pass0 (pa_cons (pv 0) (pa_cons (pe_callB call_len_seq (by rfl) T.len (by decide +kernel) (pa_cons (pv 19) pa_nil)) pa_nil))))
  (pss_one (ps_asg (pe_tup (pa_cons (pe_ix ix_tup (pe_ix ix_list (pv 19) (pv 23) (fun _ _ => rfl)) pe_int (fun _ _ => rfl)) (pa_cons (pe_ix ix_tup (pe_ix ix_list (pv 19) (pv 23) (fun _ _ => rfl)) pe_int (fun _ _ => rfl)) (pa_cons (pe_op op_add pe_int (pe_call GD (hr.mono (by decide)) (by rfl) gD FD.kp bD .nil pass0 (pa_cons (pv 0) (pa_cons pe_int pa_nil)))) (pa_cons (pe_ix ix_tup (pe_ix ix_list (pv 19) (pv 23) (fun _ _ => rfl)) pe_int (fun _ _ => rfl)) pa_nil))))) (pg_sub (pv 19) (pv 23) set_list)))) pss_nil)
  (Evl.pss_cut (ps_if (PW.pt (pw_and (pt_cmpR op_eq (pe_call GD (hr.mono (by decide)) (by rfl) gD FD.kp bD .nil pass0 (pa_cons (pv 0) (pa_cons pe_int pa_nil))) pe_int (nomark _)) (pw_and1 (pt_cmpR op_gt (pe_callB call_len_seq (by rfl) T.len (by decide +kernel) (pa_cons (pv 7) pa_nil)) pe_int (nomark _))))) (pss_cons (ps_set (i := 23) scHouse.nd rfl (Or.inl rfl) (pe_op op_add pe_int (pe_call GD (hr.mono (by decide)) (by rfl) gD FD.kp bD .nil pass0 (pa_cons (pv 0) (pa_cons (pe_op op_sub (pe_callB call_len_seq (by rfl) T.len (by decide +kernel) (pa_cons (pv 7) pa_nil)) pe_int) pa_nil)))))
  (pss_one (ps_asg (pe_tup (pa_cons (pe_ix ix_tup (pe_ix ix_list (pv 7) (pv 23) (fun _ _ => rfl)) pe_int (fun _ _ => rfl)) (pa_cons (pe_ix ix_tup (pe_ix ix_list (pv 7) (pv 23) (fun _ _ => rfl)) pe_int (fun _ _ => rfl)) (pa_cons (pe_op op_add pe_int (pe_call GD (hr.mono (by decide)) (by rfl) gD FD.kp bD .nil pass0 (pa_cons (pv 0) (pa_cons pe_int pa_nil)))) pa_nil)))) (pg_sub (pv 7) (pv 23) set_list)))) pss_nil)
  (pss_one (ps_ret (pe_tup (pa_cons (pv 4) (pa_cons (pv 19) (pa_cons (pe_call GM hr (by rfl) gM FM.kp bM .nil pass0 (pa_cons (pv 0) (pa_cons (pv 7) pa_nil))) pa_nil))))))))))))))))))), ?_⟩
    refine ⟨_, rfl, _, rfl, _, _, rfl, rfl, a, l, N, _, rfl, S, hN0, by omega, by omega, by omega, fun H1 m1 q1 r1 b1 S1 => ?_⟩
    refine ⟨_, rfl, _, rfl, _, _, rfl, rfl, a, l, _, _, rfl, S1, by omega, by omega, by omega, by omega, fun H2 m2 q2 r2 b2 S2 => ?_⟩
    refine ⟨_, _, rfl, _, _, rfl, rfl, ?_⟩
    dsimp only
    have hm2 : 2 ≤ 2 + (if m2 > m1 then m2 else m1) := by split <;> omega
    have hmp : 2 + (if m2 > m1 then m2 else m1) ≤ places := by split <;> omega
    generalize (2 + (if m2 > m1 then m2 else m1)) = many at hm2 hmp ⊢
    have c2 : But2 a l H H2 := b1.trans b2
    refine ⟨_, rfl, _, rfl, many, rfl, RgOk.of_le (by decide) (by omega) (by decide) (by omega), fun q0 hq0 => ?_⟩
    have S3 := S2.but (same_new (o := .lst (rgV 0 many)) hq0)
    have n0 := S2.ne_new hq0
    refine ⟨a, l, q0, _, _, rfl, S3, by omega, by omega, n0.1, n0.2, upd_same, by rw [rgV_length]; omega, fun H4 po ys pm b4 f4 o4 S4 => ?_⟩
    obtain ⟨ps, rfl, hnd, hlen, hmem⟩ := range_perm hm2 pm
    have c3 : But2 a l H (upd H2 q0 (.lst (rgV 0 many))) := but2_new c2 hq0
    have c4 := c3.trans b4
    have B4 : B0 a l po H ps (N + 102) H4 := ⟨c4, S4.mono (by omega), o4, Fr.of c3 S3 f4⟩
    refine ⟨Nat.zero_le _, fun pf hpf => ⟨Nat.zero_le _, fun pn hpn => ⟨_, _, _, rfl, ?_⟩⟩⟩
    have B5 := B4.new (o := .lst []) hpf
    have Ff := B4.fr hpf
    have n5 : po ≠ pf := ne_of_none B4.o hpf
    have B6 := B5.new (o := .lst []) hpn
    have Fn := B5.fr hpn
    have n6 : po ≠ pn := ne_of_none B5.o hpn
    have n7 : pf ≠ pn := ne_of_none (H := upd H4 pf (.lst [])) upd_same hpn
    have vf : upd (upd H4 pf (.lst [])) pn (.lst []) pf = some (.lst []) := by
      rw [upd_ne n7]
      exact upd_same
    have vn : upd (upd H4 pf (.lst [])) pn (.lst []) pn = some (.lst []) := upd_same
    clear B4 B5 c4 c3 o4 f4 b4 S4 S3 n0 hq0 b1 b2 S1 S2 c2 hpf
    generalize upd (upd H4 pf (.lst [])) pn (.lst []) = H6 at B6 vf vn ⊢
    refine ⟨_, rfl, (by show 4 ≤ sizeLine; decide), fun t1 h1 => ?_⟩
    have C1 := B6.new (o := .lst [.int 1, .int 2, .int 3, .int 5]) h1
    have vf1 := same_new (o := .lst [.int 1, .int 2, .int 3, .int 5]) h1 _ _ vf
    have vn1 := same_new (o := .lst [.int 1, .int 2, .int 3, .int 5]) h1 _ _ vn
    have g1 := B6.fr h1
    refine ⟨a, l, t1, _, _, rfl, C1.t, by omega, by omega, g1.na, g1.nl, upd_same, by decide, by decide, fun H7 v1 hv1 b7 S7 => ?_⟩
    have D1 := C1.draw b7 S7
    have vf2 := b7 _ _ Ff.na Ff.nl vf1
    have vn2 := b7 _ _ Fn.na Fn.nl vn1
    refine ⟨_, rfl, (by show 4 ≤ sizeLine; decide), fun t2 h2 => ?_⟩
    have C2 := D1.new (o := .lst [.int 1, .int 3, .int 3, .int 10]) h2
    have vf3 := same_new (o := .lst [.int 1, .int 3, .int 3, .int 10]) h2 _ _ vf2
    have vn3 := same_new (o := .lst [.int 1, .int 3, .int 3, .int 10]) h2 _ _ vn2
    have g2 := D1.fr h2
    refine ⟨a, l, t2, _, _, rfl, C2.t, by omega, by omega, g2.na, g2.nl, upd_same, by decide, by decide, fun H8 v2 hv2 b8 S8 => ?_⟩
    have D2 := C2.draw b8 S8
    have vf4 := b8 _ _ Ff.na Ff.nl vf3
    have vn4 := b8 _ _ Fn.na Fn.nl vn3
    refine ⟨_, rfl, (by show 3 ≤ sizeLine; decide), fun t3 h3 => ?_⟩
    have C3 := D2.new (o := .lst [.int 1, .int 1, .int 3]) h3
    have vf5 := same_new (o := .lst [.int 1, .int 1, .int 3]) h3 _ _ vf4
    have vn5 := same_new (o := .lst [.int 1, .int 1, .int 3]) h3 _ _ vn4
    have g3 := D2.fr h3
    refine ⟨a, l, t3, _, _, rfl, C3.t, by omega, by omega, g3.na, g3.nl, upd_same, by decide, by decide, fun H9 v3 hv3 b9 S9 => ?_⟩
    have D3 := C3.draw b9 S9
    have vf6 := b9 _ _ Ff.na Ff.nl vf5
    have vn6 := b9 _ _ Fn.na Fn.nl vn5
    refine ⟨_, _, _, rfl, ?_⟩
    obtain ⟨long, rfl, l1, l2⟩ : ∃ i : Int, v1 = .int i ∧ 1 ≤ i ∧ i ≤ 5 := by
      simp only [List.mem_cons, List.not_mem_nil, or_false] at hv1
      rcases hv1 with rfl | rfl | rfl | rfl
      all_goals exact ⟨_, rfl, by decide, by decide⟩
    obtain ⟨wide, rfl, w1, w2⟩ : ∃ i : Int, v2 = .int i ∧ 1 ≤ i ∧ i ≤ 10 := by
      simp only [List.mem_cons, List.not_mem_nil, or_false] at hv2
      rcases hv2 with rfl | rfl | rfl | rfl
      all_goals exact ⟨_, rfl, by decide, by decide⟩
    obtain ⟨late, rfl, e1, e2⟩ : ∃ i : Int, v3 = .int i ∧ 1 ≤ i ∧ i ≤ 3 := by
      simp only [List.mem_cons, List.not_mem_nil, or_false] at hv3
      rcases hv3 with rfl | rfl | rfl
      all_goals exact ⟨_, rfl, by decide, by decide⟩
    clear vf vn vf1 vn1 vf2 vn2 vf3 vn3 vf4 vn4 vf5 vn5 C1 C2 C3 D1 D2 g1 g2 g3 b7 b8 b9 S7 S8 S9 B6 h1 h2 h3
    refine ⟨MA a l H N places full doors, ?_, ?_⟩
    · refine ⟨_, rfl, _, rfl, _, rfl, _, _, rfl, rfl, a, l, _, _, rfl, D3.t, by omega, by omega, by omega, by omega, fun H10 d0 p0 r0 b10 S10 => ?_⟩
      have D4 := D3.draw b10 S10
      have vf7 := b10 _ _ Ff.na Ff.nl vf6
      have vn7 := b10 _ _ Fn.na Fn.nl vn6
      refine ⟨_, _, rfl, rfl, _, rfl, _, _, rfl, rfl, ⟨by decide, by decide⟩, _, rfl, _, _, rfl, rfl, _, _, rfl, rfl, ⟨by decide, by decide⟩, (by show 3 ≤ sizeLine; decide), fun t4 h4 => ?_⟩
      have g4 := D4.fr h4
      have C4 := D4.new (o := .lst [.int (1 + d0), .int (many / 2), .int ((many + 1) / 2)]) h4
      have vf8 := same_new (o := .lst [.int (1 + d0), .int (many / 2), .int ((many + 1) / 2)]) h4 _ _ vf7
      have vn8 := same_new (o := .lst [.int (1 + d0), .int (many / 2), .int ((many + 1) / 2)]) h4 _ _ vn7
      refine ⟨a, l, t4, _, _, rfl, C4.t, by omega, by omega, g4.na, g4.nl, upd_same, by show 0 < 3; decide, by show 3 ≤ 1000; decide, fun H11 v4 hv4 b11 S11 => ?_⟩
      obtain ⟨cut, rfl, k1, k2⟩ : ∃ i : Int, v4 = .int i ∧ 1 ≤ i ∧ i < many := by
        simp only [List.mem_cons, List.not_mem_nil, or_false] at hv4
        rcases hv4 with rfl | rfl | rfl
        · exact ⟨_, rfl, by omega, by omega⟩
        · exact ⟨_, rfl, by omega, by omega⟩
        · exact ⟨_, rfl, by omega, by omega⟩
      exact ⟨po, pf, pn, many, long, wide, late, cut, ps, rfl, ⟨hnd, hlen, hmem, k1, k2, hm2, by omega⟩, hmp, ⟨l1, l2, w1, w2, e1, e2⟩, (C4.draw b11 S11).mono (by omega), Ff, Fn, n5, n6, n7, b11 _ _ Ff.na Ff.nl vf8, b11 _ _ Fn.na Fn.nl vn8⟩
    · clear D3 vf6 vn6 Ff Fn n5 n6 n7 hnd hlen hmem hm2 hmp l1 l2 w1 w2 e1 e2 hv1 hv2 hv3
      clear hpn S
      rintro σ0 G0 ⟨po, pf, pn, many, long, wide, late, cut, ps, rfl, hm, hmp, hl, B, Ff, Fn, n5, n6', n7', vf, vn⟩
      have lenps := hm.len
      have lc1 := hm.c1
      have lc2 := hm.c2
      have lm2 := hm.m20
      refine ⟨MB a l H N places full doors, ?_, ?_⟩
      · refine ⟨(by show 2 ≤ sizeLine; decide), fun p1 hp1 => ?_⟩
        have B1 := B.new (o := .lst [.str "in", .str "out"]) hp1
        have g1 := B.fr hp1
        have s1 := same_new (o := .lst [.str "in", .str "out"]) hp1
        refine ⟨_, rfl, _, rfl, _, _, rfl, rfl, a, l, _, _, rfl, B1.t, by omega, by omega, by omega, by omega, fun H2 d p2 r2 b2 S2 => ?_⟩
        have B2 := B1.draw b2 S2
        refine ⟨d, rfl, by omega, by omega, fun D hD => ?_⟩
        have gD' := B2.fr hD
        refine lc_it walk_range (fun i H' => ∃ acc : List V, But2 a l H2 H' ∧ Strm (N + 111 + i) H' a l ∧ H' D = some (.lst acc) ∧ acc.length = i ∧ ∀ v ∈ acc, v = .str "in" ∨ v = .str "out")
          ⟨[], but2_new But2.refl hD, (S2.but (same_new hD)).mono (by omega), upd_same, rfl, fun v hv => by cases hv⟩ (fun i H' _ q => trivial) ?_ ?_
        · rintro i x H3 H4 hi ⟨acc, b3, S3, e3, l3, a3⟩ ⟨rfl, rfl⟩
          refine ⟨rfl, ?_⟩
          dsimp only [tYes]
          refine iteT ?_
          refine ⟨_, rfl, (by show 2 ≤ sizeLine; decide), fun t ht => ?_⟩
          have n3 := S3.ne_new ht
          refine ⟨a, l, t, _, _, rfl, S3.but (same_new ht), by omega, by omega, n3.1, n3.2, upd_same, by decide, by decide, fun H5 v hv b5 S5 => ?_⟩
          refine ⟨acc, b5 _ _ gD'.na gD'.nl (same_new ht _ _ e3), by rw [l3]; exact Nat.lt_of_lt_of_le (Nat.lt_trans hi (show d.toNat < 100 by omega)) (by decide), acc ++ [v], ?_, ?_, upd_same, by rw [List.length_append, l3]; rfl, fun u hu => ?_⟩
          · intro b o h1 h2 e
            rw [upd_ne (ne_of_none e hD)]
            exact b5 _ _ h1 h2 (same_new ht _ _ (b3 _ _ h1 h2 e))
          · exact (S5.upd gD'.na gD'.nl).mono (by omega)
          · rcases List.mem_append.mp hu with z | z
            · exact a3 u z
            · rw [List.mem_singleton.mp z]
              simp only [List.mem_cons, List.not_mem_nil, or_false] at hv
              exact hv
        · rintro H3 ⟨acc, b3, S3, e3, l3, a3⟩
          have B3 := B2.draw b3 S3
          have ld : d.toNat ≤ 18 := by omega
          have ldd : (d.toNat : Int) = d := by omega
          have e4 := b3 _ _ g1.na g1.nl (b2 _ _ g1.na g1.nl upd_same)
          have vf3 := b3 _ _ Ff.na Ff.nl (b2 _ _ Ff.na Ff.nl (s1 _ _ vf))
          have vn3 := b3 _ _ Fn.na Fn.nl (b2 _ _ Fn.na Fn.nl (s1 _ _ vn))
          refine ⟨p1, D, _, _, rfl, rfl, e4, e3, by rw [l3]; exact Nat.le_trans (show 2 + d.toNat ≤ 20 by omega) (by decide), fun q hq => ?_⟩
          have B4 := B3.new (o := .lst (sorts0 acc)) hq
          have Fq := B3.fr hq
          have vf4 := same_new (o := .lst (sorts0 acc)) hq _ _ vf3
          have vn4 := same_new (o := .lst (sorts0 acc)) hq _ _ vn3
          have nqf : q ≠ pf := (ne_of_none vf3 hq).symm
          have nqn : q ≠ pn := (ne_of_none vn3 hq).symm
          refine ⟨q, rfl, ⟨_, SqL.of upd_same⟩, ?_⟩
          have lsorts : (sorts0 acc).length = 2 + d.toNat := by
            unfold sorts0
            rw [List.length_append, l3]
            rfl
          refine for_list (xs := sorts0 acc) (LB a l H (N + 131) po pf pn q cut ps (sorts0 acc) (fun σ => ∃ sort, σ = sgA a po pf pn places full doors many long wide late cut none sort none none none none none none none none none none)) ⟨⟨_, rfl⟩, B4.mono (by omega), vf4, upd_same, [], vn4, rfl, AllT.nil, fun z => absurd z (by decide), fun z => absurd z (by decide)⟩ (fun i σ H _ w => SqL.of w.q) (fun i x σ H1 hx w => ?_) (fun σ H1 w => ?_)
          · have hi16 : i < 2 + d.toNat := by
              rw [← lsorts]
              exact (List.getElem?_eq_some_iff.mp hx).1
            obtain ⟨⟨sort, rfl⟩, xs, hn, hl0, ha, hI, hO⟩ := (⟨w.s, w.n⟩ : _ ∧ _)
            have hi16 : i < 20 := by omega
            have hxs : (x = .str "in" ∧ i ≠ 1) ∨ (x = .str "out" ∧ i ≠ 0) := by
              match i, hx with
              | 0, hx => exact .inl ⟨(Option.some.inj hx).symm, by decide⟩
              | 1, hx => exact .inr ⟨(Option.some.inj hx).symm, by decide⟩
              | j + 2, hx =>
                have hj : acc[j]? = some x := hx
                rcases a3 x (List.mem_of_getElem? hj) with z | z
                · exact .inl ⟨z, by omega⟩
                · exact .inr ⟨z, by omega⟩
            rcases hxs with ⟨rfl, ni1⟩ | ⟨rfl, ni0⟩
            · refine ⟨_, rfl, .inl ⟨rfl, _, SqL.of hn⟩, _, rfl, _, rfl, _, rfl, rfl, _, rfl, ?_⟩
              refine iteT ?_
              refine ⟨_, rfl, _, rfl, _, rfl, po, _, rfl, SqL.of w.b.o, fun p hp => ?_⟩
              rw [cut_to _ (by omega), List.map_take.symm]
              have B1 := w.b.new (o := .lst ((ps.take cut.toNat).map V.int)) hp
              have g1 := w.b.fr hp
              have n1 := same_new (o := .lst ((ps.take cut.toNat).map V.int)) hp _ _ hn
              have f1 := same_new (o := .lst ((ps.take cut.toNat).map V.int)) hp _ _ w.f
              have q1 := same_new (o := .lst ((ps.take cut.toNat).map V.int)) hp _ _ w.q
              have a1 := ha.tl (TL.new (o := .lst ((ps.take cut.toNat).map V.int)) hp)
              have i1 := fun z => (hI z).tl (TL.new (o := .lst ((ps.take cut.toNat).map V.int)) hp)
              have o1 := fun z => (hO z).tl (TL.new (o := .lst ((ps.take cut.toNat).map V.int)) hp)
              refine ⟨a, l, p, _, _, rfl, B1.t, by omega, by omega, g1.na, g1.nl, upd_same, by rw [List.length_map, List.length_take]; omega, by rw [List.length_map, List.length_take]; omega, fun H5 v hv b5 S5 => ?_⟩
              obtain ⟨x, hx, rfl⟩ := List.mem_map.mp hv
              have B2 := B1.draw b5 S5
              refine ⟨_, rfl, _, rfl, a, l, _, _, rfl, S5, by omega, by omega, by have := hl.t1; omega, by have := hl.t2; omega, fun H6 d p6 r6 b6 S6 => ?_⟩
              have B3 := B2.draw b6 S6
              refine ⟨(by show 3 ≤ sizeLine; decide), fun tp htp => ?_⟩
              have k6 : TL _ H6 := (b5.tl B1.t).trans (b6.tl S5)
              have n6 := b6 _ _ Fn.na Fn.nl (b5 _ _ Fn.na Fn.nl n1)
              have f6 := b6 _ _ Ff.na Ff.nl (b5 _ _ Ff.na Ff.nl f1)
              have q6 := b6 _ _ Fq.na Fq.nl (b5 _ _ Fq.na Fq.nl q1)
              have u7 := same_new (o := .tup [.str "in", .int x, .int d]) htp
              have B4 := B3.new (o := .tup [.str "in", .int x, .int d]) htp
              have n7 := u7 _ _ n6
              refine ⟨pn, _, _, rfl, rfl, n7, by rw [hl0]; exact Nat.lt_of_lt_of_le hi16 (by decide), ?_⟩
              have k8 : TL _ (upd (upd H6 tp (.tup [.str "in", .int x, .int d])) pn (.lst (xs ++ [.ref tp]))) := k6.trans ((TL.new htp).trans (TL.set n7))
              have t8 : upd (upd H6 tp (.tup [.str "in", .int x, .int d])) pn (.lst (xs ++ [.ref tp])) tp = some (.tup [.str "in", .int x, .int d]) := TL.set n7 _ _ upd_same
              refine ⟨⟨_, rfl⟩, (B4.set Fn n6'.symm).mono (by omega), ?_, ?_, xs ++ [.ref tp], upd_same, by rw [List.length_append, hl0]; rfl, ?_, ?_, ?_⟩
              · rw [upd_ne n7']
                exact u7 _ _ f6
              · rw [upd_ne nqn]
                exact u7 _ _ q6
              · refine (a1.tl k8).app (AllT.one t8 ⟨x, d, ?_, List.mem_of_mem_take hx, p6, by have := hl.t2; omega⟩)
                rw [sof_in hx]
                rfl
              · exact fun _ => ⟨.ref tp, List.mem_append.mpr (.inr List.mem_cons_self), tp, _, rfl, t8, x, d, rfl⟩
              · refine fun z => ((o1 ?_).tl k8).sub fun v hv => List.mem_append.mpr (.inl hv)
                by_cases z1 : i = 1
                · exact absurd z1 ni1
                · omega
            · refine ⟨_, rfl, .inl ⟨rfl, _, SqL.of hn⟩, _, rfl, _, rfl, _, rfl, rfl, _, rfl, ?_⟩
              refine iteF ?_
              refine ⟨_, rfl, _, rfl, _, rfl, po, _, rfl, SqL.of w.b.o, fun p hp => ?_⟩
              rw [cut_from _ (by omega), List.map_drop.symm]
              have B1 := w.b.new (o := .lst ((ps.drop cut.toNat).map V.int)) hp
              have g1 := w.b.fr hp
              have n1 := same_new (o := .lst ((ps.drop cut.toNat).map V.int)) hp _ _ hn
              have f1 := same_new (o := .lst ((ps.drop cut.toNat).map V.int)) hp _ _ w.f
              have q1 := same_new (o := .lst ((ps.drop cut.toNat).map V.int)) hp _ _ w.q
              have a1 := ha.tl (TL.new (o := .lst ((ps.drop cut.toNat).map V.int)) hp)
              have i1 := fun z => (hI z).tl (TL.new (o := .lst ((ps.drop cut.toNat).map V.int)) hp)
              have o1 := fun z => (hO z).tl (TL.new (o := .lst ((ps.drop cut.toNat).map V.int)) hp)
              refine ⟨a, l, p, _, _, rfl, B1.t, by omega, by omega, g1.na, g1.nl, upd_same, by rw [List.length_map, List.length_drop]; omega, by rw [List.length_map, List.length_drop]; omega, fun H5 v hv b5 S5 => ?_⟩
              obtain ⟨x, hx, rfl⟩ := List.mem_map.mp hv
              have B2 := B1.draw b5 S5
              refine ⟨_, rfl, _, rfl, a, l, _, _, rfl, S5, by omega, by omega, by have := hl.t1; omega, by have := hl.t2; omega, fun H6 d p6 r6 b6 S6 => ?_⟩
              have B3 := B2.draw b6 S6
              refine ⟨(by show 3 ≤ sizeLine; decide), fun tp htp => ?_⟩
              have k6 : TL _ H6 := (b5.tl B1.t).trans (b6.tl S5)
              have n6 := b6 _ _ Fn.na Fn.nl (b5 _ _ Fn.na Fn.nl n1)
              have f6 := b6 _ _ Ff.na Ff.nl (b5 _ _ Ff.na Ff.nl f1)
              have q6 := b6 _ _ Fq.na Fq.nl (b5 _ _ Fq.na Fq.nl q1)
              have u7 := same_new (o := .tup [.str "out", .int x, .int d]) htp
              have B4 := B3.new (o := .tup [.str "out", .int x, .int d]) htp
              have n7 := u7 _ _ n6
              refine ⟨pn, _, _, rfl, rfl, n7, by rw [hl0]; exact Nat.lt_of_lt_of_le hi16 (by decide), ?_⟩
              have k8 : TL _ (upd (upd H6 tp (.tup [.str "out", .int x, .int d])) pn (.lst (xs ++ [.ref tp]))) := k6.trans ((TL.new htp).trans (TL.set n7))
              have t8 : upd (upd H6 tp (.tup [.str "out", .int x, .int d])) pn (.lst (xs ++ [.ref tp])) tp = some (.tup [.str "out", .int x, .int d]) := TL.set n7 _ _ upd_same
              refine ⟨⟨_, rfl⟩, (B4.set Fn n6'.symm).mono (by omega), ?_, ?_, xs ++ [.ref tp], upd_same, by rw [List.length_append, hl0]; rfl, ?_, ?_, ?_⟩
              · rw [upd_ne n7']
                exact u7 _ _ f6
              · rw [upd_ne nqn]
                exact u7 _ _ q6
              · refine (a1.tl k8).app (AllT.one t8 ⟨x, d, ?_, List.mem_of_mem_drop hx, p6, by have := hl.t2; omega⟩)
                rw [sof_out hm.nd hx]
                rfl
              · refine fun z => ((i1 ?_).tl k8).sub fun v hv => List.mem_append.mpr (.inl hv)
                by_cases z1 : i = 0
                · exact absurd z1 ni0
                · omega
              · exact fun _ => ⟨.ref tp, List.mem_append.mpr (.inr List.mem_cons_self), tp, _, rfl, t8, x, d, rfl⟩
          · obtain ⟨⟨sort, rfl⟩, xs, hn, hl0, ha, hI, hO⟩ := (⟨w.s, w.n⟩ : _ ∧ _)
            have B5 := w.b
            rw [lsorts] at hl0 hI hO B5
            exact ⟨po, pf, pn, many, long, wide, late, cut, ps, sort, xs, rfl, hm, hmp, hl, B5.mono (by omega), Ff, Fn, n5, n6', n7', w.f, hn, ha, hI (by omega), hO (by omega), by omega, by omega⟩
      · rintro σ0 G0 ⟨po, pf, pn, many, long, wide, late, cut, ps, sort, xs, rfl, hm, hmp, hl, B, Ff, Fn, n5, n6', n7', vf, vn, ha, hI, hO, hx2, hxd⟩
        refine ⟨MC a l H N places full doors, ?_, ?_⟩
        · refine ⟨_, rfl, pn, rfl, ⟨_, SqL.of vn⟩, fun D1 hD1 => ?_⟩
          refine lc_it walk_list (fun i H' => Same G0 H' ∧ ∃ acc : List Int, H' D1 = some (.lst (acc.map V.int)) ∧ acc.length ≤ i ∧ (∀ x ∈ acc, x ∈ ps ∧ Sof ps cut x = true) ∧ (Has G0 InT (xs.take i) → 0 < acc.length)) ⟨same_new hD1, [], upd_same, Nat.le_refl _, fun x hx => (by cases hx), fun ⟨v, hv, _⟩ => (by cases hv)⟩ (fun i H' _ q => SqL.of (q.1 _ _ vn)) ?_ ?_
          · rintro i x H3 H4 hi ⟨s3, acc, e3, l3, m3, k3⟩ ⟨rfl, hx⟩
            obtain ⟨p, tt, rfl, hp, y, h, rfl, hy, y0, y9⟩ := ha x (List.mem_of_getElem? hx)
            have hp3 := s3 _ _ hp
            have li : acc.length < sizeLine := Nat.lt_of_le_of_lt l3 (Nat.lt_of_lt_of_le (Nat.lt_of_lt_of_le hi (show xs.length ≤ 20 by omega)) (by decide))
            have no : ∀ (P1 : List V → Prop), ¬ P1 [.str (if Sof ps cut y = true then "in" else "out"), .int y, .int h] → ¬ ∃ p' t', V.ref p = .ref p' ∧ G0 p' = some (.tup t') ∧ P1 t' := fun P1 hn ⟨p', t', e1, e2, e3⟩ => by
              rw [← V.ref.inj e1, hp] at e2
              rw [← HO.tup.inj (Option.some.inj e2)] at e3
              exact hn e3
            refine ⟨rfl, ?_⟩
            refine ⟨_, rfl, p, _, _, _, rfl, rfl, SqT.of hp3, (by rfl), ?_⟩
            cases hS : Sof ps cut y with
            | true =>
              rw [hS] at hp3
              refine ⟨rfl, _, rfl, iteT ?_⟩
              refine ⟨_, rfl, p, _, _, _, rfl, rfl, SqT.of hp3, (by rfl), acc.map V.int, e3, by rw [List.length_map]; exact li, fun b o g => ?_, acc ++ [y], ?_, ?_, fun z hz => ?_, fun _ => ?_⟩
              · rw [upd_ne (ne_of_none g hD1)]
                exact s3 _ _ g
              · rw [upd_same, List.map_append]
                rfl
              · rw [List.length_append]
                exact Nat.succ_le_succ l3
              · rcases List.mem_append.mp hz with q | q
                · exact m3 z q
                · rw [List.mem_singleton.mp q]
                  exact ⟨hy, hS⟩
              · rw [List.length_append]
                exact Nat.succ_pos _
            | false =>
              rw [hS] at no
              refine ⟨rfl, _, rfl, iteF ⟨s3, acc, e3, Nat.le_succ_of_le l3, m3, fun z => k3 ?_⟩⟩
              rcases z.one hx with q | q
              · exact q
              · refine absurd q (no _ ?_)
                rintro ⟨u, v, w⟩
                exact absurd (V.str.inj (List.cons.inj w).1) (by decide)
          · rintro G1 ⟨s1, bs, e1, l1, m1, k1⟩
            rw [List.take_of_length_le (Nat.le_refl _)] at k1
            have k1' := k1 hI
            have B1 := B.same s1
            have F1 := B.fr hD1
            have vn1 := s1 _ _ vn
            have ha1 : AllT G1 (Dok ps (Sof ps cut)) xs := ha.tl fun b t e => s1 _ _ e
            refine ⟨_, rfl, pn, rfl, ⟨_, SqL.of vn1⟩, fun D2 hD2 => ?_⟩
            refine lc_it walk_list (fun i H' => Same G1 H' ∧ ∃ acc : List Int, H' D2 = some (.lst (acc.map V.int)) ∧ acc.length ≤ i ∧ (∀ x ∈ acc, x ∈ ps ∧ Sof ps cut x = false) ∧ (Has G1 OutT (xs.take i) → 0 < acc.length)) ⟨same_new hD2, [], upd_same, Nat.le_refl _, fun x hx => (by cases hx), fun ⟨v, hv, _⟩ => (by cases hv)⟩ (fun i H' _ q => SqL.of (q.1 _ _ vn1)) ?_ ?_
            · rintro i x H3 H4 hi ⟨s3, acc, e3, l3, m3, k3⟩ ⟨rfl, hx⟩
              obtain ⟨p, tt, rfl, hp, y, h, rfl, hy, y0, y9⟩ := ha1 x (List.mem_of_getElem? hx)
              have hp3 := s3 _ _ hp
              have li : acc.length < sizeLine := Nat.lt_of_le_of_lt l3 (Nat.lt_of_lt_of_le (Nat.lt_of_lt_of_le hi (show xs.length ≤ 20 by omega)) (by decide))
              have no : ∀ (P1 : List V → Prop), ¬ P1 [.str (if Sof ps cut y = true then "in" else "out"), .int y, .int h] → ¬ ∃ p' t', V.ref p = .ref p' ∧ G1 p' = some (.tup t') ∧ P1 t' := fun P1 hn ⟨p', t', e1, e2, e3⟩ => by
                rw [← V.ref.inj e1, hp] at e2
                rw [← HO.tup.inj (Option.some.inj e2)] at e3
                exact hn e3
              refine ⟨rfl, ?_⟩
              refine ⟨_, rfl, p, _, _, _, rfl, rfl, SqT.of hp3, (by rfl), ?_⟩
              cases hS : Sof ps cut y with
              | false =>
                rw [hS] at hp3
                refine ⟨rfl, _, rfl, iteT ?_⟩
                refine ⟨_, rfl, p, _, _, _, rfl, rfl, SqT.of hp3, (by rfl), acc.map V.int, e3, by rw [List.length_map]; exact li, fun b o g => ?_, acc ++ [y], ?_, ?_, fun z hz => ?_, fun _ => ?_⟩
                · rw [upd_ne (ne_of_none g hD2)]
                  exact s3 _ _ g
                · rw [upd_same, List.map_append]
                  rfl
                · rw [List.length_append]
                  exact Nat.succ_le_succ l3
                · rcases List.mem_append.mp hz with q | q
                  · exact m3 z q
                  · rw [List.mem_singleton.mp q]
                    exact ⟨hy, hS⟩
                · rw [List.length_append]
                  exact Nat.succ_pos _
              | true =>
                rw [hS] at no
                refine ⟨rfl, _, rfl, iteF ⟨s3, acc, e3, Nat.le_succ_of_le l3, m3, fun z => k3 ?_⟩⟩
                rcases z.one hx with q | q
                · exact q
                · refine absurd q (no _ ?_)
                  rintro ⟨u, v, w⟩
                  exact absurd (V.str.inj (List.cons.inj w).1) (by decide)
            · rintro G2 ⟨s2, es, e2, l2, m2, k2⟩
              rw [List.take_of_length_le (Nat.le_refl _)] at k2
              have tl := s1.trans s2
              have k2' := k2 (hO.tl fun b t e => s1 _ _ e)
              exact ⟨_, _, rfl, po, pf, pn, D1, D2, many, long, wide, late, cut, ps, bs, es, sort, xs, rfl, hm, hmp, hl, B1.same s2, Ff, Fn, n5, n6', n7', tl _ _ vf, tl _ _ vn, ha.tl fun b t e => tl _ _ e, hI.tl fun b t e => tl _ _ e, hO.tl fun b t e => tl _ _ e, hx2, hxd,
                ⟨F1, s2 _ _ e1, k1', by omega, fun x hx => (m1 x hx).1⟩, ⟨B1.fr hD2, e2, k2', by omega, fun x hx => (m2 x hx).1⟩, (ne_of_none vf hD1).symm, (ne_of_none (s1 _ _ vf) hD2).symm, fun x hx => (m1 x hx).2, fun x hx => (m2 x hx).2⟩
        · rintro σ0 G0 ⟨po, pf, pn, pb, pe, many, long, wide, late, cut, ps, bs, es, sort, xs, rfl, hm, hmp, hl, B, Ff, Fn, n5, n6', n7', vf, vn, ha, hI, hO, hx2, hxd, X, Y, nbf, nef, hbs, hes⟩
          have lenps := hm.len
          have lm20 := hm.m20
          have lm2 := hm.m2
          refine ⟨MD 30 a l H N 1000 places full doors, ?_, ?_⟩
          · refine ⟨_, rfl, a, l, _, 5, rfl, B.t, by omega, by omega, by decide, by decide, fun G1 d pd rd b1 S1 => ?_⟩
            have W0 : Kept a l H po pf pn pb pe ps bs es xs G0 (N + 200) G0 := ⟨B, vn, TL.refl, X, Y, Fn⟩
            refine ⟨_, _, rfl, rfl, _, rfl, by omega, by omega, ?_⟩
            refine for_range (LD a l H (N + 201) po pf pn pb pe ps bs es xs G0 (fun σ => ∃ k line, σ = sgA a po pf pn places full doors many long wide late cut k sort (some (.ref pb)) (some (.ref pe)) line none none none none none none none)) ⟨⟨_, _, rfl⟩, (W0.draw b1 S1).mono (by omega), [], b1 _ _ Ff.na Ff.nl vf, ⟨Nat.zero_le _, fun z => absurd z (by decide)⟩, AllT.nil⟩ (fun i σ H1 hi w => ?_) (fun σ H1 w => ?_)
            · obtain ⟨⟨k0, line0, rfl⟩, W, fs, hf, lf, af⟩ := w
              have hi6 : i < 6 := by omega
              refine ⟨_, rfl, _, rfl, a, l, pb, _, _, rfl, W.b.t, by omega, by omega, W.x.r.na, W.x.r.nl, W.x.h, by rw [List.length_map]; exact W.x.n, by rw [List.length_map]; exact Nat.le_trans W.x.m (by decide), fun H2 v0 hv0 b2 S2 => ?_⟩
              obtain ⟨x0, hx0, rfl⟩ := List.mem_map.mp hv0
              have W2 := W.draw b2 S2
              have f2 := b2 _ _ Ff.na Ff.nl hf
              have a2 := af.tl (b2.tl W.b.t)
              refine ⟨(by show 1 ≤ sizeLine; decide), fun t1 h1 => ?_⟩
              have W3 := W2.new (o := .lst [.int x0]) h1
              have r1 := W2.b.fr h1
              have f3 := same_new (o := .lst [.int x0]) h1 _ _ f2
              have a3 := a2.tl (TL.new (o := .lst [.int x0]) h1)
              refine ⟨_, rfl, _, rfl, a, l, po, _, _, rfl, W3.b.t, by omega, by omega, W3.b.r.na, W3.b.r.nl, W3.b.o, by rw [List.length_map]; omega, fun H4 q ys pm b4 fq e4 S4 => ?_⟩
              obtain ⟨qs, rfl, pq⟩ := perm_ints pm
              have W4 := W3.draw b4 S4
              have f4 := b4 _ _ Ff.na Ff.nl f3
              have a4 := a3.tl (b4.tl W3.b.t)
              have rq : Fr a l H q := by
                have z := W3.b.fr fq
                exact z
              have t14 := b4 _ _ r1.na r1.nl (upd_same : upd H2 t1 (.lst [.int x0]) t1 = _)
              refine ⟨_, rfl, (by show 5 ≤ sizeLine; decide), fun t2 h2 => ?_⟩
              have W5 := W4.new (o := .lst [.int 0, .int 0, .int 1, .int 1, .int 2]) h2
              have r2 := W4.b.fr h2
              have s2 := same_new (o := .lst [.int 0, .int 0, .int 1, .int 1, .int 2]) h2
              refine ⟨a, l, t2, _, _, rfl, W5.b.t, by omega, by omega, r2.na, r2.nl, upd_same, by decide, by decide, fun H6 v2 hv2 b6 S6 => ?_⟩
              obtain ⟨c, rfl, c0, c2⟩ : ∃ i : Int, v2 = .int i ∧ 0 ≤ i ∧ i ≤ 2 := by
                simp only [List.mem_cons, List.not_mem_nil, or_false] at hv2
                rcases hv2 with rfl | rfl | rfl | rfl | rfl
                all_goals exact ⟨_, rfl, by decide, by decide⟩
              have W6 := W5.draw b6 S6
              have f6 := b6 _ _ Ff.na Ff.nl (s2 _ _ f4)
              have a6 := (a4.tl (TL.new (o := .lst [.int 0, .int 0, .int 1, .int 1, .int 2]) h2)).tl (b6.tl W5.b.t)
              have t16 := b6 _ _ r1.na r1.nl (s2 _ _ t14)
              have e6 := b6 _ _ rq.na rq.nl (s2 _ _ e4)
              refine ⟨c, rfl, q, _, rfl, SqL.of e6, fun t3 h3 => ?_⟩
              rw [cut_to _ c0, List.map_take.symm]
              have W7 := W6.new (o := .lst ((qs.take c.toNat).map V.int)) h3
              have s3 := same_new (o := .lst ((qs.take c.toNat).map V.int)) h3
              refine ⟨t1, t3, _, _, rfl, rfl, s3 _ _ t16, upd_same, by rw [List.length_map, List.length_take]; exact Nat.le_trans (Nat.add_le_add_left (Nat.min_le_left _ _) _) (Nat.le_trans (show 1 + c.toNat ≤ 3 by omega) (by decide)), fun pl hpl => ?_⟩
              have eL : [V.int x0] ++ (qs.take c.toNat).map V.int = (x0 :: qs.take c.toNat).map V.int := rfl
              rw [eL]
              have hL : ∀ z ∈ (x0 :: qs.take c.toNat), z ∈ ps := fun z hz => by
                rcases List.mem_cons.mp hz with rfl | q
                · exact W.x.s _ hx0
                · exact pq.mem_iff.mp (List.mem_of_mem_take q)
              have lL : (x0 :: qs.take c.toNat).length ≤ 3 := by
                rw [List.length_cons, List.length_take]
                omega
              have hL0 : (x0 :: qs.take c.toNat)[0]? = some x0 := rfl
              generalize (x0 :: qs.take c.toNat) = L at hL lL hL0 ⊢
              have W8 := W7.new (o := .lst (L.map V.int)) hpl
              have rl := W7.b.fr hpl
              have s4 := same_new (o := .lst (L.map V.int)) hpl
              have f8 := s4 _ _ (s3 _ _ f6)
              have a8 := (a6.tl (TL.new (o := .lst ((qs.take c.toNat).map V.int)) h3)).tl (TL.new (o := .lst (L.map V.int)) hpl)
              have npf : pf ≠ pl := ne_of_none (s3 _ _ f6) hpl
              have npo : po ≠ pl := ne_of_none W7.b.o hpl
              have npn : pn ≠ pl := ne_of_none W7.n hpl
              have npb : pb ≠ pl := ne_of_none W7.x.h hpl
              have npe : pe ≠ pl := ne_of_none W7.y.h hpl
              refine ⟨_, rfl, .inl ⟨rfl, _, SqL.of upd_same⟩, _, rfl, _, rfl, a, l, pe, _, _, rfl, W8.b.t, by omega, by omega, W8.y.r.na, W8.y.r.nl, W8.y.h, by rw [List.length_map]; exact W8.y.n, by rw [List.length_map]; exact Nat.le_trans W8.y.m (by decide), fun H9 v9 hv9 b9 S9 => ?_⟩
              obtain ⟨y0, hy0, rfl⟩ := List.mem_map.mp hv9
              have W9 := W8.draw b9 S9
              have f9 := b9 _ _ Ff.na Ff.nl f8
              have a9 := a8.tl (b9.tl W8.b.t)
              have l9 := b9 _ _ rl.na rl.nl (upd_same : upd _ pl (.lst (L.map V.int)) pl = _)
              refine ⟨pl, _, _, rfl, rfl, l9, by rw [List.length_map]; exact Nat.lt_of_le_of_lt lL (by decide), ?_⟩
              have eL2 : L.map V.int ++ [V.int y0] = (L ++ [y0]).map V.int := by rw [List.map_append]; rfl
              rw [eL2]
              have hL2 : ∀ z ∈ L ++ [y0], z ∈ ps := fun z hz => by
                rcases List.mem_append.mp hz with q | q
                · exact hL z q
                · rw [List.mem_singleton.mp q]
                  exact W.y.s _ hy0
              have lL2 : (L ++ [y0]).length ≤ 4 := by
                rw [List.length_append]
                exact Nat.succ_le_succ lL
              have nb : Nb (L ++ [y0]) L.length := by
                refine nb_of (x := x0) (y := y0) ?_ ?_ fun z => ?_
                · match L, hL0 with
                  | _ :: _, h => exact h
                · simp
                · have z1 := hbs x0 hx0
                  rw [z, hes y0 hy0] at z1
                  cases z1
              have nbl : (L ++ [y0]).length = L.length + 1 := by rw [List.length_append, List.length_singleton]
              generalize L.length = nL at nb nbl
              generalize (L ++ [y0]) = L' at hL2 lL2 nb nbl ⊢
              have W10 := (W9.set (o := .lst (L'.map V.int)) rl l9 npo.symm npn.symm npb.symm npe.symm).mono (show _ ≤ N + 201 + 110 * ((i + 1 : Nat) : Int) by omega)
              have l10 : upd H9 pl (.lst (L'.map V.int)) pl = some (.lst (L'.map V.int)) := upd_same
              have f10 : upd H9 pl (.lst (L'.map V.int)) pf = some (.lst fs) := by
                rw [upd_ne npf]
                exact f9
              have a10 := a9.tl (TL.set (o := .lst (L'.map V.int)) l9)
              generalize upd H9 pl (.lst (L'.map V.int)) = H10 at W10 l10 f10 a10 ⊢
              clear W9 W8 W7 W6 W5 W4 W3 W2 W a9 a8 a6 a4 a3 a2 f9 f8 f6 f4 f3 f2 hf l9 b9 S9 b6 S6 b4 S4 b2 S2 e6 t16 e4 t14 s4 s3 s2
              refine ⟨_, rfl, .inl ⟨rfl, _, SqL.of f10⟩, _, rfl, _, rfl, _, rfl, pl, _, rfl, SqL.of l10, fun p4 h4 => ?_⟩
              rw [cut_from _ (by decide)]
              have W11 := W10.new (o := .lst ((L'.map V.int).drop (Int.toNat 1))) h4
              have s5 := same_new (o := .lst ((L'.map V.int).drop (Int.toNat 1))) h4
              have f11 := s5 _ _ f10
              have a11 := a10.tl (TL.new (o := .lst ((L'.map V.int).drop (Int.toNat 1))) h4)
              refine ⟨pl, p4, _, _, rfl, SqL.of (s5 _ _ l10), SqL.of upd_same, fun D hD => ?_⟩
              refine lc_it (walk_zip rfl) (fun i H' => Same _ H' ∧ ∃ acc, H' D = some (.lst acc) ∧ (acc.length ≤ i ∧ (Nb L' i → 0 < acc.length)) ∧ AllT H' (Pok ps) acc) ⟨same_new hD, [], upd_same, ⟨Nat.le_refl _, fun ⟨k, _, _, z, _⟩ => absurd z (Nat.not_lt_zero _)⟩, AllT.nil⟩ (fun i H' _ q => ⟨SqL.of (q.1 _ _ (s5 _ _ l10)), SqL.of (q.1 _ _ upd_same)⟩) ?_ ?_
              · rintro j x H12 H13 hj ⟨s12, acc, e12, l12, a12⟩ ⟨t, x1, y1, rfl, ht, rfl, hx, hy⟩
                have hx' := List.mem_of_getElem? hx
                have hy' := List.mem_of_mem_drop (List.mem_of_getElem? hy)
                obtain ⟨u, hu, rfl⟩ := List.mem_map.mp hx'
                obtain ⟨v, hv, rfl⟩ := List.mem_map.mp hy'
                have s13 := same_new (o := .tup [V.int u, V.int v]) ht
                have lj : acc.length < 4 := by
                  have z : j < min (L'.map V.int).length ((L'.map V.int).drop (Int.toNat 1)).length := hj
                  rw [List.length_map] at z
                  omega
                have nD : ∀ {b : Addr} {o : HO}, upd H10 p4 (.lst ((L'.map V.int).drop (Int.toNat 1))) b = some o → b ≠ D := fun g => ne_of_none g hD
                refine ⟨t, _, rfl, SqT.of upd_same, rfl, _, _, rfl, _, _, rfl, rfl, rfl, _, rfl, _, rfl, rfl, _, rfl, ite2 (fun hc => ?_) (fun hc => ?_)⟩
                · have huv : u ≠ v := fun z => by
                    rw [z, decide_eq_true rfl] at hc
                    cases hc
                  refine ⟨_, rfl, _, rfl, (by show 2 ≤ sizeLine; decide), fun t5 h5 => ?_⟩
                  have s14 := same_new (o := .tup [V.int u, V.int v]) h5
                  have e14 := s14 _ _ (s13 _ _ e12)
                  refine ⟨acc, e14, Nat.lt_trans lj (by decide), fun b o g => ?_, acc ++ [.ref t5], upd_same, ⟨by rw [List.length_append]; exact Nat.succ_le_succ l12.1, fun _ => by rw [List.length_append]; exact Nat.succ_pos _⟩, ?_⟩
                  · rw [upd_ne (nD g)]
                    exact s14 _ _ (s13 _ _ (s12 _ _ g))
                  · exact (((a12.tl (TL.new ht)).tl (TL.new h5)).tl (TL.set e14)).app (AllT.one (TL.set e14 _ _ upd_same) ⟨u, v, rfl, hL2 _ hu, hL2 _ hv, huv⟩)
                · exact ⟨fun b o g => s13 _ _ (s12 _ _ g), acc, s13 _ _ e12, ⟨Nat.le_succ_of_le l12.1, fun z => l12.2 (z.down fun u' v' h1 h2 => by
                    have e1 : (L'.map V.int)[j]? = some (.int u) := hx
                    have e2 : ((L'.map V.int).drop (Int.toNat 1))[j]? = some (.int v) := hy
                    rw [List.getElem?_map, h1] at e1
                    rw [show Int.toNat 1 = 1 from rfl, List.getElem?_drop, Nat.add_comm 1 j, List.getElem?_map, h2] at e2
                    have z1 := V.int.inj (Option.some.inj e1)
                    have z2 := V.int.inj (Option.some.inj e2)
                    have z3 : u = v := by simpa using hc
                    rw [z1, z2, z3])⟩, a12.tl (TL.new ht)⟩
              · rintro H12 ⟨s12, acc, e12, l12, a12⟩
                have W12 := W11.same s12
                have f12 := s12 _ _ f11
                obtain ⟨l12, k12⟩ := l12
                have eM : min (L'.map V.int).length ((L'.map V.int).drop (Int.toNat 1)).length = nL := by
                  rw [List.length_drop, List.length_map]
                  have z2 : (Int.toNat 1) = 1 := rfl
                  omega
                have k12 : 0 < acc.length := k12 (by rw [eM]; exact nb)
                have l12' : acc.length ≤ 3 := by
                  have z : acc.length ≤ min (L'.map V.int).length ((L'.map V.int).drop (Int.toNat 1)).length := l12
                  rw [List.length_drop, List.length_map] at z
                  have z2 : (Int.toNat 1) = 1 := rfl
                  omega
                refine ⟨pf, D, fs, acc, rfl, rfl, f12, e12, Nat.le_trans (show fs.length + acc.length ≤ 40 by omega) (by decide), ?_⟩
                refine ⟨⟨_, _, rfl⟩, W12.set Ff f12 n5.symm n7' nbf.symm nef.symm, fs ++ acc, upd_same, by rw [List.length_append]; omega, ?_⟩
                exact ((a11.tl fun b t e => s12 _ _ e).tl (TL.set f12)).app (a12.tl (TL.set f12))
            · obtain ⟨⟨k0, line0, rfl⟩, W, fs, hf, lf, af⟩ := w
              exact ⟨po, pf, pn, pb, pe, many, long, wide, late, cut, ps, bs, es, k0, sort, line0, none, none, xs, fs, G0, rfl, hm, hmp, hl, Ff, n5, n6', n7', ha, hI, hO, hx2, hxd, W.mono (by omega), nbf, nef, hf, by omega, af⟩
          · rintro σ0 H0 ⟨po, pf, pn, pb, pe, many, long, wide, late, cut, ps, bs, es, k0, sort, line0, one0, other0, xs, fs, G0, rfl, hm, hmp, hl, Ff, n5, n6', n7', ha, hI, hO, hx2, hxd, W, nbf, nef, hf, lf, af⟩
            have lenps := hm.len
            have lm20 := hm.m20
            have lm2 := hm.m2
            refine ⟨MD 33 a l H N 1400 places full doors, ?_, ?_⟩
            · refine ⟨_, rfl, a, l, _, 3, rfl, W.b.t, by omega, by omega, by decide, by decide, fun G1 d pd rd b1 S1 => ?_⟩
              refine ⟨_, rfl, by omega, by omega, ?_⟩
              refine for_range (LE a l H (N + 1001) po pf pn pb pe ps bs es xs G0 (fun σ => ∃ k one other, σ = sgA a po pf pn places full doors many long wide late cut k sort (some (.ref pb)) (some (.ref pe)) line0 one other none none none none none)) ⟨⟨_, _, _, rfl⟩, (W.draw b1 S1).mono (by omega), fs, b1 _ _ Ff.na Ff.nl hf, lf, af.tl (b1.tl W.b.t)⟩ (fun i σ H1 hi w => ?_) (fun σ H1 w => ?_)
              · clear hf lf af W fs
                obtain ⟨⟨k0, one, other, rfl⟩, W, fs, hf, lf, af⟩ := w
                have hi3 : i < 3 := by omega
                refine ⟨_, rfl, _, rfl, a, l, po, _, _, rfl, W.b.t, by omega, by omega, W.b.r.na, W.b.r.nl, W.b.o, by rw [List.length_map]; omega, fun H4 q ys pm b4 fq e4 S4 => ?_⟩
                obtain ⟨qs, rfl, pq⟩ := perm_ints pm
                have W4 := W.draw b4 S4
                have f4 := b4 _ _ Ff.na Ff.nl hf
                have a4 := af.tl (b4.tl W.b.t)
                have rq : Fr a l H q := W.b.fr fq
                have lq : qs.length = ps.length := pq.length_eq
                obtain ⟨x, y, r, rfl⟩ : ∃ x y r, qs = x :: y :: r := by
                  match qs, lq with
                  | [], lq => simp at lq; omega
                  | [x], lq => simp at lq; omega
                  | x :: y :: r, _ => exact ⟨x, y, r, rfl⟩
                have hx : x ∈ ps := pq.mem_iff.mp List.mem_cons_self
                have hy : y ∈ ps := pq.mem_iff.mp (List.mem_cons_of_mem _ List.mem_cons_self)
                have nxy : x ≠ y := fun z => by
                  have nd := pq.nodup_iff.mpr hm.nd
                  rw [z] at nd
                  exact (List.nodup_cons.mp nd).1 List.mem_cons_self
                refine ⟨_, rfl, q, _, rfl, SqL.of e4, fun t3 h3 => ?_⟩
                rw [cut_to _ (by decide)]
                have W5 := W4.new (o := .lst (List.take (Int.toNat 2) (List.map V.int (x :: y :: r)))) h3
                have s5 := same_new (o := .lst (List.take (Int.toNat 2) (List.map V.int (x :: y :: r)))) h3
                have g5 : upd H4 t3 (.lst (List.take (Int.toNat 2) (List.map V.int (x :: y :: r)))) t3 = some (.lst [.int x, .int y]) := upd_same
                refine ⟨t3, _, rfl, SqL.of g5, rfl, _, _, rfl, _, _, rfl, rfl, ?_⟩
                have f5 := s5 _ _ f4
                have a5 := a4.tl (TL.new (o := .lst (List.take (Int.toNat 2) (List.map V.int (x :: y :: r)))) h3)
                refine ⟨_, rfl, .inl ⟨rfl, _, SqL.of f5⟩, _, rfl, _, rfl, (by show 2 ≤ sizeLine; decide), fun t6 h6 => ?_⟩
                have W6 := W5.new (o := .tup [.int x, .int y]) h6
                have f6 := same_new (o := .tup [.int x, .int y]) h6 _ _ f5
                have a6 := a5.tl (TL.new (o := .tup [.int x, .int y]) h6)
                refine ⟨pf, _, _, rfl, rfl, f6, Nat.lt_of_le_of_lt (show fs.length ≤ 33 by omega) (by decide), ?_⟩
                refine ⟨⟨_, _, _, rfl⟩, (W6.set Ff f6 n5.symm n7' nbf.symm nef.symm).mono (by omega), fs ++ [.ref t6], upd_same, by rw [List.length_append, List.length_singleton]; omega, ?_⟩
                exact (a6.tl (TL.set f6)).app (AllT.one (TL.set f6 _ _ upd_same) ⟨x, y, rfl, hx, hy, nxy⟩)
              · obtain ⟨⟨k1, one, other, rfl⟩, W', fs', hf', lf', af'⟩ := w
                exact ⟨po, pf, pn, pb, pe, many, long, wide, late, cut, ps, bs, es, k1, sort, line0, one, other, xs, fs', G0, rfl, hm, hmp, hl, Ff, n5, n6', n7', ha, hI, hO, hx2, hxd, W'.mono (by omega), nbf, nef, hf', by omega, af'⟩
            · clear hf lf af W fs ha hI hO
              rintro σ0 H0 ⟨po, pf, pn, pb, pe, many, long, wide, late, cut, ps, bs, es, k0, sort, line0, one0, other0, xs, fs, G0, rfl, hm, hmp, hl, Ff, n5, n6', n7', ha, hI, hO, hx2, hxd, W, nbf, nef, hf, lf, af⟩
              have lenps := hm.len
              have lm20 := hm.m20
              have lm2 := hm.m2
              refine ⟨fun σ H' => ∃ rd, MF a l H N 1600 places full doors σ H' ∧ σ[19]? = some (some (.ref rd)) ∧ H' rd = some (.lst []), ?_, ?_⟩
              · refine ⟨Nat.zero_le _, fun pr hpr => ?_⟩
                have W1 := W.new (o := .lst []) hpr
                have s1 := same_new (o := .lst []) hpr
                have rr := W.b.fr hpr
                have nof := ne_of_none W.b.o hpr
                have nnf := ne_of_none W.n hpr
                have nbf' := ne_of_none W.x.h hpr
                have nef' := ne_of_none W.y.h hpr
                refine ⟨_, rfl, _, rfl, _, rfl, _, rfl, _, rfl, a, l, po, _, _, rfl, W1.b.t, by omega, by omega, W1.b.r.na, W1.b.r.nl, W1.b.o, by rw [List.length_map]; omega, fun H4 q ys pm b4 fq e4 S4 => ?_⟩
                obtain ⟨qs, rfl, pq⟩ := perm_ints pm
                have W4 := W1.draw b4 S4
                have rq : Fr a l H q := W1.b.fr fq
                have nrq : pr ≠ q := ne_of_none (H := upd H0 pr (.lst [])) upd_same fq
                have g4 := b4 _ _ rr.na rr.nl (upd_same : upd H0 pr (.lst []) pr = _)
                have f4 := b4 _ _ Ff.na Ff.nl (s1 _ _ hf)
                have a4 := (af.tl (TL.new (o := .lst []) hpr)).tl (b4.tl W1.b.t)
                refine ⟨(by show 3 ≤ sizeLine; decide), fun t1 h1 => ?_⟩
                have W5 := W4.new (o := .lst [.ref po, .ref po, .ref q]) h1
                have s5 := same_new (o := .lst [.ref po, .ref po, .ref q]) h1
                have r1 := W4.b.fr h1
                refine ⟨a, l, t1, _, _, rfl, W5.b.t, by omega, by omega, r1.na, r1.nl, upd_same, (by show 0 < 3; decide), (by show 3 ≤ 1000; decide), fun H6 v hv b6 S6 => ⟨_, _, rfl, ?_⟩⟩
                have W6 := W5.draw b6 S6
                have hk : ∃ pk rs, v = .ref pk ∧ Rnk a l H pk ps rs H6 ∧ pr ≠ pk := by
                  simp only [List.mem_cons, List.not_mem_nil, or_false] at hv
                  have c1 : Rnk a l H po ps ps H6 := ⟨W6.b.r, W6.b.o, .refl _⟩
                  rcases hv with rfl | rfl | rfl
                  · exact ⟨po, ps, rfl, c1, nof.symm⟩
                  · exact ⟨po, ps, rfl, c1, nof.symm⟩
                  · exact ⟨q, qs, rfl, ⟨rq, b6 _ _ rq.na rq.nl (s5 _ _ e4), pq⟩, nrq⟩
                obtain ⟨pk, rs, rfl, R, nrk⟩ := hk
                have g6 := b6 _ _ rr.na rr.nl (s5 _ _ g4)
                exact ⟨pr, ⟨po, pf, pn, pb, pe, pr, pk, many, long, wide, late, cut, ps, bs, es, rs, k0, sort, line0, one0, other0, none, xs, fs, [], G0, rfl, hm, hmp, hl, rr, nof.symm, nnf.symm, nbf'.symm, nef'.symm, nrk, ha, hI, hO, hx2, hxd, W6.mono (by omega), b6 _ _ Ff.na Ff.nl (s5 _ _ f4), lf, (a4.tl (TL.new h1)).tl (b6.tl W5.b.t), R, g6, hf0, AllT.nil⟩, rfl, g6⟩
              · clear hf lf af W fs ha hI hO
                rintro σ0 H0 ⟨rd0, ⟨po, pf, pn, pb, pe, pr, pk, many, long, wide, late, cut, ps, bs, es, rs, k0, sort, line0, one0, other0, len0, xs, fs, rd, G0, rfl, hm, hmp, hl, Fr', nro, nrn, nrb, nre, nrk, ha, hI, hO, hx2, hxd, W, hf, lf, af, R, hr0, lr, ar⟩, erd, hrd⟩
                obtain rfl : pr = rd0 := V.ref.inj (Option.some.inj (Option.some.inj erd))
                obtain rfl : rd = [] := by
                  rw [hr0] at hrd
                  exact HO.lst.inj (Option.some.inj hrd)
                clear erd hrd
                have lenps := hm.len
                have lm20 := hm.m20
                have lm2 := hm.m2
                refine ⟨MG a l H N 1700 places full doors, ?_, ?_⟩
                · refine ⟨_, rfl, _, rfl, full, rfl, pf, _, rfl, SqL.of hf, fun q hq => ?_⟩
                  rw [cut_to _ hf0]
                  have W1 := W.new (o := .lst (fs.take full.toNat)) hq
                  have s1 := same_new (o := .lst (fs.take full.toNat)) hq
                  have rq := W.b.fr hq
                  have nrq : pr ≠ q := ne_of_none hr0 hq
                  have lq : (fs.take full.toNat).length ≤ 33 ∧ ((fs.take full.toNat).length : Int) ≤ full ∧ (1 ≤ full → 0 < (fs.take full.toNat).length) := by
                    rw [List.length_take]
                    omega
                  have aq : AllT (upd H0 q (.lst (fs.take full.toNat))) (Pok ps) (fs.take full.toNat) := (af.sub fun v hv => List.mem_of_mem_take hv).tl (TL.new hq)
                  have vq : upd H0 q (.lst (fs.take full.toNat)) q = some (.lst (fs.take full.toNat)) := upd_same
                  generalize fs.take full.toNat = fq at W1 s1 lq aq vq ⊢
                  generalize upd H0 q (.lst fq) = H1 at W1 s1 aq vq ⊢
                  refine ⟨q, rfl, ⟨_, SqL.of vq⟩, ?_⟩
                  refine for_list (xs := fq) (LG a l H (N + 1600) po pf pn pb pe pr pk q ps bs es rs xs fq G0 (fun σ => ∃ one other len, σ = sgA a po pf pn places full doors many long wide late cut k0 sort (some (.ref pb)) (some (.ref pe)) line0 one other (some (.ref pr)) (some (.ref pk)) len none none)) ⟨⟨_, _, _, rfl⟩, W1.mono (by omega), vq, aq, R.same s1, [], s1 _ _ hr0, rfl, AllT.nil⟩ (fun i σ H _ w => SqL.of w.q) (fun i x σ H2 hx w => ?_) (fun σ H2 w => ?_)
                  · clear W1 s1 aq vq R hr0 lr ar hf lf af W
                    obtain ⟨⟨one, other, len, rfl⟩, W, vq, aq, R, rd, hr0, lr, ar⟩ := w
                    have hi : i < 33 := Nat.lt_of_lt_of_le (List.getElem?_eq_some_iff.mp hx).1 lq.1
                    obtain ⟨p, tt, rfl, hp, u, v, rfl, hu, hv, nuv⟩ := aq x (List.mem_of_getElem? hx)
                    have l1 := hl.l1
                    have l2 := hl.l2
                    have w1 := hl.w1
                    have w2 := hl.w2
                    refine ⟨p, _, rfl, SqT.of hp, rfl, _, _, rfl, _, _, rfl, rfl, ?_⟩
                    refine ⟨_, rfl, _, rfl, _, _, rfl, rfl, a, l, _, _, rfl, W.b.t, by omega, by omega, by omega, by omega, fun H3 d d0 d1 b3 S3 => ?_⟩
                    have W3 := W.draw b3 S3
                    have R3 := R.draw b3
                    have vq3 := b3 _ _ rq.na rq.nl vq
                    have aq3 := aq.tl (b3.tl W.b.t)
                    have hr3 := b3 _ _ Fr'.na Fr'.nl hr0
                    have ar3 := ar.tl (b3.tl W.b.t)
                    refine ⟨fun σ' H' => H' = H3 ∧ ∃ d' : Int, 0 ≤ d' ∧ d' ≤ 5 ∧ (d' = 0 → rkOf rs u < rkOf rs v) ∧ σ' = sgA a po pf pn places full doors many long wide late cut k0 sort (some (.ref pb)) (some (.ref pe)) line0 (some (.int u)) (some (.int v)) (some (.ref pr)) (some (.ref pk)) (some (.int d')) none none, ?_, ?_⟩
                    · refine ⟨_, rfl, rfl, _, rfl, ite2 (fun hc => ?_) (fun hc => ?_)⟩
                      · have hu' : u ∈ rs := R3.p.mem_iff.mpr hu
                        have hv' : v ∈ rs := R3.p.mem_iff.mpr hv
                        obtain ⟨i1, i2⟩ := idx_ok hu'
                        obtain ⟨j1, j2⟩ := idx_ok hv'
                        refine ⟨_, rfl, .inl ⟨rfl, _, SqL.of R3.h⟩, _, rfl, pk, _, _, _, _, rfl, rfl, SqL.of R3.h, rfl, ints_flat rs, i1, (by show (u == u) = true; exact beq_self_eq_true u), i2, ?_⟩
                        refine ⟨_, rfl, .inl ⟨rfl, _, SqL.of R3.h⟩, _, rfl, pk, _, _, _, _, rfl, rfl, SqL.of R3.h, rfl, ints_flat rs, j1, (by show (v == v) = true; exact beq_self_eq_true v), j2, ?_⟩
                        refine ⟨_, _, rfl, rfl, _, rfl, ite2 (fun hc2 => ?_) (fun hc2 => ?_)⟩
                        · exact ⟨rfl, 1, by decide, by decide, fun z => absurd z (by decide), rfl⟩
                        · refine ⟨_, rfl, rfl, d, d0, by omega, fun _ => idx_lt hu' hv' nuv fun z => ?_, rfl⟩
                          have z2 : ((rs.idxOf u : Nat) : Int) > ((rs.idxOf v : Nat) : Int) := by omega
                          rw [decide_eq_true z2] at hc2
                          exact hc2 rfl
                      · refine ⟨_, rfl, rfl, d, d0, by omega, fun z => ?_, rfl⟩
                        rw [z, decide_eq_true rfl] at hc
                        exact absurd rfl hc
                    · rintro σ' H' ⟨rfl, d', e0, e5, ek, rfl⟩
                      refine ⟨_, rfl, .inl ⟨rfl, _, SqL.of hr3⟩, _, rfl, _, rfl, _, rfl, _, rfl, _, rfl, a, l, _, _, rfl, S3, by omega, by omega, by omega, by omega, fun H5 e f0 f1 b5 S5 => ?_⟩
                      have W5 := W3.draw b5 S5
                      have hr5 := b5 _ _ Fr'.na Fr'.nl hr3
                      refine ⟨_, _, rfl, rfl, (by show 4 ≤ sizeLine; decide), fun t ht => ?_⟩
                      have s6 := same_new (o := .tup [.int u, .int v, .int d', .int (1 + e)]) ht
                      have W6 := W5.same s6
                      have hr6 := s6 _ _ hr5
                      have tl6 : TL H' (upd H5 t (.tup [.int u, .int v, .int d', .int (1 + e)])) := (b5.tl S3).trans (TL.new ht)
                      refine ⟨pr, _, _, rfl, rfl, hr6, by rw [lr]; exact Nat.lt_trans hi (by decide), ?_⟩
                      refine ⟨⟨_, _, _, rfl⟩, (W6.set Fr' hr6 nro nrn nrb nre).mono (by omega), ?_, (aq3.tl tl6).tl (TL.set hr6), ((R3.draw b5).same s6).set nrk, rd ++ [.ref t], upd_same, by rw [List.length_append, lr]; rfl, ?_⟩
                      · rw [upd_ne nrq.symm]
                        exact s6 _ _ (b5 _ _ rq.na rq.nl vq3)
                      · exact ((ar3.tl tl6).tl (TL.set hr6)).app (AllT.one (TL.set hr6 _ _ upd_same) ⟨u, v, d', _, rfl, hu, hv, nuv, e0, by omega, by omega, by omega, ek⟩)
                  · obtain ⟨⟨one, other, len, rfl⟩, W', vq', aq', R', rd', hr', lr', ar'⟩ := w
                    exact ⟨po, pf, pn, pb, pe, pr, pk, many, long, wide, late, cut, ps, bs, es, rs, k0, sort, line0, one, other, len, none, none, xs, rd', G0, rfl, hm, hmp, hl, Fr', nro, nrn, nrb, nre, nrk, ha, hI, hO, hx2, hxd, W'.mono (by omega), R', hr', by omega, ar'⟩
                · clear hf lf af W R hr0 lr ar ha hI hO
                  rintro σ0 H0 ⟨po, pf, pn, pb, pe, pr, pk, many, long, wide, late, cut, ps, bs, es, rs, k0, sort, line0, one0, other0, len0, cr0, at0, xs, rd, G0, rfl, hm, hmp, hl, Fr', nro, nrn, nrb, nre, nrk, ha, hI, hO, hx2, hxd, W, R, hr0, lr, ar⟩
                  have lenps := hm.len
                  have lm20 := hm.m20
                  have lm2 := hm.m2
                  have ll := hl.w1
                  have lw := hl.w2
                  refine ⟨MG a l H N 1850 places full doors, ?_, ?_⟩
                  · have skip : ∀ H1, Kept a l H po pf pn pb pe ps bs es xs G0 (N + 1850) H1 → Rnk a l H pk ps rs H1 → H1 pr = some (.lst rd) → AllT H1 (Rok ps (rkOf rs)) rd → MG a l H N 1850 places full doors (sgA a po pf pn places full doors many long wide late cut k0 sort (some (.ref pb)) (some (.ref pe)) line0 one0 other0 (some (.ref pr)) (some (.ref pk)) len0 cr0 at0) H1 := fun H1 W1 R1 h1 a1 =>
                      ⟨po, pf, pn, pb, pe, pr, pk, many, long, wide, late, cut, ps, bs, es, rs, k0, sort, line0, one0, other0, len0, cr0, at0, xs, rd, G0, rfl, hm, hmp, hl, Fr', nro, nrn, nrb, nre, nrk, ha, hI, hO, hx2, hxd, W1, R1, h1, lr, a1⟩
                    refine ⟨_, rfl, _, _, rfl, rfl, _, rfl, ite2 (fun hc1 => ?_) (fun hc1 => iteF (skip _ (W.mono (by omega)) R hr0 ar))⟩
                    refine ⟨_, rfl, _, _, rfl, rfl, _, rfl, ite2 (fun hc2 => ?_) (fun hc2 => iteF (skip _ (W.mono (by omega)) R hr0 ar))⟩
                    have m3 : many > 3 := of_decide_eq_true hc1
                    have f4 : full > 4 := of_decide_eq_true hc2
                    refine ⟨_, rfl, a, l, _, 2, rfl, W.b.t, by omega, by omega, by decide, by decide, fun H1 d d0 d1 b1 S1 => ?_⟩
                    have W1 := W.draw b1 S1
                    have R1 := R.draw b1
                    have h1 := b1 _ _ Fr'.na Fr'.nl hr0
                    have a1 := ar.tl (b1.tl W.b.t)
                    refine ⟨rfl, _, rfl, ite2 (fun hc3 => ?_) (fun hc3 => skip _ (W1.mono (by omega)) R1 h1 a1)⟩
                    clear skip
                    refine ⟨_, rfl, _, rfl, _, rfl, a, l, pb, _, _, rfl, W1.b.t, by omega, by omega, W1.x.r.na, W1.x.r.nl, W1.x.h, by rw [List.length_map]; exact W1.x.n, by rw [List.length_map]; exact Nat.le_trans W1.x.m (by decide), fun H2 v2 hv2 b2 S2 => ?_⟩
                    obtain ⟨x2, hx2', rfl⟩ := List.mem_map.mp hv2
                    have W2 := W1.draw b2 S2
                    have R2 := R1.draw b2
                    have h2 := b2 _ _ Fr'.na Fr'.nl h1
                    have a2 := a1.tl (b2.tl W1.b.t)
                    refine ⟨_, rfl, _, rfl, a, l, pe, _, _, rfl, W2.b.t, by omega, by omega, W2.y.r.na, W2.y.r.nl, W2.y.h, by rw [List.length_map]; exact W2.y.n, by rw [List.length_map]; exact Nat.le_trans W2.y.m (by decide), fun H3 v3 hv3 b3 S3 => ?_⟩
                    obtain ⟨x3, hx3, rfl⟩ := List.mem_map.mp hv3
                    have W3 := W2.draw b3 S3
                    have R3 := R2.draw b3
                    have h3 := b3 _ _ Fr'.na Fr'.nl h2
                    have a3 := a2.tl (b3.tl W2.b.t)
                    refine ⟨_, rfl, _, rfl, a, l, po, _, x2, x3, wide, ps, rfl, W3.b.t, by omega, by omega, W3.b.r.na, W3.b.r.nl, W3.b.o, hm.nd, by omega, by omega, W3.x.s _ hx2', W3.y.s _ hx3, ll, lw, fun H4 q ys b4 fq hq l5 aq S4 => ?_⟩
                    have W4 := W3.draw b4 S4
                    have R4 := R3.draw b4
                    have h4 := b4 _ _ Fr'.na Fr'.nl h3
                    have a4 := a3.tl (b4.tl W3.b.t)
                    have rq := W3.b.fr fq
                    refine ⟨_, rfl, _, rfl, _, rfl, _, rfl, _, rfl, _, _, rfl, rfl, a, l, _, _, rfl, S4, by omega, by omega, by omega, by omega, fun H5 e e0 e1 b5 S5 => ?_⟩
                    have W5 := W4.draw b5 S5
                    have R5 := R4.draw b5
                    have h5 := b5 _ _ Fr'.na Fr'.nl h4
                    have a5 := a4.tl (b5.tl W4.b.t)
                    have q5 := b5 _ _ rq.na rq.nl hq
                    have aq5 := (aq (rkOf rs)).tl (b5.tl W4.b.t)
                    refine ⟨_, rfl, pr, _, rfl, SqL.of h5, fun t ht => ?_⟩
                    rw [cut_to _ e0]
                    have s6 := same_new (o := .lst (rd.take e.toNat)) ht
                    have W6 := W5.same s6
                    have q6 := s6 _ _ q5
                    have lt : (rd.take e.toNat).length ≤ e.toNat := by
                      rw [List.length_take]
                      exact Nat.min_le_left _ _
                    refine ⟨q, t, _, _, rfl, rfl, q6, upd_same, Nat.le_trans (show ys.length + (rd.take e.toNat).length ≤ 200 by omega) (by decide), fun t2 ht2 => ?_⟩
                    have s7 := same_new (o := .lst (ys ++ rd.take e.toNat)) ht2
                    have W7 := W6.same s7
                    have r2 := W6.b.fr ht2
                    refine ⟨a, l, t2, _, _, rfl, W7.b.t, by omega, by omega, r2.na, r2.nl, upd_same, by rw [List.length_append]; omega, fun H8 p zs pm b8 f8 h8 S8 => ?_⟩
                    have W8 := W7.draw b8 S8
                    have tl8 : TL H5 H8 := ((TL.new ht).trans (TL.new ht2)).trans (b8.tl W7.b.t)
                    have R7 := (R5.same s6).same s7
                    refine ⟨po, pf, pn, pb, pe, p, pk, many, long, wide, late, cut, ps, bs, es, rs, k0, sort, line0, one0, other0, len0, _, at0, xs, zs, G0, rfl, hm, hmp, hl, W7.b.fr f8, (ne_of_none W7.b.o f8).symm, (ne_of_none W7.n f8).symm, (ne_of_none W7.x.h f8).symm, (ne_of_none W7.y.h f8).symm, (ne_of_none R7.h f8).symm, ha, hI, hO, hx2, hxd, W8.mono (by omega), R7.draw b8, h8, ?_, ?_⟩
                    · rw [pm.length_eq, List.length_append]
                      omega
                    · refine AllT.sub ((aq5.tl tl8).app ((a5.tl tl8).sub (ys := rd.take e.toNat) fun v hv => List.mem_of_mem_take hv)) fun v hv => pm.mem_iff.mp hv
                  · clear W R hr0 lr ar ha hI hO
                    rintro σ0 H0 ⟨po, pf, pn, pb, pe, pr, pk, many, long, wide, late, cut, ps, bs, es, rs, k0, sort, line0, one0, other0, len0, cr0, at0, xs, rd, G0, rfl, hm, hmp, hl, Fr', nro, nrn, nrb, nre, nrk, ha, hI, hO, hx2, hxd, W, R, hr0, lr, ar⟩
                    refine ⟨MG a l H N 1860 places full doors, ?_, ?_⟩
                    · have skip : ∀ H1, Kept a l H po pf pn pb pe ps bs es xs G0 (N + 1860) H1 → Rnk a l H pk ps rs H1 → H1 pr = some (.lst rd) → AllT H1 (Rok ps (rkOf rs)) rd → MG a l H N 1860 places full doors (sgA a po pf pn places full doors many long wide late cut k0 sort (some (.ref pb)) (some (.ref pe)) line0 one0 other0 (some (.ref pr)) (some (.ref pk)) len0 cr0 at0) H1 := fun H1 W1 R1 h1 a1 =>
                        ⟨po, pf, pn, pb, pe, pr, pk, many, long, wide, late, cut, ps, bs, es, rs, k0, sort, line0, one0, other0, len0, cr0, at0, xs, rd, G0, rfl, hm, hmp, hl, Fr', nro, nrn, nrb, nre, nrk, ha, hI, hO, hx2, hxd, W1, R1, h1, lr, a1⟩
                      refine ⟨_, rfl, a, l, _, 3, rfl, W.b.t, by omega, by omega, by decide, by decide, fun H1 d d0 d1 b1 S1 => ?_⟩
                      have W1 := W.draw b1 S1
                      have R1 := R.draw b1
                      have h1 := b1 _ _ Fr'.na Fr'.nl hr0
                      have a1 := ar.tl (b1.tl W.b.t)
                      refine ⟨rfl, _, rfl, ite2 (fun hc => ?_) (fun hc => iteF (skip _ (W1.mono (by omega)) R1 h1 a1))⟩
                      refine ⟨_, rfl, pr, _, rfl, .inl (SqL.of h1), _, _, rfl, rfl, _, rfl, ite2 (fun hc2 => ?_) (fun hc2 => skip _ (W1.mono (by omega)) R1 h1 a1)⟩
                      clear skip
                      have l2 : (rd.length : Int) > 2 := of_decide_eq_true hc2
                      refine ⟨_, rfl, _, rfl, pr, _, rfl, .inl (SqL.of h1), a, l, _, _, rfl, S1, by omega, by omega, by omega, by omega, fun H2 e e0 e1 b2 S2 => ?_⟩
                      have W2 := W1.draw b2 S2
                      have R2 := R1.draw b2
                      have h2 := b2 _ _ Fr'.na Fr'.nl h1
                      have a2 := a1.tl (b2.tl W1.b.t)
                      have he : e.toNat < rd.length := by omega
                      have hat : atI rd e = some rd[e.toNat] := at_of (j := e.toNat) (by omega) (List.getElem?_eq_getElem he)
                      obtain ⟨p, tt, ep, hp, x, y, dd, rr, rfl, hx, hy, nxy, z0, z9, r1, r10, zk⟩ := a2 rd[e.toNat] (List.getElem_mem he)
                      rw [ep] at hat
                      refine ⟨_, rfl, _, rfl, pr, _, _, _, rfl, rfl, SqL.of h2, hat, p, _, _, _, rfl, rfl, SqT.of hp, (by rfl), ?_⟩
                      refine ⟨_, rfl, _, rfl, pr, _, _, _, rfl, rfl, SqL.of h2, hat, p, _, _, _, rfl, rfl, SqT.of hp, (by rfl), ?_⟩
                      refine ⟨_, rfl, a, l, _, 4, rfl, S2, by omega, by omega, by decide, by decide, fun H3 g g0 g1 b3 S3 => ?_⟩
                      have W3 := W2.draw b3 S3
                      have R3 := R2.draw b3
                      have h3 := b3 _ _ Fr'.na Fr'.nl h2
                      have a3 := a2.tl (b3.tl W2.b.t)
                      have hp3 := b3.tl W2.b.t _ _ hp
                      refine ⟨_, _, rfl, rfl, _, rfl, _, rfl, pr, _, _, _, rfl, rfl, SqL.of h3, hat, p, _, _, _, rfl, rfl, SqT.of hp3, (by rfl), (by show 4 ≤ sizeLine; decide), fun t ht => ?_⟩
                      have s4 := same_new (o := .tup [.int x, .int y, .int (6 + g), .int rr]) ht
                      have W4 := W3.same s4
                      have h4 := s4 _ _ h3
                      refine ⟨_, rfl, _, rfl, pr, rd, e, e.toNat, rfl, rfl, h4, ixN_at e0 e1, ?_⟩
                      refine ⟨po, pf, pn, pb, pe, pr, pk, many, long, wide, late, cut, ps, bs, es, rs, k0, sort, line0, one0, other0, len0, cr0, _, xs, rd.set e.toNat (.ref t), G0, rfl, hm, hmp, hl, Fr', nro, nrn, nrb, nre, nrk, ha, hI, hO, hx2, hxd, (W4.set Fr' h4 nro nrn nrb nre).mono (by omega), (R3.same s4).set nrk, upd_same, by rw [List.length_set]; exact lr, ?_⟩
                      intro v hv
                      rcases List.mem_or_eq_of_mem_set hv with q | rfl
                      · exact ((a3.tl (TL.new ht)).tl (TL.set h4)) v q
                      · exact ⟨t, _, rfl, TL.set h4 _ _ upd_same, x, y, _, _, rfl, hx, hy, nxy, by omega, by omega, r1, r10, fun z => by omega⟩
                    · clear W R hr0 lr ar ha hI hO
                      rintro σ0 H0 ⟨po, pf, pn, pb, pe, pr, pk, many, long, wide, late, cut, ps, bs, es, rs, k0, sort, line0, one0, other0, len0, cr0, at0, xs, rd, G0, rfl, hm, hmp, hl, Fr', nro, nrn, nrb, nre, nrk, ha, hI, hO, hx2, hxd, W, R, hr0, lr, ar⟩
                      have lm2 := hm.m2
                      have lenps := hm.len
                      refine ⟨MG a l H N 1880 places full doors, ?_, ?_⟩
                      · have skip : ∀ H1, Kept a l H po pf pn pb pe ps bs es xs G0 (N + 1880) H1 → Rnk a l H pk ps rs H1 → H1 pr = some (.lst rd) → AllT H1 (Rok ps (rkOf rs)) rd → MG a l H N 1880 places full doors (sgA a po pf pn places full doors many long wide late cut k0 sort (some (.ref pb)) (some (.ref pe)) line0 one0 other0 (some (.ref pr)) (some (.ref pk)) len0 cr0 at0) H1 := fun H1 W1 R1 h1 a1 =>
                          ⟨po, pf, pn, pb, pe, pr, pk, many, long, wide, late, cut, ps, bs, es, rs, k0, sort, line0, one0, other0, len0, cr0, at0, xs, rd, G0, rfl, hm, hmp, hl, Fr', nro, nrn, nrb, nre, nrk, ha, hI, hO, hx2, hxd, W1, R1, h1, lr, a1⟩
                        refine ⟨_, rfl, a, l, _, 3, rfl, W.b.t, by omega, by omega, by decide, by decide, fun H1 d d0 d1 b1 S1 => ?_⟩
                        have W1 := W.draw b1 S1
                        have R1 := R.draw b1
                        have h1 := b1 _ _ Fr'.na Fr'.nl hr0
                        have a1 := ar.tl (b1.tl W.b.t)
                        refine ⟨rfl, _, rfl, ite2 (fun hc => ?_) (fun hc => iteF (skip _ (W1.mono (by omega)) R1 h1 a1))⟩
                        refine ⟨_, rfl, pn, _, rfl, .inl (SqL.of W1.n), _, _, rfl, rfl, _, rfl, ite2 (fun hc2 => ?_) (fun hc2 => skip _ (W1.mono (by omega)) R1 h1 a1)⟩
                        clear skip
                        have l2 : (xs.length : Int) > 2 := of_decide_eq_true hc2
                        refine ⟨_, rfl, _, rfl, pn, _, rfl, .inl (SqL.of W1.n), _, _, rfl, rfl, a, l, _, _, rfl, S1, by omega, by omega, by omega, by omega, fun H2 e e0 e1 b2 S2 => ?_⟩
                        have W2 := W1.draw b2 S2
                        have R2 := R1.draw b2
                        have h2 := b2 _ _ Fr'.na Fr'.nl h1
                        have a2 := a1.tl (b2.tl W1.b.t)
                        have x2 := ha.tl W2.t
                        refine ⟨_, _, rfl, rfl, ?_⟩
                        have hj : (2 + e).toNat < xs.length := by omega
                        have hat : atI xs (2 + e) = some xs[(2 + e).toNat] := at_of (j := (2 + e).toNat) (by omega) (List.getElem?_eq_getElem hj)
                        obtain ⟨p, tt, ep, hp, x, h, rfl, hx, z0, z9⟩ := x2 xs[(2 + e).toNat] (List.getElem_mem hj)
                        rw [ep] at hat
                        refine ⟨_, rfl, _, rfl, pn, _, _, _, rfl, rfl, SqL.of W2.n, hat, p, _, _, _, rfl, rfl, SqT.of hp, (by rfl), ?_⟩
                        refine ⟨_, rfl, _, rfl, pn, _, _, _, rfl, rfl, SqL.of W2.n, hat, p, _, _, _, rfl, rfl, SqT.of hp, (by rfl), ?_⟩
                        refine ⟨_, rfl, a, l, _, 7, rfl, S2, by omega, by omega, by decide, by decide, fun H3 g g0 g1 b3 S3 => ?_⟩
                        have W3 := W2.draw b3 S3
                        have R3 := R2.draw b3
                        have h3 := b3 _ _ Fr'.na Fr'.nl h2
                        have a3 := a2.tl (b3.tl W2.b.t)
                        refine ⟨_, _, rfl, rfl, (by show 3 ≤ sizeLine; decide), fun t ht => ?_⟩
                        have s4 := same_new (o := .tup [.str (if Sof ps cut x = true then "in" else "out"), .int x, .int (3 + g)]) ht
                        have W4 := W3.same s4
                        have h4 := s4 _ _ h3
                        refine ⟨_, rfl, _, rfl, pn, xs, 2 + e, (2 + e).toNat, rfl, rfl, W4.n, ixN_at (by omega) (by omega), ?_⟩
                        have x4 := ha.tl W4.t
                        have q1 : pn ≠ po := ints_ne W4.b.o W4.n x4 (by omega)
                        have q2 : pn ≠ pb := ints_ne W4.x.h W4.n x4 W4.x.n
                        have q3 : pn ≠ pe := ints_ne W4.y.h W4.n x4 W4.y.n
                        have q4 : pn ≠ pk := ints_ne (R3.same s4).h W4.n x4 (by rw [R3.p.length_eq]; omega)
                        have tl5 := (TL.set W4.n : TL _ (upd (upd H3 t (.tup [.str (if Sof ps cut x = true then "in" else "out"), .int x, .int (3 + g)])) pn (.lst (xs.set (2 + e).toNat (.ref t)))))
                        have tt5 : upd (upd H3 t (.tup [.str (if Sof ps cut x = true then "in" else "out"), .int x, .int (3 + g)])) pn (.lst (xs.set (2 + e).toNat (.ref t))) t = some (.tup [.str (if Sof ps cut x = true then "in" else "out"), .int x, .int (3 + g)]) := tl5 _ _ upd_same
                        have hp5 := tl5 _ _ (s4 _ _ (b3.tl W2.b.t _ _ hp))
                        have tG := W4.t.trans tl5
                        have has : ∀ P1 : List V → Prop, (∀ s x h h', P1 [.str s, .int x, .int h] → P1 [.str s, .int x, .int h']) → Has G0 P1 xs → Has (upd (upd H3 t (.tup [.str (if Sof ps cut x = true then "in" else "out"), .int x, .int (3 + g)])) pn (.lst (xs.set (2 + e).toNat (.ref t)))) P1 (xs.set (2 + e).toNat (.ref t)) := fun P1 hP hh => by
                          obtain ⟨v, hv, p', t', e1, e2, e3⟩ := hh
                          rcases mem_set_or (w := .ref t) (j := (2 + e).toNat) hv with q | q
                          · exact ⟨v, q, p', t', e1, tG _ _ e2, e3⟩
                          · rw [List.getElem?_eq_getElem hj, ep] at q
                            have e4 := Option.some.inj q
                            rw [e1] at e4
                            have e5 := tG _ _ e2
                            rw [← V.ref.inj e4, hp5] at e5
                            rw [← HO.tup.inj (Option.some.inj e5)] at e3
                            exact ⟨.ref t, List.mem_set (by omega) _, t, _, rfl, tt5, hP _ _ _ _ e3⟩
                        refine ⟨po, pf, pn, pb, pe, pr, pk, many, long, wide, late, cut, ps, bs, es, rs, k0, sort, line0, one0, other0, len0, cr0, _, xs.set (2 + e).toNat (.ref t), rd, _, rfl, hm, hmp, hl, Fr', nro, nrn, nrb, nre, nrk, ?_, has _ (fun s x h h' ⟨u, v, w⟩ => ?_) hI, has _ (fun s x h h' ⟨u, v, w⟩ => ?_) hO, by rw [List.length_set]; exact hx2, by rw [List.length_set]; exact hxd,
                          ⟨(W4.b.set W4.fn q1).mono (by omega), upd_same, TL.refl, W4.x.set q2.symm, W4.y.set q3.symm, W4.fn⟩, (R3.same s4).set q4, by rw [upd_ne nrn]; exact h4, lr, (a3.tl (TL.new ht)).tl tl5⟩
                        · intro v hv
                          rcases List.mem_or_eq_of_mem_set hv with q | rfl
                          · exact (ha.tl tG) v q
                          · exact ⟨t, _, rfl, tt5, x, _, rfl, hx, by omega, by omega⟩
                        · exact ⟨x, h', by rw [(List.cons.inj w).1]⟩
                        · exact ⟨x, h', by rw [(List.cons.inj w).1]⟩
                      · clear W R hr0 lr ar ha hI hO
                        rintro σ0 H0 ⟨po, pf, pn, pb, pe, pr, pk, many, long, wide, late, cut, ps, bs, es, rs, k0, sort, line0, one0, other0, len0, cr0, at0, xs, rd, G0, rfl, hm, hmp, hl, Fr', nro, nrn, nrb, nre, nrk, ha, hI, hO, hx2, hxd, W, R, hr0, lr, ar⟩
                        have lm20 := hm.m20
                        refine ⟨_, rfl, _, rfl, _, rfl, _, rfl, a, l, pn, _, _, rfl, W.b.t, by omega, by omega, W.fn.na, W.fn.nl, W.n, by omega, fun H1 pd ys pm b1 f1 h1 S1 => ?_⟩
                        have W1 := W.draw b1 S1
                        have g1 := b1 _ _ Fr'.na Fr'.nl hr0
                        have a1 := ar.tl (b1.tl W.b.t)
                        have rd1 := W.b.fr f1
                        refine ⟨(by show 3 ≤ sizeLine; decide), fun t ht => ?_⟩
                        have s2 := same_new (o := .tup [.int many, .ref pr, .ref pd]) ht
                        have tl := W1.t.trans (TL.new (o := .tup [.int many, .ref pr, .ref pd]) ht)
                        refine k _ t pr pd many rd ys (W1.same s2).b.b (W1.b.fr ht).f Fr'.f rd1.f upd_same hmp ⟨hm.m2, hm.m20, s2 _ _ g1, s2 _ _ h1, fun z => ?_, ⟨ps, rkOf rs, Sof ps cut, hm.mem, a1.tl (TL.new ht), (ha.tl tl).sub fun v hv => pm.mem_iff.mp hv⟩, (hI.tl tl).sub fun v hv => pm.mem_iff.mpr hv, (hO.tl tl).sub fun v hv => pm.mem_iff.mpr hv, lr.1, by rw [pm.length_eq]; exact hxd, by rw [pm.length_eq]; exact hx2, lr.2⟩ ((W1.same s2).b.t.mono (by omega))
                        rw [z, f1] at hr0
                        cases hr0
end
end K03

set_option Elab.async false
set_option linter.all false
set_option maxRecDepth 100000
set_option maxHeartbeats 4000000
namespace K03
open PySem PySem.Spec PyProof.Rows L2 Own
theorem scSame : FnScope ["_law_found", "_law_due", "_law_mine", "_law_theirs"] ["_law_found", "_law_due"] (defScope sSame) := ⟨rfl, rfl, rfl, by decide +kernel, rfl, by decide +kernel, by decide +kernel⟩
/-! ### equal trees -/
def Eqt : Nat → Hp → V → V → Prop
  | 0, _, v, u => v = u ∧ atomV u = true
  | n + 1, H, v, u => (v = u ∧ atomV u = true) ∨
      (∃ (a b : Addr) (xs ys : List V), v = .ref a ∧ u = .ref b ∧ H a = some (.lst xs) ∧ H b = some (.lst ys) ∧ Paired (Eqt n H) xs ys ∧ xs.length ≤ 1000) ∨
      (∃ (a b : Addr) (xs ys : List V), v = .ref a ∧ u = .ref b ∧ H a = some (.tup xs) ∧ H b = some (.tup ys) ∧ Paired (Eqt n H) xs ys ∧ xs.length ≤ 1000) ∨
      (2 ≤ n ∧ ∃ (a b : Addr) (kvs : List (Key × V)), v = .ref a ∧ u = .ref b ∧ H a = some (.dK kvs) ∧ H b = some (.dK kvs) ∧ (∀ p ∈ kvs, atomV p.2 = true) ∧ kvs.length ≤ 1000)
theorem eqt_atom {n : Nat} {H : Hp} {v : V} (h : atomV v = true) : Eqt n H v v := by
  cases n with
  | zero => exact ⟨rfl, h⟩
  | succ n => exact .inl ⟨rfl, h⟩
/-- all but tables stays -/
abbrev Ext (H H' : Hp) : Prop := LamX.ExtN H H'
theorem paired_imp {α β : Type} {F G : α → β → Prop} : ∀ {xs : List α} {ys : List β}, Paired F xs ys → (∀ a b, F a b → G a b) → Paired G xs ys
  | _, _, .nil, _ => .nil
  | _, _, .cons h t, k => .cons (k _ _ h) (paired_imp t k)
theorem Eqt.ext : ∀ {n : Nat} {H H' : Hp} {v u : V}, Eqt n H v u → Ext H H' → Eqt n H' v u
  | 0, _, _, _, _, h, _ => h
  | n + 1, H, H', v, u, h, e => by
    rcases h with h | ⟨a, b, xs, ys, rfl, rfl, ha, hb, p, l⟩ | ⟨a, b, xs, ys, rfl, rfl, ha, hb, p, l⟩ | ⟨hn, a, b, kvs, rfl, rfl, ha, hb, p⟩
    · exact .inl h
    · exact .inr (.inl ⟨a, b, xs, ys, rfl, rfl, e _ _ ha (fun t z => by cases z), e _ _ hb (fun t z => by cases z), paired_imp p fun _ _ q => Eqt.ext q e, l⟩)
    · exact .inr (.inr (.inl ⟨a, b, xs, ys, rfl, rfl, e _ _ ha (fun t z => by cases z), e _ _ hb (fun t z => by cases z), paired_imp p fun _ _ q => Eqt.ext q e, l⟩))
    · exact .inr (.inr (.inr ⟨hn, a, b, kvs, rfl, rfl, e _ _ ha (fun t z => by cases z), e _ _ hb (fun t z => by cases z), p⟩))
theorem ext_of {H H' : Hp} (e : Same H H') : Ext H H' := fun b o h _ => e b o h
def spSame (n : Nat) : Sp := fun vs H Q _ => ∃ v u : V, vs = [v, u] ∧ Eqt n H v u ∧ ∀ H', Same H H' → Q (.bl true) H'
theorem kit3 {K : PySem.W.Frag} {T a b c : String} {x y z r : Bool} (ha : kitB T a = some x) (hb : kitB T b = some y) (hc : kitB T c = some z) (h : (x || y || z) = r) : PySem.W.kitAny K (.type T) [.type a, .type b, .type c] = some r := by
  subst h
  refine kitAny_cons (kit_ty ha) (fun e => ?_) (fun e => by rw [e]; rfl)
  rw [e]
  refine kitAny_cons (kit_ty hb) (fun e => ?_) (fun e => by rw [e]; rfl)
  rw [e]
  refine kitAny_cons (kit_ty hc) (fun e => ?_) (fun e => by rw [e]; rfl)
  rw [e]
  exact kitAny_nil
/-- zip of two tuples, as one walk -/
theorem walk_zipT {K : PySem.W.Frag} {a b : Addr} {xs ys : List V} {n : Nat} (hn : n = min xs.length ys.length) : Walk (RZ.ItzT K a b) n (fun H => SqT K H a xs ∧ SqT K H b ys) (YPair (fun i => xs[i]?) (fun i => ys[i]?)) := by
  subst hn
  refine ⟨fun i _ hi q => ?_, fun _ q => ⟨xs, ys, q.1, q.2, by omega⟩, fun i H v H' _ q y => ?_⟩
  · have h1 : i < xs.length := by omega
    have h2 : i < ys.length := by omega
    exact ⟨xs, ys, xs[i], ys[i], q.1, q.2, by simp [h1], by simp [h2]⟩
  · obtain ⟨T, x, z, h1, h2, h3, h4, h5⟩ := y
    exact ⟨T, x, z, h1, h2, h3, h4 xs q.1, h5 ys q.2⟩
theorem paired_at {α β : Type} {F : α → β → Prop} : ∀ {xs : List α} {ys : List β} {i : Nat} {x : α} {y : β}, Paired F xs ys → xs[i]? = some x → ys[i]? = some y → F x y
  | _, _, 0, _, _, .cons h t, e1, e2 => by
    cases e1
    cases e2
    exact h
  | _, _, i + 1, x, y, .cons h t, e1, e2 => paired_at (i := i) t e1 e2
section
variable {P : Program} {w : World} {K : PySem.W.Frag} {mg : Str → Option Value} {base : Heap}
theorem atom_ty {H : Hp} {u : V} (h : atomV u = true) : ∃ (T : String) (b : Bool), TyS K H u T ∧ kitB T "list" = some false ∧ kitB T "tuple" = some false ∧ kitB T "dict" = some false ∧ kitB T "bool" = some b ∧ scal u u = true := by
  cases u with
  | non => exact ⟨"NoneType", false, fun _ _ => .base .non, by decide +kernel, by decide +kernel, by decide +kernel, by decide +kernel, rfl⟩
  | bl b => exact ⟨"bool", true, fun _ _ => .base (.bl b), by decide +kernel, by decide +kernel, by decide +kernel, by decide +kernel, rfl⟩
  | int i => exact ⟨"int", false, fun _ _ => .base (.int i), by decide +kernel, by decide +kernel, by decide +kernel, by decide +kernel, rfl⟩
  | str x => exact ⟨"str", false, fun _ _ => .base (.str x), by decide +kernel, by decide +kernel, by decide +kernel, by decide +kernel, rfl⟩
  | _ => cases h
theorem eq_done {u : V} {H : Hp} {Q : VK} (h : Q (.bl true) H) : Q (.bl (decide (u = u))) H := by
  rw [decide_eq_true rfl]
  exact h
theorem two_fit : 2 ≤ sizeLine := by decide
theorem three_fit : 3 ≤ sizeLine := by decide
theorem atom_key (k : Key) : atomV (kV k) = true := by
  cases k with
  | inl i => rfl
  | inr x => rfl
theorem items_eqt {H : Hp} {m : Nat} : ∀ {ts us : List Addr} {kvs : List (Key × V)}, Paired (fun (t : Addr) (q : Key × V) => H t = some (.tup [kV q.1, q.2])) ts kvs → Paired (fun (t : Addr) (q : Key × V) => H t = some (.tup [kV q.1, q.2])) us kvs →
    (∀ p ∈ kvs, atomV p.2 = true) → Paired (Eqt (m + 1) H) (ts.map V.ref) (us.map V.ref)
  | _, _, _, .nil, .nil, _ => .nil
  | _, _, p :: kvs, .cons h1 t1, .cons h2 t2, hp => .cons
      (.inr (.inr (.inl ⟨_, _, _, _, rfl, rfl, h1, h2, .cons (eqt_atom (atom_key p.1)) (.cons (eqt_atom (hp p List.mem_cons_self)) .nil), by show 2 ≤ 1000; decide⟩)))
      (items_eqt t1 t2 fun q hq => hp q (List.mem_cons_of_mem _ hq))
theorem step_same {f : Addr} {fd : FuncData} (F : Fun K "_law_same" "_law_same" sSame f fd) (T : Bt mg) (gS : mg "_law_same" = some (.ref f)) (bS : Binds K fd ["_law_found", "_law_due"] [])
    (n : Nat) (sp : Sp) (G : FnOk P w K mg base CX0 (n + 1) f fd ["_law_found", "_law_due"] sp) (hsub : ∀ m, n = m + 1 → sp = spSame m) : FnOk P w K mg base CX0 (n + 2) f fd ["_law_found", "_law_due"] (spSame n) := by
  refine F.ok scSame (fun vs H Q E h => ?_) (fun cdv A outer s H vs Q E hr h => ?_)
  · obtain ⟨v, u, rfl, _⟩ := h
    rfl
  · obtain ⟨v, u, rfl, h, k⟩ := h
    have hs : (v = u ∧ atomV u = true) ∨ (∃ m, n = m + 1 ∧ (
        (∃ (a b : Addr) (xs ys : List V), v = .ref a ∧ u = .ref b ∧ H a = some (.lst xs) ∧ H b = some (.lst ys) ∧ Paired (Eqt m H) xs ys ∧ xs.length ≤ 1000) ∨
        (∃ (a b : Addr) (xs ys : List V), v = .ref a ∧ u = .ref b ∧ H a = some (.tup xs) ∧ H b = some (.tup ys) ∧ Paired (Eqt m H) xs ys ∧ xs.length ≤ 1000) ∨
        (2 ≤ m ∧ ∃ (a b : Addr) (kvs : List (Key × V)), v = .ref a ∧ u = .ref b ∧ H a = some (.dK kvs) ∧ H b = some (.dK kvs) ∧ (∀ p ∈ kvs, atomV p.2 = true) ∧ kvs.length ≤ 1000))) := by
      cases n with
      | zero => exact .inl h
      | succ m =>
        rcases h with h | h
        · exact .inl h
        · exact .inr ⟨m, rfl, h⟩
    refine ⟨_, (pss_cons (ps_if (pt_val (pe_callB call_isiT (by rfl) T.isi (by decide +kernel) (pa_cons (pv 1) (pa_cons (pe_tup (pa_cons (pe_bltn (v := .ty "list") (by rfl) T.list (by decide +kernel) rfl) (pa_cons (pe_bltn (v := .ty "tuple") (by rfl) T.tuple (by decide +kernel) rfl) pa_nil))) pa_nil)))) (pss_cons (ps_if (PW.pt (pw_or (pt_cmpR op_ne (pe_callB call_isi (by rfl) T.isi (by decide +kernel) (pa_cons (pv 0) (pa_cons (pe_bltn (v := .ty "list") (by rfl) T.list (by decide +kernel) rfl) pa_nil))) (pe_callB call_isi (by rfl) T.isi (by decide +kernel) (pa_cons (pv 1) (pa_cons (pe_bltn (v := .ty "list") (by rfl) T.list (by decide +kernel) rfl) pa_nil))) (nomark _)) (pw_or1 (pt_cmpR op_ne (pe_callB call_isi (by rfl) T.isi (by decide +kernel) (pa_cons (pv 0) (pa_cons (pe_bltn (v := .ty "tuple") (by rfl) T.tuple (by decide +kernel) rfl) pa_nil))) (pe_callB call_isi (by rfl) T.isi (by decide +kernel) (pa_cons (pv 1) (pa_cons (pe_bltn (v := .ty "tuple") (by rfl) T.tuple (by decide +kernel) rfl) pa_nil))) (nomark _))))) (pss_one (ps_ret pe_bl)) pss_nil)
  (pss_one (ps_ret (pe_and (pe_cmpR op_eq (pe_callB call_len_seq (by rfl) T.len (by decide +kernel) (pa_cons (pv 0) pa_nil)) (pe_callB call_len_seq (by rfl) T.len (by decide +kernel) (pa_cons (pv 1) pa_nil)) (nomark _)) (pe_one (pe_callB (cr_all rfl) (by rfl) T.all (by decide +kernel) (pa_cons (pe_lc (own := [("_law_mine", 2), ("_law_theirs", 3)]) (g := gTup K 2 (gCons (gName 2) (gCons (gName 3) gNil))) (tt := tYes) rfl scSame.nd (RZ.pi_zipA (by rfl) T.zip (pa_cons (pv 0) (pa_cons (pv 1) pa_nil))) (blkOk_by (N := ["_law_found", "_law_due", "_law_mine", "_law_theirs"]) (sc := defScope sSame) (by decide +kernel)) (fun _ _ _ _ _ => (pg_tup rfl (pgs_cons (pg_name (i := 2) (x := "_law_mine") scSame.nd rfl (Or.inl rfl)) (pgs_cons (pg_name (i := 3) (x := "_law_theirs") scSame.nd rfl (Or.inl rfl)) pgs_nil)))) (fun _ _ _ _ _ => pts_nil) (fun _ _ _ _ _ => (pe_call G hr (by rfl) gS F.kp bS .nil pass0 (pa_cons (pv 2) (pa_cons (pv 3) pa_nil))))) pa_nil))))))) pss_nil)
  (pss_cons (ps_if (pt_val (pe_callB call_isi (by rfl) T.isi (by decide +kernel) (pa_cons (pv 1) (pa_cons (pe_bltn (v := .ty "dict") (by rfl) T.dict (by decide +kernel) rfl) pa_nil)))) (pss_one (ps_ret (pe_and (pe_callB call_isi (by rfl) T.isi (by decide +kernel) (pa_cons (pv 0) (pa_cons (pe_bltn (v := .ty "dict") (by rfl) T.dict (by decide +kernel) rfl) pa_nil))) (pe_one (pe_call G hr (by rfl) gS F.kp bS .nil pass0 (pa_cons (LiI.pe_listItems rfl (pv 0) (by rfl) T.list (by decide +kernel)) (pa_cons (LiI.pe_listItems rfl (pv 1) (by rfl) T.list (by decide +kernel)) pa_nil))))))) pss_nil)
  (pss_cons (ps_if (PW.pt (pw_or (pt_val (pe_callB call_isi (by rfl) T.isi (by decide +kernel) (pa_cons (pv 1) (pa_cons (pe_bltn (v := .ty "bool") (by rfl) T.bool (by decide +kernel) rfl) pa_nil)))) (pw_or1 (pt_val (pe_callB call_isi (by rfl) T.isi (by decide +kernel) (pa_cons (pv 0) (pa_cons (pe_bltn (v := .ty "bool") (by rfl) T.bool (by decide +kernel) rfl) pa_nil))))))) (pss_one (ps_ret (pe_and (pe_callB call_isi (by rfl) T.isi (by decide +kernel) (pa_cons (pv 1) (pa_cons (pe_bltn (v := .ty "bool") (by rfl) T.bool (by decide +kernel) rfl) pa_nil))) (pe_and (pe_callB call_isi (by rfl) T.isi (by decide +kernel) (pa_cons (pv 0) (pa_cons (pe_bltn (v := .ty "bool") (by rfl) T.bool (by decide +kernel) rfl) pa_nil))) (pe_one (pe_cmpR op_eq (pv 0) (pv 1) (nomark _))))))) pss_nil)
  (pss_one (ps_ret (pe_and (pe_not (pe_callB call_isiT (by rfl) T.isi (by decide +kernel) (pa_cons (pv 0) (pa_cons (pe_tup (pa_cons (pe_bltn (v := .ty "list") (by rfl) T.list (by decide +kernel) rfl) (pa_cons (pe_bltn (v := .ty "tuple") (by rfl) T.tuple (by decide +kernel) rfl) (pa_cons (pe_bltn (v := .ty "dict") (by rfl) T.dict (by decide +kernel) rfl) pa_nil)))) pa_nil)))) (pe_one (pe_cmpR op_eq (pv 0) (pv 1) (nomark _))))))))), ?_⟩
    rcases hs with ⟨rfl, ha⟩ | ⟨m, rfl, ⟨a, b, xs, ys, rfl, rfl, ha, hb, hp, hl⟩ | ⟨a, b, xs, ys, rfl, rfl, ha, hb, hp, hl⟩ | ⟨hm, a, b, kvs, rfl, rfl, ha, hb, hp, hl⟩⟩
    · obtain ⟨Ty, c, ty, kL, kT, kD, kB, sc⟩ := atom_ty (K := K) (H := H) ha
      refine ⟨_, rfl, two_fit, fun tp htp => ?_⟩
      have e1 := same_new (o := HO.tup [V.ty "list", V.ty "tuple"]) htp
      have ty1 := ty.grow e1
      refine ⟨_, tp, _, _, _, false, rfl, upd_same, .cons (.ty _) (.cons (.ty _) .nil), ty1.now, kit2 kL kT rfl, _, rfl, iteF ?_⟩
      refine ⟨_, rfl, _, _, _, _, false, rfl, .ty _, ty1.now, kit_ty kD, _, rfl, iteF ?_⟩
      refine ⟨_, rfl, _, _, _, _, c, rfl, .ty _, ty1.now, kit_ty kB, _, rfl, ?_⟩
      cases c with
      | true =>
        refine iteT (iteT ?_)
        refine ⟨_, rfl, _, _, _, _, true, rfl, .ty _, ty1.now, kit_ty kB, _, rfl, iteT ⟨_, rfl, _, _, _, _, true, rfl, .ty _, ty1.now, kit_ty kB, _, rfl, iteT ⟨_, rfl, _, rfl, sc, ?_⟩⟩⟩
        exact eq_done (k _ e1)
      | false =>
        refine iteF ⟨_, rfl, _, _, _, _, false, rfl, .ty _, ty1.now, kit_ty kB, _, rfl, iteF ?_⟩
        refine ⟨_, rfl, three_fit, fun tq htq => ?_⟩
        have e2 := same_new (o := HO.tup [V.ty "list", V.ty "tuple", V.ty "dict"]) htq
        have ty2 := ty1.grow e2
        refine ⟨_, tq, _, _, _, false, rfl, upd_same, .cons (.ty _) (.cons (.ty _) (.cons (.ty _) .nil)), ty2.now, kit3 kL kT kD rfl, _, rfl, _, rfl, iteT ⟨_, rfl, _, rfl, sc, ?_⟩⟩
        exact eq_done (k _ (e1.trans e2))
    · obtain rfl := hsub m rfl
      have tyA : TyS K H (.ref a) "list" := fun H' e => .base (.lst (e _ _ ha))
      have tyB : TyS K H (.ref b) "list" := fun H' e => .base (.lst (e _ _ hb))
      have kL : kitB "list" "list" = some true := by decide +kernel
      have kT : kitB "list" "tuple" = some false := by decide +kernel
      refine ⟨_, rfl, two_fit, fun tp htp => ?_⟩
      have e1 := same_new (o := HO.tup [V.ty "list", V.ty "tuple"]) htp
      have tA := tyA.grow e1
      have tB := tyB.grow e1
      refine ⟨_, tp, _, _, _, true, rfl, upd_same, .cons (.ty _) (.cons (.ty _) .nil), tB.now, kit2 kL kT rfl, _, rfl, iteT ?_⟩
      refine ⟨_, rfl, _, _, _, _, true, rfl, .ty _, tA.now, kit_ty kL, _, rfl, _, _, _, _, true, rfl, .ty _, tB.now, kit_ty kL, rfl, false, rfl, iteF ?_⟩
      refine ⟨_, rfl, _, _, _, _, false, rfl, .ty _, tA.now, kit_ty kT, _, rfl, _, _, _, _, false, rfl, .ty _, tB.now, kit_ty kT, rfl, false, rfl, iteF ?_⟩
      refine ⟨_, rfl, a, xs, rfl, .inl (SqL.of (e1 _ _ ha)), _, rfl, b, ys, rfl, .inl (SqL.of (e1 _ _ hb)), rfl, true, ?_, iteT ?_⟩
      · exact congrArg V.bl (decide_eq_true (congrArg V.int (congrArg Int.ofNat hp.length)))
      · refine ⟨_, rfl, _, rfl, a, b, xs, ys, rfl, .inl ⟨SqL.of (e1 _ _ ha), SqL.of (e1 _ _ hb), fun D hD => ?_⟩⟩
        have e2 := same_new (o := HO.lst []) hD
        refine lc_it (walk_zip (xs := xs) (ys := ys) (n := xs.length) (by rw [← hp.length]; simp)) (fun i H' => Same (upd H tp (.tup [V.ty "list", V.ty "tuple"])) H' ∧ H' D = some (.lst (List.replicate i (V.bl true)))) ⟨e2, upd_same⟩ (fun i H' _ q => ⟨SqL.of (q.1 _ _ (e1 _ _ ha)), SqL.of (q.1 _ _ (e1 _ _ hb))⟩) ?_ ?_
        · rintro i x H3 H4 hi ⟨q1, q2⟩ ⟨t, x1, y1, rfl, ht, rfl, hx, hy⟩
          have e3 := same_new (o := HO.tup [x1, y1]) ht
          refine ⟨t, _, rfl, SqT.of upd_same, rfl, _, _, rfl, _, _, rfl, rfl, rfl, ?_⟩
          dsimp only [tYes]
          refine iteT ?_
          refine ⟨_, rfl, _, rfl, x1, y1, rfl, (paired_at hp hx hy).ext (ext_of ((e1.trans q1).trans e3)), fun H5 e5 => ?_⟩
          refine ⟨List.replicate i (V.bl true), e5 _ _ (e3 _ _ q2), ?_, fun p o z => ?_, ?_⟩
          · rw [List.length_replicate]
            exact Nat.lt_of_lt_of_le hi (Nat.le_trans hl (by decide))
          · have np : p ≠ D := ne_of_none z hD
            rw [upd_ne np]
            exact e5 _ _ (e3 _ _ (q1 _ _ z))
          · rw [upd_same, List.replicate_succ']
        · rintro H3 ⟨q1, q2⟩
          refine ⟨D, List.replicate xs.length true, rfl, SqL.of ?_, ?_⟩
          · rw [List.map_replicate]
            exact q2
          · have z : (List.replicate xs.length true).all id = true := by simp
            rw [z]
            exact k _ (e1.trans q1)
    · obtain rfl := hsub m rfl
      have tyA : TyS K H (.ref a) "tuple" := fun H' e => .base (.tup (e _ _ ha))
      have tyB : TyS K H (.ref b) "tuple" := fun H' e => .base (.tup (e _ _ hb))
      have kL : kitB "tuple" "list" = some false := by decide +kernel
      have kT : kitB "tuple" "tuple" = some true := by decide +kernel
      refine ⟨_, rfl, two_fit, fun tp htp => ?_⟩
      have e1 := same_new (o := HO.tup [V.ty "list", V.ty "tuple"]) htp
      have tA := tyA.grow e1
      have tB := tyB.grow e1
      refine ⟨_, tp, _, _, _, true, rfl, upd_same, .cons (.ty _) (.cons (.ty _) .nil), tB.now, kit2 kL kT rfl, _, rfl, iteT ?_⟩
      refine ⟨_, rfl, _, _, _, _, false, rfl, .ty _, tA.now, kit_ty kL, _, rfl, _, _, _, _, false, rfl, .ty _, tB.now, kit_ty kL, rfl, false, rfl, iteF ?_⟩
      refine ⟨_, rfl, _, _, _, _, true, rfl, .ty _, tA.now, kit_ty kT, _, rfl, _, _, _, _, true, rfl, .ty _, tB.now, kit_ty kT, rfl, false, rfl, iteF ?_⟩
      refine ⟨_, rfl, a, xs, rfl, .inr (SqT.of (e1 _ _ ha)), _, rfl, b, ys, rfl, .inr (SqT.of (e1 _ _ hb)), rfl, true, ?_, iteT ?_⟩
      · exact congrArg V.bl (decide_eq_true (congrArg V.int (congrArg Int.ofNat hp.length)))
      · refine ⟨_, rfl, _, rfl, a, b, xs, ys, rfl, .inr ⟨SqT.of (e1 _ _ ha), SqT.of (e1 _ _ hb), fun D hD => ?_⟩⟩
        have e2 := same_new (o := HO.lst []) hD
        refine lc_it (walk_zipT (xs := xs) (ys := ys) (n := xs.length) (by rw [← hp.length]; simp)) (fun i H' => Same (upd H tp (.tup [V.ty "list", V.ty "tuple"])) H' ∧ H' D = some (.lst (List.replicate i (V.bl true)))) ⟨e2, upd_same⟩ (fun i H' _ q => ⟨SqT.of (q.1 _ _ (e1 _ _ ha)), SqT.of (q.1 _ _ (e1 _ _ hb))⟩) ?_ ?_
        · rintro i x H3 H4 hi ⟨q1, q2⟩ ⟨t, x1, y1, rfl, ht, rfl, hx, hy⟩
          have e3 := same_new (o := HO.tup [x1, y1]) ht
          refine ⟨t, _, rfl, SqT.of upd_same, rfl, _, _, rfl, _, _, rfl, rfl, rfl, ?_⟩
          dsimp only [tYes]
          refine iteT ?_
          refine ⟨_, rfl, _, rfl, x1, y1, rfl, (paired_at hp hx hy).ext (ext_of ((e1.trans q1).trans e3)), fun H5 e5 => ?_⟩
          refine ⟨List.replicate i (V.bl true), e5 _ _ (e3 _ _ q2), ?_, fun p o z => ?_, ?_⟩
          · rw [List.length_replicate]
            exact Nat.lt_of_lt_of_le hi (Nat.le_trans hl (by decide))
          · have np : p ≠ D := ne_of_none z hD
            rw [upd_ne np]
            exact e5 _ _ (e3 _ _ (q1 _ _ z))
          · rw [upd_same, List.replicate_succ']
        · rintro H3 ⟨q1, q2⟩
          refine ⟨D, List.replicate xs.length true, rfl, SqL.of ?_, ?_⟩
          · rw [List.map_replicate]
            exact q2
          · have z : (List.replicate xs.length true).all id = true := by simp
            rw [z]
            exact k _ (e1.trans q1)
    · obtain rfl := hsub m rfl
      have tyA : TyS K H (.ref a) "dict" := fun H' e => .base (.dK (e _ _ ha))
      have tyB : TyS K H (.ref b) "dict" := fun H' e => .base (.dK (e _ _ hb))
      have kD : kitB "dict" "dict" = some true := by decide +kernel
      refine ⟨_, rfl, two_fit, fun tp htp => ?_⟩
      have e1 := same_new (o := HO.tup [V.ty "list", V.ty "tuple"]) htp
      have tA := tyA.grow e1
      have tB := tyB.grow e1
      refine ⟨_, tp, _, _, _, false, rfl, upd_same, .cons (.ty _) (.cons (.ty _) .nil), tB.now, kit2 (T := "dict") (x := false) (y := false) (by decide +kernel) (by decide +kernel) rfl, _, rfl, iteF ?_⟩
      refine ⟨_, rfl, _, _, _, _, true, rfl, .ty _, tB.now, kit_ty kD, _, rfl, iteT ?_⟩
      refine ⟨_, rfl, _, _, _, _, true, rfl, .ty _, tA.now, kit_ty kD, _, rfl, iteT ?_⟩
      refine ⟨_, rfl, a, kvs, rfl, e1 _ _ ha, fun H2 p ts e2 _ _ _ hl2 hp2 => ?_⟩
      refine ⟨_, rfl, b, kvs, rfl, e2 _ _ (e1 _ _ hb), fun H3 q us e3 _ _ _ hl3 hp3 => ?_⟩
      refine ⟨.ref p, .ref q, rfl, ?_, fun H4 e4 => k _ (((e1.trans e2).trans e3).trans e4)⟩
      obtain ⟨m2, rfl⟩ : ∃ m2, m = m2 + 2 := ⟨m - 2, by omega⟩
      have hp2' := paired_imp hp2 fun t q z => e3 _ _ z
      refine .inr (.inl ⟨p, q, _, _, rfl, rfl, e3 _ _ hl2, hl3, items_eqt hp2' hp3 hp, ?_⟩)
      rw [List.length_map, hp2.length]
      exact hl
theorem ok_same {f : Addr} {fd : FuncData} (F : Fun K "_law_same" "_law_same" sSame f fd) (T : Bt mg) (gS : mg "_law_same" = some (.ref f)) (bS : Binds K fd ["_law_found", "_law_due"] []) :
    ∀ n : Nat, FnOk P w K mg base CX0 (n + 2) f fd ["_law_found", "_law_due"] (spSame n)
  | 0 => step_same F T gS bS 0 (fun _ _ _ _ => False) ⟨fun _ _ _ _ z => z.elim, fun _ _ _ _ _ _ _ _ _ _ _ _ _ z => z.elim⟩ fun m z => by omega
  | n + 1 => step_same F T gS bS (n + 1) (spSame n) (ok_same F T gS bS n) fun m z => by
    have e : n = m := by omega
    rw [e]
end
end K03

set_option Elab.async false
set_option linter.all false
set_option maxRecDepth 100000
set_option maxHeartbeats 4000000
namespace K03
open PySem PySem.Spec PyProof.Rows L2 Own
/-- an error of one field leaves, all else stays -/
def Out (H : Hp) (E : XK) (C : Addr) (f : Str) (v : V) : Prop := ∀ d H', H d = none → Same H H' → H' d = some (.xd [(f, v)]) → E (.ref C) (some d) H'
theorem Out.same {H H1 : Hp} {E : XK} {C : Addr} {f : Str} {v : V} (h : Out H E C f v) (e : Same H H1) : Out H1 E C f v := fun d H' nd sm hd => h d H' (by
  cases z : H d with
  | none => rfl
  | some o => rw [e _ _ z] at nd; cases nd) (e.trans sm) hd
/-- the built-in types are none below the class at C -/
def NoT (K : PySem.W.Frag) (C : Addr) : Prop := ∀ T : String, T ∈ ["NoneType", "bool", "int", "str", "list", "tuple", "dict"] → PySem.W.kitOne K (.type T) (.ref C) = some false
theorem shp_typ {K : PySem.W.Frag} {H : Hp} {v : V} (h : Shp H v) : ∃ T : String, T ∈ ["NoneType", "bool", "int", "str", "list", "tuple", "dict"] ∧ TyX K H v (.type T) := by
  rcases h with h | ⟨a, xs, rfl, h⟩ | ⟨a, xs, rfl, h⟩ | ⟨a, xs, rfl, h⟩
  · cases v with
    | non => exact ⟨"NoneType", by decide, .base .non⟩
    | bl b => exact ⟨"bool", by decide, .base (.bl b)⟩
    | int i => exact ⟨"int", by decide, .base (.int i)⟩
    | str z => exact ⟨"str", by decide, .base (.str z)⟩
    | _ => cases h
  · exact ⟨"list", by decide, .base (.lst h)⟩
  · exact ⟨"tuple", by decide, .base (.tup h)⟩
  · exact ⟨"dict", by decide, .base (.dK h)⟩
/-- need_house of what is none -/
def spNeed (Ch : Addr) : Sp := fun vs H _ E => ∃ v : V, vs = [v] ∧ Shp H v ∧ Out H E Ch "thing" v
theorem scNeedH : FnScope ["house"] ["house"] (defScope sNeedHouse) := ⟨rfl, rfl, rfl, by decide +kernel, rfl, by decide +kernel, by decide +kernel⟩
/-- n values, the first one no house -/
def spBad (Ch : Addr) (n : Nat) : Sp := fun vs H _ E => ∃ v r, vs = v :: r ∧ vs.length = n ∧ Shp H v ∧ Out H E Ch "thing" v
/-- the same behind self -/
def spBadI (Ch : Addr) (n : Nat) : Sp := fun vs H _ E => ∃ x v r, vs = x :: v :: r ∧ vs.length = n ∧ Shp H v ∧ Out H E Ch "thing" v
section
variable {P : Program} {w : World} {K : PySem.W.Frag} {mg : Str → Option Value} {base : Heap}
theorem ok_needH {f C Ch : Addr} {fd : FuncData} (F : Fun K "need_house" "need_house" sNeedHouse f fd) (T : Bt mg) (gC : mg "House" = some (.ref C)) (nt : NoT K C) (EH : EI P w K mg base "BadHouse" "thing" Ch) : FnOk P w K mg base (L2.CX P w) 4 f fd ["house"] (spNeed Ch) := by
  refine F.okX scNeedH (fun vs H Q E h => ?_) (fun cdv A outer s H vs Q E hr h => ?_)
  · obtain ⟨v, rfl, _⟩ := h
    rfl
  · obtain ⟨v, rfl, sh, out⟩ := h
    refine ⟨_, pss_one (ps_if (pt_not (pt_val (pe_callB call_isi (by rfl) T.isi (by decide +kernel) (pa_cons (pv 0) (pa_cons (pe_glob (v := .ref C) (by rfl) gC rfl) pa_nil))))) (pss_one (ps_EI rfl (takes_of rfl rfl rfl rfl) EH (hr.mono (by decide)) (by rfl) (pv 0) (mono_var 0))) pss_nil), ?_⟩
    obtain ⟨ty, hm, hty⟩ := shp_typ (K := K) sh
    refine ⟨_, rfl, _, _, _, _, false, rfl, .own C, hty, nt _ hm, _, rfl, ?_⟩
    exact iteT ⟨_, rfl, out⟩
variable {fH Ch : Addr} {fdH : FuncData}
theorem ok_bad {x : Str} {st : Stmt} {f : Addr} {fd : FuncData} {ps N : List Str} {p1 p2 p3 p4 : Pos} {rest : List Stmt} (n : Nat) (F : Fun K x x st f fd) (S : FnScope N ps (defScope st)) (hn : ps.length = n) (h0 : N[0]? = some ("house" : Str))
    (hv : Vis (defScope st) "house") (hg : (defScope st).names.lookup ("need_house" : Str) = some .globalImplicit) (hb : defBody st = .Expr (.Call (.Name "need_house" p1) [.Name "house" p2] [] p3) p4 :: rest)
    (FH : Fun K "need_house" "need_house" sNeedHouse fH fdH) (gH : mg "need_house" = some (.ref fH)) (bH : Binds K fdH ["house"] []) (GH : FnOk P w K mg base (L2.CX P w) 4 fH fdH ["house"] (spNeed Ch)) : FnOk P w K mg base (L2.CX P w) 5 f fd ps (spBad Ch n) := by
  refine F.okX S (fun vs H Q E h => ?_) (fun cdv A outer s H vs Q E hr h => ?_)
  · obtain ⟨v, r, _, hl, _⟩ := h
    exact hl.trans hn.symm
  · obtain ⟨v, r, rfl, hl, sh, out⟩ := h
    rw [hb]
    refine ⟨_, pss_stop (ps_expr (pe_call GH (hr.mono (by decide)) hg gH FH.kp bH .nil (passes_call (takes_of rfl rfl rfl rfl) (fun _ _ _ _ h => h)) (pa_cons (pe_var (i := 0) h0 hv) pa_nil))), ?_⟩
    exact ⟨_, rfl, v, rfl, sh, out⟩
theorem ok_badI {q : Str} {st : Stmt} {f : Addr} {fd : FuncData} {ps N : List Str} {p1 p2 p3 p4 : Pos} {rest : List Stmt} (n : Nat) (F : Fun K "__init__" q st f fd) (S : FnScope N ps (defScope st)) (hn : ps.length = n) (h0 : N[1]? = some ("house" : Str))
    (hv : Vis (defScope st) "house") (hg : (defScope st).names.lookup ("need_house" : Str) = some .globalImplicit) (hb : defBody st = .Expr (.Call (.Name "need_house" p1) [.Name "house" p2] [] p3) p4 :: rest)
    (FH : Fun K "need_house" "need_house" sNeedHouse fH fdH) (gH : mg "need_house" = some (.ref fH)) (bH : Binds K fdH ["house"] []) (GH : FnOk P w K mg base (L2.CX P w) 4 fH fdH ["house"] (spNeed Ch)) : FnOk P w K mg base (L2.CX P w) 5 f fd ps (spBadI Ch n) := by
  refine F.okX S (fun vs H Q E h => ?_) (fun cdv A outer s H vs Q E hr h => ?_)
  · obtain ⟨x, v, r, _, hl, _⟩ := h
    exact hl.trans hn.symm
  · obtain ⟨x, v, r, rfl, hl, sh, out⟩ := h
    rw [hb]
    refine ⟨_, pss_stop (ps_expr (pe_call GH (hr.mono (by decide)) hg gH FH.kp bH .nil (passes_call (takes_of rfl rfl rfl rfl) (fun _ _ _ _ h => h)) (pa_cons (pe_var (i := 1) h0 hv) pa_nil))), ?_⟩
    exact ⟨_, rfl, v, rfl, sh, out⟩
end
end K03

set_option Elab.async false
set_option linter.all false
set_option maxRecDepth 100000
set_option maxHeartbeats 8000000
namespace K03
open PySem PySem.Spec PyProof.Rows L2 Own LamX
/-- a def of the text whose code object stands at c -/
structure FunC (K : PySem.W.Frag) (x qual : Str) (st : Stmt) (f : Addr) (fd : FuncData) (c : Addr) : Prop where
  ex : ∃ (oc : Value) (od : Option Addr) (kV doc pm : Value) (an : Option Addr) (ct : Value) (osl : Array (Option Value)),
    fd = PySem.W.fnOf x qual (defArgs st) (defBody st) (defScope st) .none kV doc pm an (.ref c) ct ∧ K.lookup f = some ⟨oc, od, .func fd, osl⟩ ∧ PySem.W.codeIn K (.ref c) qual = true
  kp : PySem.W.keepIn K (.ref f) = true
theorem FunC.ok {P : Program} {w : World} {K : PySem.W.Frag} {mg : Str → Option Value} {base : Heap} {x qual : Str} {st : Stmt} {f c : Addr} {fd : FuncData} {N ps : List Str} {k : Nat} {sp : Sp} (F : FunC K x qual st f fd c) (S : FnScope N ps (defScope st)) (len : ∀ vs H Q E, sp vs H Q E → vs.length = ps.length)
    (hbody : ∀ (A : Around) (outer : List Env) (s : Shared) (H : Hp) (vs : List V) (Q : VK) (E : XK), Room k (A.deeper (envOfC qual (defScope st) s.heap.objs.size f (.ref c))) → sp vs H Q E →
      ∃ t, PSs (cxOf CX0 P w K mg base N qual (defScope st) f (.ref c) A outer s H E).nox (defBody st) t ∧ t { nx := fun _ H' => Q .non H', rt := Q } (L2.start N vs) H) : FnOk P w K mg base CX0 (k + 1) f fd ps sp := by
  obtain ⟨oc, od, kV, doc, pm, an, ct, osl, rfl, lk, hcd⟩ := F.ex
  refine fn_of lk hcd S len fun A outer s H vs Q E hr hsp => ?_
  obtain ⟨t, h, q⟩ := hbody A outer s H vs Q E hr hsp
  exact ⟨t, h.nox, q⟩
theorem FunC.binds {K : PySem.W.Frag} {x qual : Str} {st : Stmt} {f c : Addr} {fd : FuncData} {ps : List Str} (F : FunC K x qual st f fd c)
    (h : ∀ (kV doc pm : Value) (an : Option Addr) (cdv ct : Value) (us : List Value), us.length = ps.length → bindArgs (PySem.W.fnOf x qual (defArgs st) (defBody st) (defScope st) .none kV doc pm an cdv ct) ⟨us, []⟩ = pure (ps.zip us)) : Binds K fd ps [] := by
  obtain ⟨oc, od, kV, doc, pm, an, ct, osl, rfl, lk, hcd⟩ := F.ex
  exact .all (h kV doc pm an (.ref c) ct)
theorem vals_snoc {v : V} {u : Value} : ∀ {vs : List V} {us : List Value}, Vals vs us → RelV v u → Vals (vs ++ [v]) (us ++ [u])
  | _, _, .nil, h => .cons h .nil
  | _, _, .cons a t, h => .cons a (vals_snoc t h)
theorem vals_rev : ∀ {vs : List V} {us : List Value}, Vals vs us → Vals vs.reverse us.reverse
  | _, _, .nil => .nil
  | _, _, .cons a t => by
    rw [List.reverse_cons, List.reverse_cons]
    exact vals_snoc (vals_rev t) a
/-- BadHouse, as the law's clause asks for it -/
structure Cau (K : PySem.W.Frag) (mg : Str → Option Value) (Ch : Addr) : Prop where
  g : mg "BadHouse" = some (.ref Ch)
  x : XfC K Ch
  n : PySem.W.findIn K (.ref Ch) "thing" = some none
  m : PySem.W.exmOne K (.ref Ch) (.ref Ch) = some true
/-- a new pair is told -/
def Pr (Q : VK) (H : Hp) (s : Str) (v : V) : Prop := [V.str s, v].length ≤ sizeLine ∧ ∀ t, H t = none → Q (.ref t) (upd H t (.tup [.str s, v]))
def EMet (Ch : Addr) (Q : VK) : XK := fun cls d H => cls = .ref Ch ∧ ∃ x v, d = some x ∧ H x = some (.xd [("thing", v)]) ∧ Pr Q H "house" v
def TMet (Ch : Addr) : (XK → Hp → VK → Prop) → Hp → VK → Prop := fun tl H Q => tl (EMet Ch Q) H fun _ _ => False
abbrev NMet : List Str := ["_law_ask", "e"]
theorem scMet : FnScope NMet ["_law_ask"] (defScope sMet) := ⟨rfl, rfl, rfl, by decide +kernel, rfl, by decide +kernel, by decide +kernel⟩
theorem met_gives {X : Cx} {Ch g : Addr} {cdg : Value} {q : Str} (C : Cau X.K X.mg Ch) : GivesTo X NMet "_law_met" (defScope sMet) g cdg (defBody sMet) "_law_ask" q (TMet Ch) := by
  intro f c' s H Q tl act hc h
  refine ⟨_, pss_one (ps_tryFirst (X := (cxOf C8.CX0 X.prog X.w X.K X.mg X.base NMet "_law_met" (defScope sMet) g cdg X.A X.stack s H C8.E0).nox) (i := 1) (cv := .ref Ch)
      (tb := fun W D σ H => ∃ Ech : XK, (∀ cls d σ' H', Ech cls d H' → W cls d σ' H') ∧ σ[0]? = some (some (.ref f)) ∧ H c' = some (CodeO c' q) ∧ tl Ech H fun _ _ => False)
      rfl rfl scMet.nd (fun W pn xe tk _ => ?_) ⟨by rfl, by decide, .inl C.g⟩ rfl rfl
      (fun a o k d pn hz hf => pss_one (ps_ret (pe_tup (pa_cons pe_str (pa_cons (pe_xf C.x C.n hz hf (pv 1)) pa_nil)))))), ?_⟩
  · refine ⟨fun pins s' σ H' D I h' => ?_⟩
    obtain ⟨Ech, hW, h1, h2, h3⟩ := h'
    have hp := fun p1 p2 => act W pn xe Ech p1 p2 tk hW
    refine PSs.run (t := ?t) ?hq pins s' σ H' D I ?hr
    case hq => exact pss_stop (ps_expr (hp _ _))
    case hr => exact ⟨h1, h2, h3⟩
  · refine ⟨EMet Ch Q, fun cls d σ' H' he => ?_, rfl, hc, h⟩
    have lk : ∀ (n : Str) (v : V), List.lookup n [(n, v)] = some v := fun n v => by simp [List.lookup]
    intro hlen
    have hlen : σ'.length = 2 := hlen
    have hs : ∀ a, (σ'.set 1 (some (V.ref a)))[1]? = some (some (V.ref a)) := fun a => by
      match σ', hlen with
      | [_, _], _ => rfl
    obtain ⟨rfl, x, v, rfl, hx, k⟩ := he
    exact ⟨C.m, fun a ha => ⟨_, hs a, rfl, rfl, x, _, v, rfl, hx, lk _ v, k⟩⟩
end K03

set_option Elab.async false
set_option linter.all false
set_option maxRecDepth 100000
set_option maxHeartbeats 8000000
namespace K03
open PySem PySem.Spec PyProof.Rows L2 Own LamX
/-- the function x, by the names ps, refuses what is no house -/
structure Ref (P : Program) (w : World) (K : PySem.W.Frag) (mg : Str → Option Value) (base : Heap) (Ch : Addr) (x : Str) (ps ks : List Str) : Prop where
  ex : ∃ (f : Addr) (fd : FuncData), mg x = some (.ref f) ∧ PySem.W.keepIn K (.ref f) = true ∧ Binds K fd ps [] ∧ KBn K fd ps 0 ks (fun _ ws => ws.reverse) (fun _ ws => ws.reverse) ∧ ∃ k, k ≤ 6 ∧ FnOk P w K mg base (L2.CX P w) k f fd ps (spBad Ch ps.length)
section
variable {P : Program} {w : World} {K : PySem.W.Frag} {mg : Str → Option Value} {base : Heap} {fH Ch : Addr} {fdH : FuncData}
abbrev s_asked : Stmt := topS 103
theorem sc_asked : FnScope ["house", "wishes", "lot"] ["house", "wishes", "lot"] (defScope s_asked) := ⟨rfl, rfl, rfl, by decide +kernel, rfl, by decide +kernel, by decide +kernel⟩
theorem b_asked {f : Addr} {fd : FuncData} (F : Fun K "asked" "asked" s_asked f fd) : Binds K fd ["house", "wishes", "lot"] [] := F.binds fun _ _ _ _ _ _ us hl => match us, hl with | [_, _, _], _ => rfl
theorem kb_asked {f : Addr} {fd : FuncData} (F : Fun K "asked" "asked" s_asked f fd) : KBn K fd ["house", "wishes", "lot"] 0 ["lot", "wishes", "house"] (fun _ ws => ws.reverse) (fun _ ws => ws.reverse) := by
  obtain ⟨oc, od, kV, doc, pm, an, cdv, ct, osl, rfl, lk, hcd⟩ := F.ex
  refine ⟨fun s us ws X l1 l2 => BindsTo.of_looks fun M => ?_, fun {vs us zs ws} r1 r2 => vals_rev r2⟩
  match us, ws, l1, l2 with
  | [], [x0, x1, x2], _, _ => exact .of_pure rfl
theorem ok_asked {f : Addr} {fd : FuncData} (F : Fun K "asked" "asked" s_asked f fd) (FH : Fun K "need_house" "need_house" sNeedHouse fH fdH) (gH : mg "need_house" = some (.ref fH)) (bH : Binds K fdH ["house"] []) (GH : FnOk P w K mg base (L2.CX P w) 4 fH fdH ["house"] (spNeed Ch)) :
    FnOk P w K mg base (L2.CX P w) 5 f fd ["house", "wishes", "lot"] (spBad Ch 3) := ok_bad 3 F sc_asked rfl rfl (by first | exact Or.inl rfl | exact Or.inr (Or.inl rfl) | exact Or.inr (Or.inr rfl)) rfl rfl FH gH bH GH
abbrev s_lacking : Stmt := topS 104
theorem sc_lacking : FnScope ["house", "wishes", "bell"] ["house", "wishes", "bell"] (defScope s_lacking) := ⟨rfl, rfl, rfl, by decide +kernel, rfl, by decide +kernel, by decide +kernel⟩
theorem b_lacking {f : Addr} {fd : FuncData} (F : Fun K "lacking" "lacking" s_lacking f fd) : Binds K fd ["house", "wishes", "bell"] [] := F.binds fun _ _ _ _ _ _ us hl => match us, hl with | [_, _, _], _ => rfl
theorem kb_lacking {f : Addr} {fd : FuncData} (F : Fun K "lacking" "lacking" s_lacking f fd) : KBn K fd ["house", "wishes", "bell"] 0 ["bell", "wishes", "house"] (fun _ ws => ws.reverse) (fun _ ws => ws.reverse) := by
  obtain ⟨oc, od, kV, doc, pm, an, cdv, ct, osl, rfl, lk, hcd⟩ := F.ex
  refine ⟨fun s us ws X l1 l2 => BindsTo.of_looks fun M => ?_, fun {vs us zs ws} r1 r2 => vals_rev r2⟩
  match us, ws, l1, l2 with
  | [], [x0, x1, x2], _, _ => exact .of_pure rfl
theorem ok_lacking {f : Addr} {fd : FuncData} (F : Fun K "lacking" "lacking" s_lacking f fd) (FH : Fun K "need_house" "need_house" sNeedHouse fH fdH) (gH : mg "need_house" = some (.ref fH)) (bH : Binds K fdH ["house"] []) (GH : FnOk P w K mg base (L2.CX P w) 4 fH fdH ["house"] (spNeed Ch)) :
    FnOk P w K mg base (L2.CX P w) 5 f fd ["house", "wishes", "bell"] (spBad Ch 3) := ok_bad 3 F sc_lacking rfl rfl (by first | exact Or.inl rfl | exact Or.inr (Or.inl rfl) | exact Or.inr (Or.inr rfl)) rfl rfl FH gH bH GH
abbrev s_is_lot_for : Stmt := topS 107
theorem sc_is_lot_for : FnScope ["house", "wishes", "bell", "thing"] ["house", "wishes", "bell", "thing"] (defScope s_is_lot_for) := ⟨rfl, rfl, rfl, by decide +kernel, rfl, by decide +kernel, by decide +kernel⟩
theorem b_is_lot_for {f : Addr} {fd : FuncData} (F : Fun K "is_lot_for" "is_lot_for" s_is_lot_for f fd) : Binds K fd ["house", "wishes", "bell", "thing"] [] := F.binds fun _ _ _ _ _ _ us hl => match us, hl with | [_, _, _, _], _ => rfl
theorem kb_is_lot_for {f : Addr} {fd : FuncData} (F : Fun K "is_lot_for" "is_lot_for" s_is_lot_for f fd) : KBn K fd ["house", "wishes", "bell", "thing"] 0 ["thing", "bell", "wishes", "house"] (fun _ ws => ws.reverse) (fun _ ws => ws.reverse) := by
  obtain ⟨oc, od, kV, doc, pm, an, cdv, ct, osl, rfl, lk, hcd⟩ := F.ex
  refine ⟨fun s us ws X l1 l2 => BindsTo.of_looks fun M => ?_, fun {vs us zs ws} r1 r2 => vals_rev r2⟩
  match us, ws, l1, l2 with
  | [], [x0, x1, x2, x3], _, _ => exact .of_pure rfl
theorem ok_is_lot_for {f : Addr} {fd : FuncData} (F : Fun K "is_lot_for" "is_lot_for" s_is_lot_for f fd) (FH : Fun K "need_house" "need_house" sNeedHouse fH fdH) (gH : mg "need_house" = some (.ref fH)) (bH : Binds K fdH ["house"] []) (GH : FnOk P w K mg base (L2.CX P w) 4 fH fdH ["house"] (spNeed Ch)) :
    FnOk P w K mg base (L2.CX P w) 5 f fd ["house", "wishes", "bell", "thing"] (spBad Ch 4) := ok_bad 4 F sc_is_lot_for rfl rfl (by first | exact Or.inl rfl | exact Or.inr (Or.inl rfl) | exact Or.inr (Or.inr rfl)) rfl rfl FH gH bH GH
abbrev s_is_plan_for : Stmt := topS 108
theorem sc_is_plan_for : FnScope ["house", "wishes", "bell", "thing"] ["house", "wishes", "bell", "thing"] (defScope s_is_plan_for) := ⟨rfl, rfl, rfl, by decide +kernel, rfl, by decide +kernel, by decide +kernel⟩
theorem b_is_plan_for {f : Addr} {fd : FuncData} (F : Fun K "is_plan_for" "is_plan_for" s_is_plan_for f fd) : Binds K fd ["house", "wishes", "bell", "thing"] [] := F.binds fun _ _ _ _ _ _ us hl => match us, hl with | [_, _, _, _], _ => rfl
theorem kb_is_plan_for {f : Addr} {fd : FuncData} (F : Fun K "is_plan_for" "is_plan_for" s_is_plan_for f fd) : KBn K fd ["house", "wishes", "bell", "thing"] 0 ["thing", "bell", "wishes", "house"] (fun _ ws => ws.reverse) (fun _ ws => ws.reverse) := by
  obtain ⟨oc, od, kV, doc, pm, an, cdv, ct, osl, rfl, lk, hcd⟩ := F.ex
  refine ⟨fun s us ws X l1 l2 => BindsTo.of_looks fun M => ?_, fun {vs us zs ws} r1 r2 => vals_rev r2⟩
  match us, ws, l1, l2 with
  | [], [x0, x1, x2, x3], _, _ => exact .of_pure rfl
theorem ok_is_plan_for {f : Addr} {fd : FuncData} (F : Fun K "is_plan_for" "is_plan_for" s_is_plan_for f fd) (FH : Fun K "need_house" "need_house" sNeedHouse fH fdH) (gH : mg "need_house" = some (.ref fH)) (bH : Binds K fdH ["house"] []) (GH : FnOk P w K mg base (L2.CX P w) 4 fH fdH ["house"] (spNeed Ch)) :
    FnOk P w K mg base (L2.CX P w) 5 f fd ["house", "wishes", "bell", "thing"] (spBad Ch 4) := ok_bad 4 F sc_is_plan_for rfl rfl (by first | exact Or.inl rfl | exact Or.inr (Or.inl rfl) | exact Or.inr (Or.inr rfl)) rfl rfl FH gH bH GH
abbrev s_row_for : Stmt := topS 159
theorem sc_row_for : FnScope ["house", "wishes", "bell"] ["house", "wishes", "bell"] (defScope s_row_for) := ⟨rfl, rfl, rfl, by decide +kernel, rfl, by decide +kernel, by decide +kernel⟩
theorem b_row_for {f : Addr} {fd : FuncData} (F : Fun K "row_for" "row_for" s_row_for f fd) : Binds K fd ["house", "wishes", "bell"] [] := F.binds fun _ _ _ _ _ _ us hl => match us, hl with | [_, _, _], _ => rfl
theorem kb_row_for {f : Addr} {fd : FuncData} (F : Fun K "row_for" "row_for" s_row_for f fd) : KBn K fd ["house", "wishes", "bell"] 0 ["bell", "wishes", "house"] (fun _ ws => ws.reverse) (fun _ ws => ws.reverse) := by
  obtain ⟨oc, od, kV, doc, pm, an, cdv, ct, osl, rfl, lk, hcd⟩ := F.ex
  refine ⟨fun s us ws X l1 l2 => BindsTo.of_looks fun M => ?_, fun {vs us zs ws} r1 r2 => vals_rev r2⟩
  match us, ws, l1, l2 with
  | [], [x0, x1, x2], _, _ => exact .of_pure rfl
theorem ok_row_for {f : Addr} {fd : FuncData} (F : Fun K "row_for" "row_for" s_row_for f fd) (FH : Fun K "need_house" "need_house" sNeedHouse fH fdH) (gH : mg "need_house" = some (.ref fH)) (bH : Binds K fdH ["house"] []) (GH : FnOk P w K mg base (L2.CX P w) 4 fH fdH ["house"] (spNeed Ch)) :
    FnOk P w K mg base (L2.CX P w) 5 f fd ["house", "wishes", "bell"] (spBad Ch 3) := ok_bad 3 F sc_row_for rfl rfl (by first | exact Or.inl rfl | exact Or.inr (Or.inl rfl) | exact Or.inr (Or.inr rfl)) rfl rfl FH gH bH GH
abbrev s_is_row_for : Stmt := topS 161
theorem sc_is_row_for : FnScope ["house", "wishes", "bell", "thing"] ["house", "wishes", "bell", "thing"] (defScope s_is_row_for) := ⟨rfl, rfl, rfl, by decide +kernel, rfl, by decide +kernel, by decide +kernel⟩
theorem b_is_row_for {f : Addr} {fd : FuncData} (F : Fun K "is_row_for" "is_row_for" s_is_row_for f fd) : Binds K fd ["house", "wishes", "bell", "thing"] [] := F.binds fun _ _ _ _ _ _ us hl => match us, hl with | [_, _, _, _], _ => rfl
theorem kb_is_row_for {f : Addr} {fd : FuncData} (F : Fun K "is_row_for" "is_row_for" s_is_row_for f fd) : KBn K fd ["house", "wishes", "bell", "thing"] 0 ["thing", "bell", "wishes", "house"] (fun _ ws => ws.reverse) (fun _ ws => ws.reverse) := by
  obtain ⟨oc, od, kV, doc, pm, an, cdv, ct, osl, rfl, lk, hcd⟩ := F.ex
  refine ⟨fun s us ws X l1 l2 => BindsTo.of_looks fun M => ?_, fun {vs us zs ws} r1 r2 => vals_rev r2⟩
  match us, ws, l1, l2 with
  | [], [x0, x1, x2, x3], _, _ => exact .of_pure rfl
theorem ok_is_row_for {f : Addr} {fd : FuncData} (F : Fun K "is_row_for" "is_row_for" s_is_row_for f fd) (FH : Fun K "need_house" "need_house" sNeedHouse fH fdH) (gH : mg "need_house" = some (.ref fH)) (bH : Binds K fdH ["house"] []) (GH : FnOk P w K mg base (L2.CX P w) 4 fH fdH ["house"] (spNeed Ch)) :
    FnOk P w K mg base (L2.CX P w) 5 f fd ["house", "wishes", "bell", "thing"] (spBad Ch 4) := ok_bad 4 F sc_is_row_for rfl rfl (by first | exact Or.inl rfl | exact Or.inr (Or.inl rfl) | exact Or.inr (Or.inr rfl)) rfl rfl FH gH bH GH
abbrev s_parted : Stmt := topS 153
theorem sc_parted : FnScope ["house", "parts"] ["house", "parts"] (defScope s_parted) := ⟨rfl, rfl, rfl, by decide +kernel, rfl, by decide +kernel, by decide +kernel⟩
theorem b_parted {f : Addr} {fd : FuncData} (F : Fun K "parted" "parted" s_parted f fd) : Binds K fd ["house", "parts"] [] := F.binds fun _ _ _ _ _ _ us hl => match us, hl with | [_, _], _ => rfl
theorem kb_parted {f : Addr} {fd : FuncData} (F : Fun K "parted" "parted" s_parted f fd) : KBn K fd ["house", "parts"] 0 ["parts", "house"] (fun _ ws => ws.reverse) (fun _ ws => ws.reverse) := by
  obtain ⟨oc, od, kV, doc, pm, an, cdv, ct, osl, rfl, lk, hcd⟩ := F.ex
  refine ⟨fun s us ws X l1 l2 => BindsTo.of_looks fun M => ?_, fun {vs us zs ws} r1 r2 => vals_rev r2⟩
  match us, ws, l1, l2 with
  | [], [x0, x1], _, _ => exact .of_pure rfl
theorem ok_parted {f : Addr} {fd : FuncData} (F : Fun K "parted" "parted" s_parted f fd) (FH : Fun K "need_house" "need_house" sNeedHouse fH fdH) (gH : mg "need_house" = some (.ref fH)) (bH : Binds K fdH ["house"] []) (GH : FnOk P w K mg base (L2.CX P w) 4 fH fdH ["house"] (spNeed Ch)) :
    FnOk P w K mg base (L2.CX P w) 5 f fd ["house", "parts"] (spBad Ch 2) := ok_bad 2 F sc_parted rfl rfl (by first | exact Or.inl rfl | exact Or.inr (Or.inl rfl) | exact Or.inr (Or.inr rfl)) rfl rfl FH gH bH GH
abbrev s_most : Stmt := topS 69
theorem sc_most : FnScope ["house", "lot", "bell"] ["house", "lot", "bell"] (defScope s_most) := ⟨rfl, rfl, rfl, by decide +kernel, rfl, by decide +kernel, by decide +kernel⟩
theorem b_most {f : Addr} {fd : FuncData} (F : Fun K "most" "most" s_most f fd) : Binds K fd ["house", "lot", "bell"] [] := F.binds fun _ _ _ _ _ _ us hl => match us, hl with | [_, _, _], _ => rfl
theorem kb_most {f : Addr} {fd : FuncData} (F : Fun K "most" "most" s_most f fd) : KBn K fd ["house", "lot", "bell"] 0 ["bell", "lot", "house"] (fun _ ws => ws.reverse) (fun _ ws => ws.reverse) := by
  obtain ⟨oc, od, kV, doc, pm, an, cdv, ct, osl, rfl, lk, hcd⟩ := F.ex
  refine ⟨fun s us ws X l1 l2 => BindsTo.of_looks fun M => ?_, fun {vs us zs ws} r1 r2 => vals_rev r2⟩
  match us, ws, l1, l2 with
  | [], [x0, x1, x2], _, _ => exact .of_pure rfl
theorem ok_most {f : Addr} {fd : FuncData} (F : Fun K "most" "most" s_most f fd) (FH : Fun K "need_house" "need_house" sNeedHouse fH fdH) (gH : mg "need_house" = some (.ref fH)) (bH : Binds K fdH ["house"] []) (GH : FnOk P w K mg base (L2.CX P w) 4 fH fdH ["house"] (spNeed Ch)) :
    FnOk P w K mg base (L2.CX P w) 5 f fd ["house", "lot", "bell"] (spBad Ch 3) := ok_bad 3 F sc_most rfl rfl (by first | exact Or.inl rfl | exact Or.inr (Or.inl rfl) | exact Or.inr (Or.inr rfl)) rfl rfl FH gH bH GH
abbrev s_most_plan : Stmt := topS 70
theorem sc_most_plan : FnScope ["house", "lot", "bell"] ["house", "lot", "bell"] (defScope s_most_plan) := ⟨rfl, rfl, rfl, by decide +kernel, rfl, by decide +kernel, by decide +kernel⟩
theorem b_most_plan {f : Addr} {fd : FuncData} (F : Fun K "most_plan" "most_plan" s_most_plan f fd) : Binds K fd ["house", "lot", "bell"] [] := F.binds fun _ _ _ _ _ _ us hl => match us, hl with | [_, _, _], _ => rfl
theorem kb_most_plan {f : Addr} {fd : FuncData} (F : Fun K "most_plan" "most_plan" s_most_plan f fd) : KBn K fd ["house", "lot", "bell"] 0 ["bell", "lot", "house"] (fun _ ws => ws.reverse) (fun _ ws => ws.reverse) := by
  obtain ⟨oc, od, kV, doc, pm, an, cdv, ct, osl, rfl, lk, hcd⟩ := F.ex
  refine ⟨fun s us ws X l1 l2 => BindsTo.of_looks fun M => ?_, fun {vs us zs ws} r1 r2 => vals_rev r2⟩
  match us, ws, l1, l2 with
  | [], [x0, x1, x2], _, _ => exact .of_pure rfl
theorem ok_most_plan {f : Addr} {fd : FuncData} (F : Fun K "most_plan" "most_plan" s_most_plan f fd) (FH : Fun K "need_house" "need_house" sNeedHouse fH fdH) (gH : mg "need_house" = some (.ref fH)) (bH : Binds K fdH ["house"] []) (GH : FnOk P w K mg base (L2.CX P w) 4 fH fdH ["house"] (spNeed Ch)) :
    FnOk P w K mg base (L2.CX P w) 5 f fd ["house", "lot", "bell"] (spBad Ch 3) := ok_bad 3 F sc_most_plan rfl rfl (by first | exact Or.inl rfl | exact Or.inr (Or.inl rfl) | exact Or.inr (Or.inr rfl)) rfl rfl FH gH bH GH
abbrev s_levels : Stmt := topS 71
theorem sc_levels : FnScope ["house", "lot"] ["house", "lot"] (defScope s_levels) := ⟨rfl, rfl, rfl, by decide +kernel, rfl, by decide +kernel, by decide +kernel⟩
theorem b_levels {f : Addr} {fd : FuncData} (F : Fun K "levels" "levels" s_levels f fd) : Binds K fd ["house", "lot"] [] := F.binds fun _ _ _ _ _ _ us hl => match us, hl with | [_, _], _ => rfl
theorem kb_levels {f : Addr} {fd : FuncData} (F : Fun K "levels" "levels" s_levels f fd) : KBn K fd ["house", "lot"] 0 ["lot", "house"] (fun _ ws => ws.reverse) (fun _ ws => ws.reverse) := by
  obtain ⟨oc, od, kV, doc, pm, an, cdv, ct, osl, rfl, lk, hcd⟩ := F.ex
  refine ⟨fun s us ws X l1 l2 => BindsTo.of_looks fun M => ?_, fun {vs us zs ws} r1 r2 => vals_rev r2⟩
  match us, ws, l1, l2 with
  | [], [x0, x1], _, _ => exact .of_pure rfl
theorem ok_levels {f : Addr} {fd : FuncData} (F : Fun K "levels" "levels" s_levels f fd) (FH : Fun K "need_house" "need_house" sNeedHouse fH fdH) (gH : mg "need_house" = some (.ref fH)) (bH : Binds K fdH ["house"] []) (GH : FnOk P w K mg base (L2.CX P w) 4 fH fdH ["house"] (spNeed Ch)) :
    FnOk P w K mg base (L2.CX P w) 5 f fd ["house", "lot"] (spBad Ch 2) := ok_bad 2 F sc_levels rfl rfl (by first | exact Or.inl rfl | exact Or.inr (Or.inl rfl) | exact Or.inr (Or.inr rfl)) rfl rfl FH gH bH GH
abbrev s_lot_bell : Stmt := topS 73
theorem sc_lot_bell : FnScope ["house", "lot", "amount"] ["house", "lot", "amount"] (defScope s_lot_bell) := ⟨rfl, rfl, rfl, by decide +kernel, rfl, by decide +kernel, by decide +kernel⟩
theorem b_lot_bell {f : Addr} {fd : FuncData} (F : Fun K "lot_bell" "lot_bell" s_lot_bell f fd) : Binds K fd ["house", "lot", "amount"] [] := F.binds fun _ _ _ _ _ _ us hl => match us, hl with | [_, _, _], _ => rfl
theorem kb_lot_bell {f : Addr} {fd : FuncData} (F : Fun K "lot_bell" "lot_bell" s_lot_bell f fd) : KBn K fd ["house", "lot", "amount"] 0 ["amount", "lot", "house"] (fun _ ws => ws.reverse) (fun _ ws => ws.reverse) := by
  obtain ⟨oc, od, kV, doc, pm, an, cdv, ct, osl, rfl, lk, hcd⟩ := F.ex
  refine ⟨fun s us ws X l1 l2 => BindsTo.of_looks fun M => ?_, fun {vs us zs ws} r1 r2 => vals_rev r2⟩
  match us, ws, l1, l2 with
  | [], [x0, x1, x2], _, _ => exact .of_pure rfl
theorem ok_lot_bell {f : Addr} {fd : FuncData} (F : Fun K "lot_bell" "lot_bell" s_lot_bell f fd) (FH : Fun K "need_house" "need_house" sNeedHouse fH fdH) (gH : mg "need_house" = some (.ref fH)) (bH : Binds K fdH ["house"] []) (GH : FnOk P w K mg base (L2.CX P w) 4 fH fdH ["house"] (spNeed Ch)) :
    FnOk P w K mg base (L2.CX P w) 5 f fd ["house", "lot", "amount"] (spBad Ch 3) := ok_bad 3 F sc_lot_bell rfl rfl (by first | exact Or.inl rfl | exact Or.inr (Or.inl rfl) | exact Or.inr (Or.inr rfl)) rfl rfl FH gH bH GH
abbrev s_is_moments : Stmt := topS 79
theorem sc_is_moments : FnScope ["house", "lot", "bell", "thing"] ["house", "lot", "bell", "thing"] (defScope s_is_moments) := ⟨rfl, rfl, rfl, by decide +kernel, rfl, by decide +kernel, by decide +kernel⟩
theorem b_is_moments {f : Addr} {fd : FuncData} (F : Fun K "is_moments" "is_moments" s_is_moments f fd) : Binds K fd ["house", "lot", "bell", "thing"] [] := F.binds fun _ _ _ _ _ _ us hl => match us, hl with | [_, _, _, _], _ => rfl
theorem kb_is_moments {f : Addr} {fd : FuncData} (F : Fun K "is_moments" "is_moments" s_is_moments f fd) : KBn K fd ["house", "lot", "bell", "thing"] 0 ["thing", "bell", "lot", "house"] (fun _ ws => ws.reverse) (fun _ ws => ws.reverse) := by
  obtain ⟨oc, od, kV, doc, pm, an, cdv, ct, osl, rfl, lk, hcd⟩ := F.ex
  refine ⟨fun s us ws X l1 l2 => BindsTo.of_looks fun M => ?_, fun {vs us zs ws} r1 r2 => vals_rev r2⟩
  match us, ws, l1, l2 with
  | [], [x0, x1, x2, x3], _, _ => exact .of_pure rfl
theorem ok_is_moments {f : Addr} {fd : FuncData} (F : Fun K "is_moments" "is_moments" s_is_moments f fd) (FH : Fun K "need_house" "need_house" sNeedHouse fH fdH) (gH : mg "need_house" = some (.ref fH)) (bH : Binds K fdH ["house"] []) (GH : FnOk P w K mg base (L2.CX P w) 4 fH fdH ["house"] (spNeed Ch)) :
    FnOk P w K mg base (L2.CX P w) 5 f fd ["house", "lot", "bell", "thing"] (spBad Ch 4) := ok_bad 4 F sc_is_moments rfl rfl (by first | exact Or.inl rfl | exact Or.inr (Or.inl rfl) | exact Or.inr (Or.inr rfl)) rfl rfl FH gH bH GH
abbrev s_worth : Stmt := topS 81
theorem sc_worth : FnScope ["house", "moments"] ["house", "moments"] (defScope s_worth) := ⟨rfl, rfl, rfl, by decide +kernel, rfl, by decide +kernel, by decide +kernel⟩
theorem b_worth {f : Addr} {fd : FuncData} (F : Fun K "worth" "worth" s_worth f fd) : Binds K fd ["house", "moments"] [] := F.binds fun _ _ _ _ _ _ us hl => match us, hl with | [_, _], _ => rfl
theorem kb_worth {f : Addr} {fd : FuncData} (F : Fun K "worth" "worth" s_worth f fd) : KBn K fd ["house", "moments"] 0 ["moments", "house"] (fun _ ws => ws.reverse) (fun _ ws => ws.reverse) := by
  obtain ⟨oc, od, kV, doc, pm, an, cdv, ct, osl, rfl, lk, hcd⟩ := F.ex
  refine ⟨fun s us ws X l1 l2 => BindsTo.of_looks fun M => ?_, fun {vs us zs ws} r1 r2 => vals_rev r2⟩
  match us, ws, l1, l2 with
  | [], [x0, x1], _, _ => exact .of_pure rfl
theorem ok_worth {f : Addr} {fd : FuncData} (F : Fun K "worth" "worth" s_worth f fd) (FH : Fun K "need_house" "need_house" sNeedHouse fH fdH) (gH : mg "need_house" = some (.ref fH)) (bH : Binds K fdH ["house"] []) (GH : FnOk P w K mg base (L2.CX P w) 4 fH fdH ["house"] (spNeed Ch)) :
    FnOk P w K mg base (L2.CX P w) 5 f fd ["house", "moments"] (spBad Ch 2) := ok_bad 2 F sc_worth rfl rfl (by first | exact Or.inl rfl | exact Or.inr (Or.inl rfl) | exact Or.inr (Or.inr rfl)) rfl rfl FH gH bH GH
abbrev s_moments_for : Stmt := topS 82
theorem sc_moments_for : FnScope ["house", "lot", "bell"] ["house", "lot", "bell"] (defScope s_moments_for) := ⟨rfl, rfl, rfl, by decide +kernel, rfl, by decide +kernel, by decide +kernel⟩
theorem b_moments_for {f : Addr} {fd : FuncData} (F : Fun K "moments_for" "moments_for" s_moments_for f fd) : Binds K fd ["house", "lot", "bell"] [] := F.binds fun _ _ _ _ _ _ us hl => match us, hl with | [_, _, _], _ => rfl
theorem kb_moments_for {f : Addr} {fd : FuncData} (F : Fun K "moments_for" "moments_for" s_moments_for f fd) : KBn K fd ["house", "lot", "bell"] 0 ["bell", "lot", "house"] (fun _ ws => ws.reverse) (fun _ ws => ws.reverse) := by
  obtain ⟨oc, od, kV, doc, pm, an, cdv, ct, osl, rfl, lk, hcd⟩ := F.ex
  refine ⟨fun s us ws X l1 l2 => BindsTo.of_looks fun M => ?_, fun {vs us zs ws} r1 r2 => vals_rev r2⟩
  match us, ws, l1, l2 with
  | [], [x0, x1, x2], _, _ => exact .of_pure rfl
theorem ok_moments_for {f : Addr} {fd : FuncData} (F : Fun K "moments_for" "moments_for" s_moments_for f fd) (FH : Fun K "need_house" "need_house" sNeedHouse fH fdH) (gH : mg "need_house" = some (.ref fH)) (bH : Binds K fdH ["house"] []) (GH : FnOk P w K mg base (L2.CX P w) 4 fH fdH ["house"] (spNeed Ch)) :
    FnOk P w K mg base (L2.CX P w) 5 f fd ["house", "lot", "bell"] (spBad Ch 3) := ok_bad 3 F sc_moments_for rfl rfl (by first | exact Or.inl rfl | exact Or.inr (Or.inl rfl) | exact Or.inr (Or.inr rfl)) rfl rfl FH gH bH GH
abbrev s_plan_by_order : Stmt := topS 112
theorem sc_plan_by_order : FnScope ["house", "order", "bell"] ["house", "order", "bell"] (defScope s_plan_by_order) := ⟨rfl, rfl, rfl, by decide +kernel, rfl, by decide +kernel, by decide +kernel⟩
theorem b_plan_by_order {f : Addr} {fd : FuncData} (F : Fun K "plan_by_order" "plan_by_order" s_plan_by_order f fd) : Binds K fd ["house", "order", "bell"] [] := F.binds fun _ _ _ _ _ _ us hl => match us, hl with | [_, _, _], _ => rfl
theorem kb_plan_by_order {f : Addr} {fd : FuncData} (F : Fun K "plan_by_order" "plan_by_order" s_plan_by_order f fd) : KBn K fd ["house", "order", "bell"] 0 ["bell", "order", "house"] (fun _ ws => ws.reverse) (fun _ ws => ws.reverse) := by
  obtain ⟨oc, od, kV, doc, pm, an, cdv, ct, osl, rfl, lk, hcd⟩ := F.ex
  refine ⟨fun s us ws X l1 l2 => BindsTo.of_looks fun M => ?_, fun {vs us zs ws} r1 r2 => vals_rev r2⟩
  match us, ws, l1, l2 with
  | [], [x0, x1, x2], _, _ => exact .of_pure rfl
theorem ok_plan_by_order {f : Addr} {fd : FuncData} (F : Fun K "plan_by_order" "plan_by_order" s_plan_by_order f fd) (FH : Fun K "need_house" "need_house" sNeedHouse fH fdH) (gH : mg "need_house" = some (.ref fH)) (bH : Binds K fdH ["house"] []) (GH : FnOk P w K mg base (L2.CX P w) 4 fH fdH ["house"] (spNeed Ch)) :
    FnOk P w K mg base (L2.CX P w) 5 f fd ["house", "order", "bell"] (spBad Ch 3) := ok_bad 3 F sc_plan_by_order rfl rfl (by first | exact Or.inl rfl | exact Or.inr (Or.inl rfl) | exact Or.inr (Or.inr rfl)) rfl rfl FH gH bH GH
abbrev s_corner : Stmt := topS 113
theorem sc_corner : FnScope ["house", "order", "bell"] ["house", "order", "bell"] (defScope s_corner) := ⟨rfl, rfl, rfl, by decide +kernel, rfl, by decide +kernel, by decide +kernel⟩
theorem b_corner {f : Addr} {fd : FuncData} (F : Fun K "corner" "corner" s_corner f fd) : Binds K fd ["house", "order", "bell"] [] := F.binds fun _ _ _ _ _ _ us hl => match us, hl with | [_, _, _], _ => rfl
theorem kb_corner {f : Addr} {fd : FuncData} (F : Fun K "corner" "corner" s_corner f fd) : KBn K fd ["house", "order", "bell"] 0 ["bell", "order", "house"] (fun _ ws => ws.reverse) (fun _ ws => ws.reverse) := by
  obtain ⟨oc, od, kV, doc, pm, an, cdv, ct, osl, rfl, lk, hcd⟩ := F.ex
  refine ⟨fun s us ws X l1 l2 => BindsTo.of_looks fun M => ?_, fun {vs us zs ws} r1 r2 => vals_rev r2⟩
  match us, ws, l1, l2 with
  | [], [x0, x1, x2], _, _ => exact .of_pure rfl
theorem ok_corner {f : Addr} {fd : FuncData} (F : Fun K "corner" "corner" s_corner f fd) (FH : Fun K "need_house" "need_house" sNeedHouse fH fdH) (gH : mg "need_house" = some (.ref fH)) (bH : Binds K fdH ["house"] []) (GH : FnOk P w K mg base (L2.CX P w) 4 fH fdH ["house"] (spNeed Ch)) :
    FnOk P w K mg base (L2.CX P w) 5 f fd ["house", "order", "bell"] (spBad Ch 3) := ok_bad 3 F sc_corner rfl rfl (by first | exact Or.inl rfl | exact Or.inr (Or.inl rfl) | exact Or.inr (Or.inr rfl)) rfl rfl FH gH bH GH
abbrev s_corners : Stmt := topS 115
theorem sc_corners : FnScope ["house", "bell"] ["house", "bell"] (defScope s_corners) := ⟨rfl, rfl, rfl, by decide +kernel, rfl, by decide +kernel, by decide +kernel⟩
theorem b_corners {f : Addr} {fd : FuncData} (F : Fun K "corners" "corners" s_corners f fd) : Binds K fd ["house", "bell"] [] := F.binds fun _ _ _ _ _ _ us hl => match us, hl with | [_, _], _ => rfl
theorem kb_corners {f : Addr} {fd : FuncData} (F : Fun K "corners" "corners" s_corners f fd) : KBn K fd ["house", "bell"] 0 ["bell", "house"] (fun _ ws => ws.reverse) (fun _ ws => ws.reverse) := by
  obtain ⟨oc, od, kV, doc, pm, an, cdv, ct, osl, rfl, lk, hcd⟩ := F.ex
  refine ⟨fun s us ws X l1 l2 => BindsTo.of_looks fun M => ?_, fun {vs us zs ws} r1 r2 => vals_rev r2⟩
  match us, ws, l1, l2 with
  | [], [x0, x1], _, _ => exact .of_pure rfl
theorem ok_corners {f : Addr} {fd : FuncData} (F : Fun K "corners" "corners" s_corners f fd) (FH : Fun K "need_house" "need_house" sNeedHouse fH fdH) (gH : mg "need_house" = some (.ref fH)) (bH : Binds K fdH ["house"] []) (GH : FnOk P w K mg base (L2.CX P w) 4 fH fdH ["house"] (spNeed Ch)) :
    FnOk P w K mg base (L2.CX P w) 5 f fd ["house", "bell"] (spBad Ch 2) := ok_bad 2 F sc_corners rfl rfl (by first | exact Or.inl rfl | exact Or.inr (Or.inl rfl) | exact Or.inr (Or.inr rfl)) rfl rfl FH gH bH GH
abbrev s_order_of : Stmt := topS 117
theorem sc_order_of : FnScope ["house", "wishes", "bell"] ["house", "wishes", "bell"] (defScope s_order_of) := ⟨rfl, rfl, rfl, by decide +kernel, rfl, by decide +kernel, by decide +kernel⟩
theorem b_order_of {f : Addr} {fd : FuncData} (F : Fun K "order_of" "order_of" s_order_of f fd) : Binds K fd ["house", "wishes", "bell"] [] := F.binds fun _ _ _ _ _ _ us hl => match us, hl with | [_, _, _], _ => rfl
theorem kb_order_of {f : Addr} {fd : FuncData} (F : Fun K "order_of" "order_of" s_order_of f fd) : KBn K fd ["house", "wishes", "bell"] 0 ["bell", "wishes", "house"] (fun _ ws => ws.reverse) (fun _ ws => ws.reverse) := by
  obtain ⟨oc, od, kV, doc, pm, an, cdv, ct, osl, rfl, lk, hcd⟩ := F.ex
  refine ⟨fun s us ws X l1 l2 => BindsTo.of_looks fun M => ?_, fun {vs us zs ws} r1 r2 => vals_rev r2⟩
  match us, ws, l1, l2 with
  | [], [x0, x1, x2], _, _ => exact .of_pure rfl
theorem ok_order_of {f : Addr} {fd : FuncData} (F : Fun K "order_of" "order_of" s_order_of f fd) (FH : Fun K "need_house" "need_house" sNeedHouse fH fdH) (gH : mg "need_house" = some (.ref fH)) (bH : Binds K fdH ["house"] []) (GH : FnOk P w K mg base (L2.CX P w) 4 fH fdH ["house"] (spNeed Ch)) :
    FnOk P w K mg base (L2.CX P w) 5 f fd ["house", "wishes", "bell"] (spBad Ch 3) := ok_bad 3 F sc_order_of rfl rfl (by first | exact Or.inl rfl | exact Or.inr (Or.inl rfl) | exact Or.inr (Or.inr rfl)) rfl rfl FH gH bH GH
abbrev s_plan_fault : Stmt := topS 90
theorem sc_plan_fault : FnScope ["house", "thing"] ["house", "thing"] (defScope s_plan_fault) := ⟨rfl, rfl, rfl, by decide +kernel, rfl, by decide +kernel, by decide +kernel⟩
theorem b_plan_fault {f : Addr} {fd : FuncData} (F : Fun K "plan_fault" "plan_fault" s_plan_fault f fd) : Binds K fd ["house", "thing"] [] := F.binds fun _ _ _ _ _ _ us hl => match us, hl with | [_, _], _ => rfl
theorem kb_plan_fault {f : Addr} {fd : FuncData} (F : Fun K "plan_fault" "plan_fault" s_plan_fault f fd) : KBn K fd ["house", "thing"] 0 ["thing", "house"] (fun _ ws => ws.reverse) (fun _ ws => ws.reverse) := by
  obtain ⟨oc, od, kV, doc, pm, an, cdv, ct, osl, rfl, lk, hcd⟩ := F.ex
  refine ⟨fun s us ws X l1 l2 => BindsTo.of_looks fun M => ?_, fun {vs us zs ws} r1 r2 => vals_rev r2⟩
  match us, ws, l1, l2 with
  | [], [x0, x1], _, _ => exact .of_pure rfl
theorem ok_plan_fault {f : Addr} {fd : FuncData} (F : Fun K "plan_fault" "plan_fault" s_plan_fault f fd) (FH : Fun K "need_house" "need_house" sNeedHouse fH fdH) (gH : mg "need_house" = some (.ref fH)) (bH : Binds K fdH ["house"] []) (GH : FnOk P w K mg base (L2.CX P w) 4 fH fdH ["house"] (spNeed Ch)) :
    FnOk P w K mg base (L2.CX P w) 5 f fd ["house", "thing"] (spBad Ch 2) := ok_bad 2 F sc_plan_fault rfl rfl (by first | exact Or.inl rfl | exact Or.inr (Or.inl rfl) | exact Or.inr (Or.inr rfl)) rfl rfl FH gH bH GH
abbrev s_brings : Stmt := topS 99
theorem sc_brings : FnScope ["house", "plan"] ["house", "plan"] (defScope s_brings) := ⟨rfl, rfl, rfl, by decide +kernel, rfl, by decide +kernel, by decide +kernel⟩
theorem b_brings {f : Addr} {fd : FuncData} (F : Fun K "brings" "brings" s_brings f fd) : Binds K fd ["house", "plan"] [] := F.binds fun _ _ _ _ _ _ us hl => match us, hl with | [_, _], _ => rfl
theorem kb_brings {f : Addr} {fd : FuncData} (F : Fun K "brings" "brings" s_brings f fd) : KBn K fd ["house", "plan"] 0 ["plan", "house"] (fun _ ws => ws.reverse) (fun _ ws => ws.reverse) := by
  obtain ⟨oc, od, kV, doc, pm, an, cdv, ct, osl, rfl, lk, hcd⟩ := F.ex
  refine ⟨fun s us ws X l1 l2 => BindsTo.of_looks fun M => ?_, fun {vs us zs ws} r1 r2 => vals_rev r2⟩
  match us, ws, l1, l2 with
  | [], [x0, x1], _, _ => exact .of_pure rfl
theorem ok_brings {f : Addr} {fd : FuncData} (F : Fun K "brings" "brings" s_brings f fd) (FH : Fun K "need_house" "need_house" sNeedHouse fH fdH) (gH : mg "need_house" = some (.ref fH)) (bH : Binds K fdH ["house"] []) (GH : FnOk P w K mg base (L2.CX P w) 4 fH fdH ["house"] (spNeed Ch)) :
    FnOk P w K mg base (L2.CX P w) 5 f fd ["house", "plan"] (spBad Ch 2) := ok_bad 2 F sc_brings rfl rfl (by first | exact Or.inl rfl | exact Or.inr (Or.inl rfl) | exact Or.inr (Or.inr rfl)) rfl rfl FH gH bH GH
abbrev s_bell_of : Stmt := topS 100
theorem sc_bell_of : FnScope ["house", "plan"] ["house", "plan"] (defScope s_bell_of) := ⟨rfl, rfl, rfl, by decide +kernel, rfl, by decide +kernel, by decide +kernel⟩
theorem b_bell_of {f : Addr} {fd : FuncData} (F : Fun K "bell_of" "bell_of" s_bell_of f fd) : Binds K fd ["house", "plan"] [] := F.binds fun _ _ _ _ _ _ us hl => match us, hl with | [_, _], _ => rfl
theorem kb_bell_of {f : Addr} {fd : FuncData} (F : Fun K "bell_of" "bell_of" s_bell_of f fd) : KBn K fd ["house", "plan"] 0 ["plan", "house"] (fun _ ws => ws.reverse) (fun _ ws => ws.reverse) := by
  obtain ⟨oc, od, kV, doc, pm, an, cdv, ct, osl, rfl, lk, hcd⟩ := F.ex
  refine ⟨fun s us ws X l1 l2 => BindsTo.of_looks fun M => ?_, fun {vs us zs ws} r1 r2 => vals_rev r2⟩
  match us, ws, l1, l2 with
  | [], [x0, x1], _, _ => exact .of_pure rfl
theorem ok_bell_of {f : Addr} {fd : FuncData} (F : Fun K "bell_of" "bell_of" s_bell_of f fd) (FH : Fun K "need_house" "need_house" sNeedHouse fH fdH) (gH : mg "need_house" = some (.ref fH)) (bH : Binds K fdH ["house"] []) (GH : FnOk P w K mg base (L2.CX P w) 4 fH fdH ["house"] (spNeed Ch)) :
    FnOk P w K mg base (L2.CX P w) 5 f fd ["house", "plan"] (spBad Ch 2) := ok_bad 2 F sc_bell_of rfl rfl (by first | exact Or.inl rfl | exact Or.inr (Or.inl rfl) | exact Or.inr (Or.inr rfl)) rfl rfl FH gH bH GH
abbrev s_on_roads : Stmt := topS 101
theorem sc_on_roads : FnScope ["house", "plan", "turn"] ["house", "plan", "turn"] (defScope s_on_roads) := ⟨rfl, rfl, rfl, by decide +kernel, rfl, by decide +kernel, by decide +kernel⟩
theorem b_on_roads {f : Addr} {fd : FuncData} (F : Fun K "on_roads" "on_roads" s_on_roads f fd) : Binds K fd ["house", "plan", "turn"] [] := F.binds fun _ _ _ _ _ _ us hl => match us, hl with | [_, _, _], _ => rfl
theorem kb_on_roads {f : Addr} {fd : FuncData} (F : Fun K "on_roads" "on_roads" s_on_roads f fd) : KBn K fd ["house", "plan", "turn"] 0 ["turn", "plan", "house"] (fun _ ws => ws.reverse) (fun _ ws => ws.reverse) := by
  obtain ⟨oc, od, kV, doc, pm, an, cdv, ct, osl, rfl, lk, hcd⟩ := F.ex
  refine ⟨fun s us ws X l1 l2 => BindsTo.of_looks fun M => ?_, fun {vs us zs ws} r1 r2 => vals_rev r2⟩
  match us, ws, l1, l2 with
  | [], [x0, x1, x2], _, _ => exact .of_pure rfl
theorem ok_on_roads {f : Addr} {fd : FuncData} (F : Fun K "on_roads" "on_roads" s_on_roads f fd) (FH : Fun K "need_house" "need_house" sNeedHouse fH fdH) (gH : mg "need_house" = some (.ref fH)) (bH : Binds K fdH ["house"] []) (GH : FnOk P w K mg base (L2.CX P w) 4 fH fdH ["house"] (spNeed Ch)) :
    FnOk P w K mg base (L2.CX P w) 5 f fd ["house", "plan", "turn"] (spBad Ch 3) := ok_bad 3 F sc_on_roads rfl rfl (by first | exact Or.inl rfl | exact Or.inr (Or.inl rfl) | exact Or.inr (Or.inr rfl)) rfl rfl FH gH bH GH
abbrev s_least_bell : Stmt := topS 125
theorem sc_least_bell : FnScope ["house", "wishes"] ["house", "wishes"] (defScope s_least_bell) := ⟨rfl, rfl, rfl, by decide +kernel, rfl, by decide +kernel, by decide +kernel⟩
theorem b_least_bell {f : Addr} {fd : FuncData} (F : Fun K "least_bell" "least_bell" s_least_bell f fd) : Binds K fd ["house", "wishes"] [] := F.binds fun _ _ _ _ _ _ us hl => match us, hl with | [_, _], _ => rfl
theorem kb_least_bell {f : Addr} {fd : FuncData} (F : Fun K "least_bell" "least_bell" s_least_bell f fd) : KBn K fd ["house", "wishes"] 0 ["wishes", "house"] (fun _ ws => ws.reverse) (fun _ ws => ws.reverse) := by
  obtain ⟨oc, od, kV, doc, pm, an, cdv, ct, osl, rfl, lk, hcd⟩ := F.ex
  refine ⟨fun s us ws X l1 l2 => BindsTo.of_looks fun M => ?_, fun {vs us zs ws} r1 r2 => vals_rev r2⟩
  match us, ws, l1, l2 with
  | [], [x0, x1], _, _ => exact .of_pure rfl
theorem ok_least_bell {f : Addr} {fd : FuncData} (F : Fun K "least_bell" "least_bell" s_least_bell f fd) (FH : Fun K "need_house" "need_house" sNeedHouse fH fdH) (gH : mg "need_house" = some (.ref fH)) (bH : Binds K fdH ["house"] []) (GH : FnOk P w K mg base (L2.CX P w) 4 fH fdH ["house"] (spNeed Ch)) :
    FnOk P w K mg base (L2.CX P w) 5 f fd ["house", "wishes"] (spBad Ch 2) := ok_bad 2 F sc_least_bell rfl rfl (by first | exact Or.inl rfl | exact Or.inr (Or.inl rfl) | exact Or.inr (Or.inr rfl)) rfl rfl FH gH bH GH
abbrev s_never : Stmt := topS 126
theorem sc_never : FnScope ["house", "wishes"] ["house", "wishes"] (defScope s_never) := ⟨rfl, rfl, rfl, by decide +kernel, rfl, by decide +kernel, by decide +kernel⟩
theorem b_never {f : Addr} {fd : FuncData} (F : Fun K "never" "never" s_never f fd) : Binds K fd ["house", "wishes"] [] := F.binds fun _ _ _ _ _ _ us hl => match us, hl with | [_, _], _ => rfl
theorem kb_never {f : Addr} {fd : FuncData} (F : Fun K "never" "never" s_never f fd) : KBn K fd ["house", "wishes"] 0 ["wishes", "house"] (fun _ ws => ws.reverse) (fun _ ws => ws.reverse) := by
  obtain ⟨oc, od, kV, doc, pm, an, cdv, ct, osl, rfl, lk, hcd⟩ := F.ex
  refine ⟨fun s us ws X l1 l2 => BindsTo.of_looks fun M => ?_, fun {vs us zs ws} r1 r2 => vals_rev r2⟩
  match us, ws, l1, l2 with
  | [], [x0, x1], _, _ => exact .of_pure rfl
theorem ok_never {f : Addr} {fd : FuncData} (F : Fun K "never" "never" s_never f fd) (FH : Fun K "need_house" "need_house" sNeedHouse fH fdH) (gH : mg "need_house" = some (.ref fH)) (bH : Binds K fdH ["house"] []) (GH : FnOk P w K mg base (L2.CX P w) 4 fH fdH ["house"] (spNeed Ch)) :
    FnOk P w K mg base (L2.CX P w) 5 f fd ["house", "wishes"] (spBad Ch 2) := ok_bad 2 F sc_never rfl rfl (by first | exact Or.inl rfl | exact Or.inr (Or.inl rfl) | exact Or.inr (Or.inr rfl)) rfl rfl FH gH bH GH
abbrev s_rising : Stmt := topS 127
theorem sc_rising : FnScope ["house", "wishes"] ["house", "wishes"] (defScope s_rising) := ⟨rfl, rfl, rfl, by decide +kernel, rfl, by decide +kernel, by decide +kernel⟩
theorem b_rising {f : Addr} {fd : FuncData} (F : Fun K "rising" "rising" s_rising f fd) : Binds K fd ["house", "wishes"] [] := F.binds fun _ _ _ _ _ _ us hl => match us, hl with | [_, _], _ => rfl
theorem kb_rising {f : Addr} {fd : FuncData} (F : Fun K "rising" "rising" s_rising f fd) : KBn K fd ["house", "wishes"] 0 ["wishes", "house"] (fun _ ws => ws.reverse) (fun _ ws => ws.reverse) := by
  obtain ⟨oc, od, kV, doc, pm, an, cdv, ct, osl, rfl, lk, hcd⟩ := F.ex
  refine ⟨fun s us ws X l1 l2 => BindsTo.of_looks fun M => ?_, fun {vs us zs ws} r1 r2 => vals_rev r2⟩
  match us, ws, l1, l2 with
  | [], [x0, x1], _, _ => exact .of_pure rfl
theorem ok_rising {f : Addr} {fd : FuncData} (F : Fun K "rising" "rising" s_rising f fd) (FH : Fun K "need_house" "need_house" sNeedHouse fH fdH) (gH : mg "need_house" = some (.ref fH)) (bH : Binds K fdH ["house"] []) (GH : FnOk P w K mg base (L2.CX P w) 4 fH fdH ["house"] (spNeed Ch)) :
    FnOk P w K mg base (L2.CX P w) 5 f fd ["house", "wishes"] (spBad Ch 2) := ok_bad 2 F sc_rising rfl rfl (by first | exact Or.inl rfl | exact Or.inr (Or.inl rfl) | exact Or.inr (Or.inr rfl)) rfl rfl FH gH bH GH
abbrev s_bell_with : Stmt := topS 128
theorem sc_bell_with : FnScope ["house", "wishes", "door", "other"] ["house", "wishes", "door", "other"] (defScope s_bell_with) := ⟨rfl, rfl, rfl, by decide +kernel, rfl, by decide +kernel, by decide +kernel⟩
theorem b_bell_with {f : Addr} {fd : FuncData} (F : Fun K "bell_with" "bell_with" s_bell_with f fd) : Binds K fd ["house", "wishes", "door", "other"] [] := F.binds fun _ _ _ _ _ _ us hl => match us, hl with | [_, _, _, _], _ => rfl
theorem kb_bell_with {f : Addr} {fd : FuncData} (F : Fun K "bell_with" "bell_with" s_bell_with f fd) : KBn K fd ["house", "wishes", "door", "other"] 0 ["other", "door", "wishes", "house"] (fun _ ws => ws.reverse) (fun _ ws => ws.reverse) := by
  obtain ⟨oc, od, kV, doc, pm, an, cdv, ct, osl, rfl, lk, hcd⟩ := F.ex
  refine ⟨fun s us ws X l1 l2 => BindsTo.of_looks fun M => ?_, fun {vs us zs ws} r1 r2 => vals_rev r2⟩
  match us, ws, l1, l2 with
  | [], [x0, x1, x2, x3], _, _ => exact .of_pure rfl
theorem ok_bell_with {f : Addr} {fd : FuncData} (F : Fun K "bell_with" "bell_with" s_bell_with f fd) (FH : Fun K "need_house" "need_house" sNeedHouse fH fdH) (gH : mg "need_house" = some (.ref fH)) (bH : Binds K fdH ["house"] []) (GH : FnOk P w K mg base (L2.CX P w) 4 fH fdH ["house"] (spNeed Ch)) :
    FnOk P w K mg base (L2.CX P w) 5 f fd ["house", "wishes", "door", "other"] (spBad Ch 4) := ok_bad 4 F sc_bell_with rfl rfl (by first | exact Or.inl rfl | exact Or.inr (Or.inl rfl) | exact Or.inr (Or.inr rfl)) rfl rfl FH gH bH GH
abbrev s_further : Stmt := topS 140
theorem sc_further : FnScope ["house", "wishes", "bell", "up", "down"] ["house", "wishes", "bell", "up", "down"] (defScope s_further) := ⟨rfl, rfl, rfl, by decide +kernel, rfl, by decide +kernel, by decide +kernel⟩
theorem b_further {f : Addr} {fd : FuncData} (F : Fun K "further" "further" s_further f fd) : Binds K fd ["house", "wishes", "bell", "up", "down"] [] := F.binds fun _ _ _ _ _ _ us hl => match us, hl with | [_, _, _, _, _], _ => rfl
theorem kb_further {f : Addr} {fd : FuncData} (F : Fun K "further" "further" s_further f fd) : KBn K fd ["house", "wishes", "bell", "up", "down"] 0 ["down", "up", "bell", "wishes", "house"] (fun _ ws => ws.reverse) (fun _ ws => ws.reverse) := by
  obtain ⟨oc, od, kV, doc, pm, an, cdv, ct, osl, rfl, lk, hcd⟩ := F.ex
  refine ⟨fun s us ws X l1 l2 => BindsTo.of_looks fun M => ?_, fun {vs us zs ws} r1 r2 => vals_rev r2⟩
  match us, ws, l1, l2 with
  | [], [x0, x1, x2, x3, x4], _, _ => exact .of_pure rfl
theorem ok_further {f : Addr} {fd : FuncData} (F : Fun K "further" "further" s_further f fd) (FH : Fun K "need_house" "need_house" sNeedHouse fH fdH) (gH : mg "need_house" = some (.ref fH)) (bH : Binds K fdH ["house"] []) (GH : FnOk P w K mg base (L2.CX P w) 4 fH fdH ["house"] (spNeed Ch)) :
    FnOk P w K mg base (L2.CX P w) 5 f fd ["house", "wishes", "bell", "up", "down"] (spBad Ch 5) := ok_bad 5 F sc_further rfl rfl (by first | exact Or.inl rfl | exact Or.inr (Or.inl rfl) | exact Or.inr (Or.inr rfl)) rfl rfl FH gH bH GH
abbrev s_tight : Stmt := topS 143
theorem sc_tight : FnScope ["house", "wishes", "bell"] ["house", "wishes", "bell"] (defScope s_tight) := ⟨rfl, rfl, rfl, by decide +kernel, rfl, by decide +kernel, by decide +kernel⟩
theorem b_tight {f : Addr} {fd : FuncData} (F : Fun K "tight" "tight" s_tight f fd) : Binds K fd ["house", "wishes", "bell"] [] := F.binds fun _ _ _ _ _ _ us hl => match us, hl with | [_, _, _], _ => rfl
theorem kb_tight {f : Addr} {fd : FuncData} (F : Fun K "tight" "tight" s_tight f fd) : KBn K fd ["house", "wishes", "bell"] 0 ["bell", "wishes", "house"] (fun _ ws => ws.reverse) (fun _ ws => ws.reverse) := by
  obtain ⟨oc, od, kV, doc, pm, an, cdv, ct, osl, rfl, lk, hcd⟩ := F.ex
  refine ⟨fun s us ws X l1 l2 => BindsTo.of_looks fun M => ?_, fun {vs us zs ws} r1 r2 => vals_rev r2⟩
  match us, ws, l1, l2 with
  | [], [x0, x1, x2], _, _ => exact .of_pure rfl
theorem ok_tight {f : Addr} {fd : FuncData} (F : Fun K "tight" "tight" s_tight f fd) (FH : Fun K "need_house" "need_house" sNeedHouse fH fdH) (gH : mg "need_house" = some (.ref fH)) (bH : Binds K fdH ["house"] []) (GH : FnOk P w K mg base (L2.CX P w) 4 fH fdH ["house"] (spNeed Ch)) :
    FnOk P w K mg base (L2.CX P w) 5 f fd ["house", "wishes", "bell"] (spBad Ch 3) := ok_bad 3 F sc_tight rfl rfl (by first | exact Or.inl rfl | exact Or.inr (Or.inl rfl) | exact Or.inr (Or.inr rfl)) rfl rfl FH gH bH GH
abbrev s_bound : Stmt := topS 144
theorem sc_bound : FnScope ["house", "wishes", "bell", "door"] ["house", "wishes", "bell", "door"] (defScope s_bound) := ⟨rfl, rfl, rfl, by decide +kernel, rfl, by decide +kernel, by decide +kernel⟩
theorem b_bound {f : Addr} {fd : FuncData} (F : Fun K "bound" "bound" s_bound f fd) : Binds K fd ["house", "wishes", "bell", "door"] [] := F.binds fun _ _ _ _ _ _ us hl => match us, hl with | [_, _, _, _], _ => rfl
theorem kb_bound {f : Addr} {fd : FuncData} (F : Fun K "bound" "bound" s_bound f fd) : KBn K fd ["house", "wishes", "bell", "door"] 0 ["door", "bell", "wishes", "house"] (fun _ ws => ws.reverse) (fun _ ws => ws.reverse) := by
  obtain ⟨oc, od, kV, doc, pm, an, cdv, ct, osl, rfl, lk, hcd⟩ := F.ex
  refine ⟨fun s us ws X l1 l2 => BindsTo.of_looks fun M => ?_, fun {vs us zs ws} r1 r2 => vals_rev r2⟩
  match us, ws, l1, l2 with
  | [], [x0, x1, x2, x3], _, _ => exact .of_pure rfl
theorem ok_bound {f : Addr} {fd : FuncData} (F : Fun K "bound" "bound" s_bound f fd) (FH : Fun K "need_house" "need_house" sNeedHouse fH fdH) (gH : mg "need_house" = some (.ref fH)) (bH : Binds K fdH ["house"] []) (GH : FnOk P w K mg base (L2.CX P w) 4 fH fdH ["house"] (spNeed Ch)) :
    FnOk P w K mg base (L2.CX P w) 5 f fd ["house", "wishes", "bell", "door"] (spBad Ch 4) := ok_bad 4 F sc_bound rfl rfl (by first | exact Or.inl rfl | exact Or.inr (Or.inl rfl) | exact Or.inr (Or.inr rfl)) rfl rfl FH gH bH GH
abbrev s_times : Stmt := topS 145
theorem sc_times : FnScope ["house", "wishes", "bell"] ["house", "wishes", "bell"] (defScope s_times) := ⟨rfl, rfl, rfl, by decide +kernel, rfl, by decide +kernel, by decide +kernel⟩
theorem b_times {f : Addr} {fd : FuncData} (F : Fun K "times" "times" s_times f fd) : Binds K fd ["house", "wishes", "bell"] [] := F.binds fun _ _ _ _ _ _ us hl => match us, hl with | [_, _, _], _ => rfl
theorem kb_times {f : Addr} {fd : FuncData} (F : Fun K "times" "times" s_times f fd) : KBn K fd ["house", "wishes", "bell"] 0 ["bell", "wishes", "house"] (fun _ ws => ws.reverse) (fun _ ws => ws.reverse) := by
  obtain ⟨oc, od, kV, doc, pm, an, cdv, ct, osl, rfl, lk, hcd⟩ := F.ex
  refine ⟨fun s us ws X l1 l2 => BindsTo.of_looks fun M => ?_, fun {vs us zs ws} r1 r2 => vals_rev r2⟩
  match us, ws, l1, l2 with
  | [], [x0, x1, x2], _, _ => exact .of_pure rfl
theorem ok_times {f : Addr} {fd : FuncData} (F : Fun K "times" "times" s_times f fd) (FH : Fun K "need_house" "need_house" sNeedHouse fH fdH) (gH : mg "need_house" = some (.ref fH)) (bH : Binds K fdH ["house"] []) (GH : FnOk P w K mg base (L2.CX P w) 4 fH fdH ["house"] (spNeed Ch)) :
    FnOk P w K mg base (L2.CX P w) 5 f fd ["house", "wishes", "bell"] (spBad Ch 3) := ok_bad 3 F sc_times rfl rfl (by first | exact Or.inl rfl | exact Or.inr (Or.inl rfl) | exact Or.inr (Or.inr rfl)) rfl rfl FH gH bH GH
abbrev s_part_for : Stmt := topS 174
theorem sc_part_for : FnScope ["house", "numbers", "bell"] ["house", "numbers", "bell"] (defScope s_part_for) := ⟨rfl, rfl, rfl, by decide +kernel, rfl, by decide +kernel, by decide +kernel⟩
theorem b_part_for {f : Addr} {fd : FuncData} (F : Fun K "part_for" "part_for" s_part_for f fd) : Binds K fd ["house", "numbers", "bell"] [] := F.binds fun _ _ _ _ _ _ us hl => match us, hl with | [_, _, _], _ => rfl
theorem kb_part_for {f : Addr} {fd : FuncData} (F : Fun K "part_for" "part_for" s_part_for f fd) : KBn K fd ["house", "numbers", "bell"] 0 ["bell", "numbers", "house"] (fun _ ws => ws.reverse) (fun _ ws => ws.reverse) := by
  obtain ⟨oc, od, kV, doc, pm, an, cdv, ct, osl, rfl, lk, hcd⟩ := F.ex
  refine ⟨fun s us ws X l1 l2 => BindsTo.of_looks fun M => ?_, fun {vs us zs ws} r1 r2 => vals_rev r2⟩
  match us, ws, l1, l2 with
  | [], [x0, x1, x2], _, _ => exact .of_pure rfl
theorem ok_part_for {f : Addr} {fd : FuncData} (F : Fun K "part_for" "part_for" s_part_for f fd) (FH : Fun K "need_house" "need_house" sNeedHouse fH fdH) (gH : mg "need_house" = some (.ref fH)) (bH : Binds K fdH ["house"] []) (GH : FnOk P w K mg base (L2.CX P w) 4 fH fdH ["house"] (spNeed Ch)) :
    FnOk P w K mg base (L2.CX P w) 5 f fd ["house", "numbers", "bell"] (spBad Ch 3) := ok_bad 3 F sc_part_for rfl rfl (by first | exact Or.inl rfl | exact Or.inr (Or.inl rfl) | exact Or.inr (Or.inr rfl)) rfl rfl FH gH bH GH
abbrev s_part_lot : Stmt := topS 176
theorem sc_part_lot : FnScope ["house", "numbers", "bell"] ["house", "numbers", "bell"] (defScope s_part_lot) := ⟨rfl, rfl, rfl, by decide +kernel, rfl, by decide +kernel, by decide +kernel⟩
theorem b_part_lot {f : Addr} {fd : FuncData} (F : Fun K "part_lot" "part_lot" s_part_lot f fd) : Binds K fd ["house", "numbers", "bell"] [] := F.binds fun _ _ _ _ _ _ us hl => match us, hl with | [_, _, _], _ => rfl
theorem kb_part_lot {f : Addr} {fd : FuncData} (F : Fun K "part_lot" "part_lot" s_part_lot f fd) : KBn K fd ["house", "numbers", "bell"] 0 ["bell", "numbers", "house"] (fun _ ws => ws.reverse) (fun _ ws => ws.reverse) := by
  obtain ⟨oc, od, kV, doc, pm, an, cdv, ct, osl, rfl, lk, hcd⟩ := F.ex
  refine ⟨fun s us ws X l1 l2 => BindsTo.of_looks fun M => ?_, fun {vs us zs ws} r1 r2 => vals_rev r2⟩
  match us, ws, l1, l2 with
  | [], [x0, x1, x2], _, _ => exact .of_pure rfl
theorem ok_part_lot {f : Addr} {fd : FuncData} (F : Fun K "part_lot" "part_lot" s_part_lot f fd) (FH : Fun K "need_house" "need_house" sNeedHouse fH fdH) (gH : mg "need_house" = some (.ref fH)) (bH : Binds K fdH ["house"] []) (GH : FnOk P w K mg base (L2.CX P w) 4 fH fdH ["house"] (spNeed Ch)) :
    FnOk P w K mg base (L2.CX P w) 5 f fd ["house", "numbers", "bell"] (spBad Ch 3) := ok_bad 3 F sc_part_lot rfl rfl (by first | exact Or.inl rfl | exact Or.inr (Or.inl rfl) | exact Or.inr (Or.inr rfl)) rfl rfl FH gH bH GH
abbrev s_mix_for : Stmt := topS 166
theorem sc_mix_for : FnScope ["house", "wishes", "bell"] ["house", "wishes", "bell"] (defScope s_mix_for) := ⟨rfl, rfl, rfl, by decide +kernel, rfl, by decide +kernel, by decide +kernel⟩
theorem b_mix_for {f : Addr} {fd : FuncData} (F : Fun K "mix_for" "mix_for" s_mix_for f fd) : Binds K fd ["house", "wishes", "bell"] [] := F.binds fun _ _ _ _ _ _ us hl => match us, hl with | [_, _, _], _ => rfl
theorem kb_mix_for {f : Addr} {fd : FuncData} (F : Fun K "mix_for" "mix_for" s_mix_for f fd) : KBn K fd ["house", "wishes", "bell"] 0 ["bell", "wishes", "house"] (fun _ ws => ws.reverse) (fun _ ws => ws.reverse) := by
  obtain ⟨oc, od, kV, doc, pm, an, cdv, ct, osl, rfl, lk, hcd⟩ := F.ex
  refine ⟨fun s us ws X l1 l2 => BindsTo.of_looks fun M => ?_, fun {vs us zs ws} r1 r2 => vals_rev r2⟩
  match us, ws, l1, l2 with
  | [], [x0, x1, x2], _, _ => exact .of_pure rfl
theorem ok_mix_for {f : Addr} {fd : FuncData} (F : Fun K "mix_for" "mix_for" s_mix_for f fd) (FH : Fun K "need_house" "need_house" sNeedHouse fH fdH) (gH : mg "need_house" = some (.ref fH)) (bH : Binds K fdH ["house"] []) (GH : FnOk P w K mg base (L2.CX P w) 4 fH fdH ["house"] (spNeed Ch)) :
    FnOk P w K mg base (L2.CX P w) 5 f fd ["house", "wishes", "bell"] (spBad Ch 3) := ok_bad 3 F sc_mix_for rfl rfl (by first | exact Or.inl rfl | exact Or.inr (Or.inl rfl) | exact Or.inr (Or.inr rfl)) rfl rfl FH gH bH GH
abbrev s_is_mix_for : Stmt := topS 170
theorem sc_is_mix_for : FnScope ["house", "wishes", "bell", "thing"] ["house", "wishes", "bell", "thing"] (defScope s_is_mix_for) := ⟨rfl, rfl, rfl, by decide +kernel, rfl, by decide +kernel, by decide +kernel⟩
theorem b_is_mix_for {f : Addr} {fd : FuncData} (F : Fun K "is_mix_for" "is_mix_for" s_is_mix_for f fd) : Binds K fd ["house", "wishes", "bell", "thing"] [] := F.binds fun _ _ _ _ _ _ us hl => match us, hl with | [_, _, _, _], _ => rfl
theorem kb_is_mix_for {f : Addr} {fd : FuncData} (F : Fun K "is_mix_for" "is_mix_for" s_is_mix_for f fd) : KBn K fd ["house", "wishes", "bell", "thing"] 0 ["thing", "bell", "wishes", "house"] (fun _ ws => ws.reverse) (fun _ ws => ws.reverse) := by
  obtain ⟨oc, od, kV, doc, pm, an, cdv, ct, osl, rfl, lk, hcd⟩ := F.ex
  refine ⟨fun s us ws X l1 l2 => BindsTo.of_looks fun M => ?_, fun {vs us zs ws} r1 r2 => vals_rev r2⟩
  match us, ws, l1, l2 with
  | [], [x0, x1, x2, x3], _, _ => exact .of_pure rfl
theorem ok_is_mix_for {f : Addr} {fd : FuncData} (F : Fun K "is_mix_for" "is_mix_for" s_is_mix_for f fd) (FH : Fun K "need_house" "need_house" sNeedHouse fH fdH) (gH : mg "need_house" = some (.ref fH)) (bH : Binds K fdH ["house"] []) (GH : FnOk P w K mg base (L2.CX P w) 4 fH fdH ["house"] (spNeed Ch)) :
    FnOk P w K mg base (L2.CX P w) 5 f fd ["house", "wishes", "bell", "thing"] (spBad Ch 4) := ok_bad 4 F sc_is_mix_for rfl rfl (by first | exact Or.inl rfl | exact Or.inr (Or.inl rfl) | exact Or.inr (Or.inr rfl)) rfl rfl FH gH bH GH
abbrev s_dearest_order : Stmt := topS 133
theorem sc_dearest_order : FnScope ["house", "bell", "prices"] ["house", "bell", "prices"] (defScope s_dearest_order) := ⟨rfl, rfl, rfl, by decide +kernel, rfl, by decide +kernel, by decide +kernel⟩
theorem b_dearest_order {f : Addr} {fd : FuncData} (F : Fun K "dearest_order" "dearest_order" s_dearest_order f fd) : Binds K fd ["house", "bell", "prices"] [] := F.binds fun _ _ _ _ _ _ us hl => match us, hl with | [_, _, _], _ => rfl
theorem kb_dearest_order {f : Addr} {fd : FuncData} (F : Fun K "dearest_order" "dearest_order" s_dearest_order f fd) : KBn K fd ["house", "bell", "prices"] 0 ["prices", "bell", "house"] (fun _ ws => ws.reverse) (fun _ ws => ws.reverse) := by
  obtain ⟨oc, od, kV, doc, pm, an, cdv, ct, osl, rfl, lk, hcd⟩ := F.ex
  refine ⟨fun s us ws X l1 l2 => BindsTo.of_looks fun M => ?_, fun {vs us zs ws} r1 r2 => vals_rev r2⟩
  match us, ws, l1, l2 with
  | [], [x0, x1, x2], _, _ => exact .of_pure rfl
theorem ok_dearest_order {f : Addr} {fd : FuncData} (F : Fun K "dearest_order" "dearest_order" s_dearest_order f fd) (FH : Fun K "need_house" "need_house" sNeedHouse fH fdH) (gH : mg "need_house" = some (.ref fH)) (bH : Binds K fdH ["house"] []) (GH : FnOk P w K mg base (L2.CX P w) 4 fH fdH ["house"] (spNeed Ch)) :
    FnOk P w K mg base (L2.CX P w) 5 f fd ["house", "bell", "prices"] (spBad Ch 3) := ok_bad 3 F sc_dearest_order rfl rfl (by first | exact Or.inl rfl | exact Or.inr (Or.inl rfl) | exact Or.inr (Or.inr rfl)) rfl rfl FH gH bH GH
abbrev s_turned : Stmt := topS 179
theorem sc_turned : FnScope ["house"] ["house"] (defScope s_turned) := ⟨rfl, rfl, rfl, by decide +kernel, rfl, by decide +kernel, by decide +kernel⟩
theorem b_turned {f : Addr} {fd : FuncData} (F : Fun K "turned" "turned" s_turned f fd) : Binds K fd ["house"] [] := F.binds fun _ _ _ _ _ _ us hl => match us, hl with | [_], _ => rfl
theorem kb_turned {f : Addr} {fd : FuncData} (F : Fun K "turned" "turned" s_turned f fd) : KBn K fd ["house"] 0 ["house"] (fun _ ws => ws.reverse) (fun _ ws => ws.reverse) := by
  obtain ⟨oc, od, kV, doc, pm, an, cdv, ct, osl, rfl, lk, hcd⟩ := F.ex
  refine ⟨fun s us ws X l1 l2 => BindsTo.of_looks fun M => ?_, fun {vs us zs ws} r1 r2 => vals_rev r2⟩
  match us, ws, l1, l2 with
  | [], [x0], _, _ => exact .of_pure rfl
theorem ok_turned {f : Addr} {fd : FuncData} (F : Fun K "turned" "turned" s_turned f fd) (FH : Fun K "need_house" "need_house" sNeedHouse fH fdH) (gH : mg "need_house" = some (.ref fH)) (bH : Binds K fdH ["house"] []) (GH : FnOk P w K mg base (L2.CX P w) 4 fH fdH ["house"] (spNeed Ch)) :
    FnOk P w K mg base (L2.CX P w) 5 f fd ["house"] (spBad Ch 1) := ok_bad 1 F sc_turned rfl rfl (by first | exact Or.inl rfl | exact Or.inr (Or.inl rfl) | exact Or.inr (Or.inr rfl)) rfl rfl FH gH bH GH
abbrev s_turned_plan : Stmt := topS 180
theorem sc_turned_plan : FnScope ["house", "plan", "bell"] ["house", "plan", "bell"] (defScope s_turned_plan) := ⟨rfl, rfl, rfl, by decide +kernel, rfl, by decide +kernel, by decide +kernel⟩
theorem b_turned_plan {f : Addr} {fd : FuncData} (F : Fun K "turned_plan" "turned_plan" s_turned_plan f fd) : Binds K fd ["house", "plan", "bell"] [] := F.binds fun _ _ _ _ _ _ us hl => match us, hl with | [_, _, _], _ => rfl
theorem kb_turned_plan {f : Addr} {fd : FuncData} (F : Fun K "turned_plan" "turned_plan" s_turned_plan f fd) : KBn K fd ["house", "plan", "bell"] 0 ["bell", "plan", "house"] (fun _ ws => ws.reverse) (fun _ ws => ws.reverse) := by
  obtain ⟨oc, od, kV, doc, pm, an, cdv, ct, osl, rfl, lk, hcd⟩ := F.ex
  refine ⟨fun s us ws X l1 l2 => BindsTo.of_looks fun M => ?_, fun {vs us zs ws} r1 r2 => vals_rev r2⟩
  match us, ws, l1, l2 with
  | [], [x0, x1, x2], _, _ => exact .of_pure rfl
theorem ok_turned_plan {f : Addr} {fd : FuncData} (F : Fun K "turned_plan" "turned_plan" s_turned_plan f fd) (FH : Fun K "need_house" "need_house" sNeedHouse fH fdH) (gH : mg "need_house" = some (.ref fH)) (bH : Binds K fdH ["house"] []) (GH : FnOk P w K mg base (L2.CX P w) 4 fH fdH ["house"] (spNeed Ch)) :
    FnOk P w K mg base (L2.CX P w) 5 f fd ["house", "plan", "bell"] (spBad Ch 3) := ok_bad 3 F sc_turned_plan rfl rfl (by first | exact Or.inl rfl | exact Or.inr (Or.inl rfl) | exact Or.inr (Or.inr rfl)) rfl rfl FH gH bH GH
abbrev s_first_unlike : Stmt := topS 121
theorem sc_first_unlike : FnScope ["house", "other"] ["house", "other"] (defScope s_first_unlike) := ⟨rfl, rfl, rfl, by decide +kernel, rfl, by decide +kernel, by decide +kernel⟩
theorem b_first_unlike {f : Addr} {fd : FuncData} (F : Fun K "first_unlike" "first_unlike" s_first_unlike f fd) : Binds K fd ["house", "other"] [] := F.binds fun _ _ _ _ _ _ us hl => match us, hl with | [_, _], _ => rfl
theorem kb_first_unlike {f : Addr} {fd : FuncData} (F : Fun K "first_unlike" "first_unlike" s_first_unlike f fd) : KBn K fd ["house", "other"] 0 ["other", "house"] (fun _ ws => ws.reverse) (fun _ ws => ws.reverse) := by
  obtain ⟨oc, od, kV, doc, pm, an, cdv, ct, osl, rfl, lk, hcd⟩ := F.ex
  refine ⟨fun s us ws X l1 l2 => BindsTo.of_looks fun M => ?_, fun {vs us zs ws} r1 r2 => vals_rev r2⟩
  match us, ws, l1, l2 with
  | [], [x0, x1], _, _ => exact .of_pure rfl
theorem ok_first_unlike {f : Addr} {fd : FuncData} (F : Fun K "first_unlike" "first_unlike" s_first_unlike f fd) (FH : Fun K "need_house" "need_house" sNeedHouse fH fdH) (gH : mg "need_house" = some (.ref fH)) (bH : Binds K fdH ["house"] []) (GH : FnOk P w K mg base (L2.CX P w) 4 fH fdH ["house"] (spNeed Ch)) :
    FnOk P w K mg base (L2.CX P w) 5 f fd ["house", "other"] (spBad Ch 2) := ok_bad 2 F sc_first_unlike rfl rfl (by first | exact Or.inl rfl | exact Or.inr (Or.inl rfl) | exact Or.inr (Or.inr rfl)) rfl rfl FH gH bH GH
abbrev s_lot_for : Stmt := topS 106
theorem sc_lot_for : FnScope ["house", "wishes", "bell", "lots"] ["house", "wishes", "bell"] (defScope s_lot_for) := ⟨rfl, rfl, rfl, by decide +kernel, rfl, by decide +kernel, by decide +kernel⟩
theorem b_lot_for {f : Addr} {fd : FuncData} (F : Fun K "lot_for" "lot_for" s_lot_for f fd) : Binds K fd ["house", "wishes", "bell"] [] := F.binds fun _ _ _ _ _ _ us hl => match us, hl with | [_, _, _], _ => rfl
theorem kb_lot_for {f : Addr} {fd : FuncData} (F : Fun K "lot_for" "lot_for" s_lot_for f fd) : KBn K fd ["house", "wishes", "bell"] 0 ["bell", "wishes", "house"] (fun _ ws => ws.reverse) (fun _ ws => ws.reverse) := by
  obtain ⟨oc, od, kV, doc, pm, an, cdv, ct, osl, rfl, lk, hcd⟩ := F.ex
  refine ⟨fun s us ws X l1 l2 => BindsTo.of_looks fun M => ?_, fun {vs us zs ws} r1 r2 => vals_rev r2⟩
  match us, ws, l1, l2 with
  | [], [x0, x1, x2], _, _ => exact .of_pure rfl
theorem ok_lot_for {f fG : Addr} {fd fdG : FuncData} (F : Fun K "lot_for" "lot_for" s_lot_for f fd) (gG : mg "lacking" = some (.ref fG)) (kG : PySem.W.keepIn K (.ref fG) = true) (bG : Binds K fdG ["house", "wishes", "bell"] []) (GG : FnOk P w K mg base (L2.CX P w) 5 fG fdG ["house", "wishes", "bell"] (spBad Ch 3)) :
    FnOk P w K mg base (L2.CX P w) 6 f fd ["house", "wishes", "bell"] (spBad Ch 3) := by
  refine F.okX sc_lot_for (fun vs H Q E h => ?_) (fun cdv A outer s H vs Q E hr h => ?_)
  · obtain ⟨v, r, _, hl, _⟩ := h
    exact hl
  · obtain ⟨v, r, rfl, hl, sh, out⟩ := h
    match r, hl with
    | [r1, r2], _ =>
      refine ⟨_, pss_stop (ps_set (i := 3) sc_lot_for.nd rfl (Or.inl rfl) (pe_call GG (hr.mono (by decide)) (by rfl) gG kG bG .nil (passes_call (takes_of rfl rfl rfl rfl) (fun _ _ _ _ h => h)) (pa_cons (pv 0) (pa_cons (pv 1) (pa_cons (pv 2) pa_nil))))), ?_⟩
      exact ⟨_, rfl, _, rfl, _, rfl, v, _, rfl, rfl, sh, out⟩
abbrev s_plan_for : Stmt := topS 162
theorem sc_plan_for : FnScope ["house", "wishes", "bell", "row"] ["house", "wishes", "bell"] (defScope s_plan_for) := ⟨rfl, rfl, rfl, by decide +kernel, rfl, by decide +kernel, by decide +kernel⟩
theorem b_plan_for {f : Addr} {fd : FuncData} (F : Fun K "plan_for" "plan_for" s_plan_for f fd) : Binds K fd ["house", "wishes", "bell"] [] := F.binds fun _ _ _ _ _ _ us hl => match us, hl with | [_, _, _], _ => rfl
theorem kb_plan_for {f : Addr} {fd : FuncData} (F : Fun K "plan_for" "plan_for" s_plan_for f fd) : KBn K fd ["house", "wishes", "bell"] 0 ["bell", "wishes", "house"] (fun _ ws => ws.reverse) (fun _ ws => ws.reverse) := by
  obtain ⟨oc, od, kV, doc, pm, an, cdv, ct, osl, rfl, lk, hcd⟩ := F.ex
  refine ⟨fun s us ws X l1 l2 => BindsTo.of_looks fun M => ?_, fun {vs us zs ws} r1 r2 => vals_rev r2⟩
  match us, ws, l1, l2 with
  | [], [x0, x1, x2], _, _ => exact .of_pure rfl
theorem ok_plan_for {f fG : Addr} {fd fdG : FuncData} (F : Fun K "plan_for" "plan_for" s_plan_for f fd) (gG : mg "row_for" = some (.ref fG)) (kG : PySem.W.keepIn K (.ref fG) = true) (bG : Binds K fdG ["house", "wishes", "bell"] []) (GG : FnOk P w K mg base (L2.CX P w) 5 fG fdG ["house", "wishes", "bell"] (spBad Ch 3)) :
    FnOk P w K mg base (L2.CX P w) 6 f fd ["house", "wishes", "bell"] (spBad Ch 3) := by
  refine F.okX sc_plan_for (fun vs H Q E h => ?_) (fun cdv A outer s H vs Q E hr h => ?_)
  · obtain ⟨v, r, _, hl, _⟩ := h
    exact hl
  · obtain ⟨v, r, rfl, hl, sh, out⟩ := h
    match r, hl with
    | [r1, r2], _ =>
      refine ⟨_, pss_stop (ps_set (i := 3) sc_plan_for.nd rfl (Or.inl rfl) (pe_call GG (hr.mono (by decide)) (by rfl) gG kG bG .nil (passes_call (takes_of rfl rfl rfl rfl) (fun _ _ _ _ h => h)) (pa_cons (pv 0) (pa_cons (pv 1) (pa_cons (pv 2) pa_nil))))), ?_⟩
      exact ⟨_, rfl, _, rfl, _, rfl, v, _, rfl, rfl, sh, out⟩
abbrev s_steady : Stmt := topS 72
theorem sc_steady : FnScope ["house", "lot", "_", "amount"] ["house", "lot"] (defScope s_steady) := ⟨rfl, rfl, rfl, by decide +kernel, rfl, by decide +kernel, by decide +kernel⟩
theorem b_steady {f : Addr} {fd : FuncData} (F : Fun K "steady" "steady" s_steady f fd) : Binds K fd ["house", "lot"] [] := F.binds fun _ _ _ _ _ _ us hl => match us, hl with | [_, _], _ => rfl
theorem kb_steady {f : Addr} {fd : FuncData} (F : Fun K "steady" "steady" s_steady f fd) : KBn K fd ["house", "lot"] 0 ["lot", "house"] (fun _ ws => ws.reverse) (fun _ ws => ws.reverse) := by
  obtain ⟨oc, od, kV, doc, pm, an, cdv, ct, osl, rfl, lk, hcd⟩ := F.ex
  refine ⟨fun s us ws X l1 l2 => BindsTo.of_looks fun M => ?_, fun {vs us zs ws} r1 r2 => vals_rev r2⟩
  match us, ws, l1, l2 with
  | [], [x0, x1], _, _ => exact .of_pure rfl
theorem ok_steady {f fG : Addr} {fd fdG : FuncData} (F : Fun K "steady" "steady" s_steady f fd) (zSum : mg "sum" = none) (gG : mg "levels" = some (.ref fG)) (kG : PySem.W.keepIn K (.ref fG) = true) (bG : Binds K fdG ["house", "lot"] []) (GG : FnOk P w K mg base (L2.CX P w) 5 fG fdG ["house", "lot"] (spBad Ch 2)) :
    FnOk P w K mg base (L2.CX P w) 6 f fd ["house", "lot"] (spBad Ch 2) := by
  refine F.okX sc_steady (fun vs H Q E h => ?_) (fun cdv A outer s H vs Q E hr h => ?_)
  · obtain ⟨v, r, _, hl, _⟩ := h
    exact hl
  · obtain ⟨v, r, rfl, hl, sh, out⟩ := h
    match r, hl with
    | [r1], _ =>
      refine ⟨_, pss_one (ps_ret (pe_callB (cr_sum rfl) (by rfl) zSum (by decide +kernel) (pa_cons (pe_lc (own := [("_", 2), ("amount", 3)]) (g := gTup K 2 (gCons (gName 2) (gCons (gName 3) gNil))) (tt := tYes) rfl sc_steady.nd (pi_list (pe_call GG (hr.mono (by decide)) (by rfl) gG kG bG .nil (passes_call (takes_of rfl rfl rfl rfl) (fun _ _ _ _ h => h)) (pa_cons (pv 0) (pa_cons (pv 1) pa_nil)))) (blkOk_by (N := ["house", "lot", "_", "amount"]) (sc := defScope s_steady) (by decide +kernel)) (fun _ _ _ _ _ => (pg_tup rfl (pgs_cons (pg_name (i := 2) (x := "_") sc_steady.nd rfl (Or.inl rfl)) (pgs_cons (pg_name (i := 3) (x := "amount") sc_steady.nd rfl (Or.inl rfl)) pgs_nil)))) (fun _ _ _ _ _ => pts_nil) (fun _ _ _ _ _ => (pv 3))) pa_nil))), ?_⟩
      exact ⟨_, rfl, _, rfl, v, _, rfl, rfl, sh, out⟩
abbrev s_is_plan : Stmt := topS 91
theorem sc_is_plan : FnScope ["house", "thing"] ["house", "thing"] (defScope s_is_plan) := ⟨rfl, rfl, rfl, by decide +kernel, rfl, by decide +kernel, by decide +kernel⟩
theorem b_is_plan {f : Addr} {fd : FuncData} (F : Fun K "is_plan" "is_plan" s_is_plan f fd) : Binds K fd ["house", "thing"] [] := F.binds fun _ _ _ _ _ _ us hl => match us, hl with | [_, _], _ => rfl
theorem kb_is_plan {f : Addr} {fd : FuncData} (F : Fun K "is_plan" "is_plan" s_is_plan f fd) : KBn K fd ["house", "thing"] 0 ["thing", "house"] (fun _ ws => ws.reverse) (fun _ ws => ws.reverse) := by
  obtain ⟨oc, od, kV, doc, pm, an, cdv, ct, osl, rfl, lk, hcd⟩ := F.ex
  refine ⟨fun s us ws X l1 l2 => BindsTo.of_looks fun M => ?_, fun {vs us zs ws} r1 r2 => vals_rev r2⟩
  match us, ws, l1, l2 with
  | [], [x0, x1], _, _ => exact .of_pure rfl
theorem ok_is_plan {f fG : Addr} {fd fdG : FuncData} (F : Fun K "is_plan" "is_plan" s_is_plan f fd) (gG : mg "plan_fault" = some (.ref fG)) (kG : PySem.W.keepIn K (.ref fG) = true) (bG : Binds K fdG ["house", "thing"] []) (GG : FnOk P w K mg base (L2.CX P w) 5 fG fdG ["house", "thing"] (spBad Ch 2)) :
    FnOk P w K mg base (L2.CX P w) 6 f fd ["house", "thing"] (spBad Ch 2) := by
  refine F.okX sc_is_plan (fun vs H Q E h => ?_) (fun cdv A outer s H vs Q E hr h => ?_)
  · obtain ⟨v, r, _, hl, _⟩ := h
    exact hl
  · obtain ⟨v, r, rfl, hl, sh, out⟩ := h
    match r, hl with
    | [r1], _ =>
      refine ⟨_, pss_one (ps_ret (pe_cmpR op_isN (pe_call GG (hr.mono (by decide)) (by rfl) gG kG bG .nil (passes_call (takes_of rfl rfl rfl rfl) (fun _ _ _ _ h => h)) (pa_cons (pv 0) (pa_cons (pv 1) pa_nil))) pe_non (nomark _))), ?_⟩
      exact ⟨_, rfl, _, rfl, v, _, rfl, rfl, sh, out⟩
abbrev s_whole_times : Stmt := topS 146
theorem sc_whole_times : FnScope ["house", "wishes", "bell", "told"] ["house", "wishes", "bell"] (defScope s_whole_times) := ⟨rfl, rfl, rfl, by decide +kernel, rfl, by decide +kernel, by decide +kernel⟩
theorem b_whole_times {f : Addr} {fd : FuncData} (F : Fun K "whole_times" "whole_times" s_whole_times f fd) : Binds K fd ["house", "wishes", "bell"] [] := F.binds fun _ _ _ _ _ _ us hl => match us, hl with | [_, _, _], _ => rfl
theorem kb_whole_times {f : Addr} {fd : FuncData} (F : Fun K "whole_times" "whole_times" s_whole_times f fd) : KBn K fd ["house", "wishes", "bell"] 0 ["bell", "wishes", "house"] (fun _ ws => ws.reverse) (fun _ ws => ws.reverse) := by
  obtain ⟨oc, od, kV, doc, pm, an, cdv, ct, osl, rfl, lk, hcd⟩ := F.ex
  refine ⟨fun s us ws X l1 l2 => BindsTo.of_looks fun M => ?_, fun {vs us zs ws} r1 r2 => vals_rev r2⟩
  match us, ws, l1, l2 with
  | [], [x0, x1, x2], _, _ => exact .of_pure rfl
theorem ok_whole_times {f fG : Addr} {fd fdG : FuncData} (F : Fun K "whole_times" "whole_times" s_whole_times f fd) (gG : mg "times" = some (.ref fG)) (kG : PySem.W.keepIn K (.ref fG) = true) (bG : Binds K fdG ["house", "wishes", "bell"] []) (GG : FnOk P w K mg base (L2.CX P w) 5 fG fdG ["house", "wishes", "bell"] (spBad Ch 3)) :
    FnOk P w K mg base (L2.CX P w) 6 f fd ["house", "wishes", "bell"] (spBad Ch 3) := by
  refine F.okX sc_whole_times (fun vs H Q E h => ?_) (fun cdv A outer s H vs Q E hr h => ?_)
  · obtain ⟨v, r, _, hl, _⟩ := h
    exact hl
  · obtain ⟨v, r, rfl, hl, sh, out⟩ := h
    match r, hl with
    | [r1, r2], _ =>
      refine ⟨_, pss_stop (ps_set (i := 3) sc_whole_times.nd rfl (Or.inl rfl) (pe_call GG (hr.mono (by decide)) (by rfl) gG kG bG .nil (passes_call (takes_of rfl rfl rfl rfl) (fun _ _ _ _ h => h)) (pa_cons (pv 0) (pa_cons (pv 1) (pa_cons (pv 2) pa_nil))))), ?_⟩
      exact ⟨_, rfl, _, rfl, _, rfl, v, _, rfl, rfl, sh, out⟩
abbrev s_dearest : Stmt := topS 134
theorem sc_dearest : FnScope ["house", "bell", "prices", "order"] ["house", "bell", "prices"] (defScope s_dearest) := ⟨rfl, rfl, rfl, by decide +kernel, rfl, by decide +kernel, by decide +kernel⟩
theorem b_dearest {f : Addr} {fd : FuncData} (F : Fun K "dearest" "dearest" s_dearest f fd) : Binds K fd ["house", "bell", "prices"] [] := F.binds fun _ _ _ _ _ _ us hl => match us, hl with | [_, _, _], _ => rfl
theorem kb_dearest {f : Addr} {fd : FuncData} (F : Fun K "dearest" "dearest" s_dearest f fd) : KBn K fd ["house", "bell", "prices"] 0 ["prices", "bell", "house"] (fun _ ws => ws.reverse) (fun _ ws => ws.reverse) := by
  obtain ⟨oc, od, kV, doc, pm, an, cdv, ct, osl, rfl, lk, hcd⟩ := F.ex
  refine ⟨fun s us ws X l1 l2 => BindsTo.of_looks fun M => ?_, fun {vs us zs ws} r1 r2 => vals_rev r2⟩
  match us, ws, l1, l2 with
  | [], [x0, x1, x2], _, _ => exact .of_pure rfl
theorem ok_dearest {f fG : Addr} {fd fdG : FuncData} (F : Fun K "dearest" "dearest" s_dearest f fd) (gG : mg "dearest_order" = some (.ref fG)) (kG : PySem.W.keepIn K (.ref fG) = true) (bG : Binds K fdG ["house", "bell", "prices"] []) (GG : FnOk P w K mg base (L2.CX P w) 5 fG fdG ["house", "bell", "prices"] (spBad Ch 3)) :
    FnOk P w K mg base (L2.CX P w) 6 f fd ["house", "bell", "prices"] (spBad Ch 3) := by
  refine F.okX sc_dearest (fun vs H Q E h => ?_) (fun cdv A outer s H vs Q E hr h => ?_)
  · obtain ⟨v, r, _, hl, _⟩ := h
    exact hl
  · obtain ⟨v, r, rfl, hl, sh, out⟩ := h
    match r, hl with
    | [r1, r2], _ =>
      refine ⟨_, pss_stop (ps_set (i := 3) sc_dearest.nd rfl (Or.inl rfl) (pe_call GG (hr.mono (by decide)) (by rfl) gG kG bG .nil (passes_call (takes_of rfl rfl rfl rfl) (fun _ _ _ _ h => h)) (pa_cons (pv 0) (pa_cons (pv 1) (pa_cons (pv 2) pa_nil))))), ?_⟩
      exact ⟨_, rfl, _, rfl, _, rfl, v, _, rfl, rfl, sh, out⟩
abbrev s_parting : Stmt := topS 123
theorem sc_parting : FnScope ["house", "other", "unlike"] ["house", "other"] (defScope s_parting) := ⟨rfl, rfl, rfl, by decide +kernel, rfl, by decide +kernel, by decide +kernel⟩
theorem b_parting {f : Addr} {fd : FuncData} (F : Fun K "parting" "parting" s_parting f fd) : Binds K fd ["house", "other"] [] := F.binds fun _ _ _ _ _ _ us hl => match us, hl with | [_, _], _ => rfl
theorem kb_parting {f : Addr} {fd : FuncData} (F : Fun K "parting" "parting" s_parting f fd) : KBn K fd ["house", "other"] 0 ["other", "house"] (fun _ ws => ws.reverse) (fun _ ws => ws.reverse) := by
  obtain ⟨oc, od, kV, doc, pm, an, cdv, ct, osl, rfl, lk, hcd⟩ := F.ex
  refine ⟨fun s us ws X l1 l2 => BindsTo.of_looks fun M => ?_, fun {vs us zs ws} r1 r2 => vals_rev r2⟩
  match us, ws, l1, l2 with
  | [], [x0, x1], _, _ => exact .of_pure rfl
theorem ok_parting {f fG : Addr} {fd fdG : FuncData} (F : Fun K "parting" "parting" s_parting f fd) (gG : mg "first_unlike" = some (.ref fG)) (kG : PySem.W.keepIn K (.ref fG) = true) (bG : Binds K fdG ["house", "other"] []) (GG : FnOk P w K mg base (L2.CX P w) 5 fG fdG ["house", "other"] (spBad Ch 2)) :
    FnOk P w K mg base (L2.CX P w) 6 f fd ["house", "other"] (spBad Ch 2) := by
  refine F.okX sc_parting (fun vs H Q E h => ?_) (fun cdv A outer s H vs Q E hr h => ?_)
  · obtain ⟨v, r, _, hl, _⟩ := h
    exact hl
  · obtain ⟨v, r, rfl, hl, sh, out⟩ := h
    match r, hl with
    | [r1], _ =>
      refine ⟨_, pss_stop (ps_set (i := 2) sc_parting.nd rfl (Or.inl rfl) (pe_call GG (hr.mono (by decide)) (by rfl) gG kG bG .nil (passes_call (takes_of rfl rfl rfl rfl) (fun _ _ _ _ h => h)) (pa_cons (pv 0) (pa_cons (pv 1) pa_nil)))), ?_⟩
      exact ⟨_, rfl, _, rfl, v, _, rfl, rfl, sh, out⟩
theorem ref_mk {x : Str} {st : Stmt} {f : Addr} {fd : FuncData} {ps ks : List Str} {k n : Nat} (F : Fun K x x st f fd) (g : mg x = some (.ref f)) (b : Binds K fd ps []) (kb : KBn K fd ps 0 ks (fun _ ws => ws.reverse) (fun _ ws => ws.reverse)) (hk : k ≤ 6) (hn : ps.length = n) (G : FnOk P w K mg base (L2.CX P w) k f fd ps (spBad Ch n)) : Ref P w K mg base Ch x ps ks := by
  subst hn
  exact ⟨f, fd, g, F.kp, b, kb, k, hk, G⟩
end
/-- all of them -/
structure Refs (P : Program) (w : World) (K : PySem.W.Frag) (mg : Str → Option Value) (base : Heap) (Ch : Addr) : Prop where
  asked : Ref P w K mg base Ch "asked" ["house", "wishes", "lot"] ["lot", "wishes", "house"]
  lacking : Ref P w K mg base Ch "lacking" ["house", "wishes", "bell"] ["bell", "wishes", "house"]
  is_lot_for : Ref P w K mg base Ch "is_lot_for" ["house", "wishes", "bell", "thing"] ["thing", "bell", "wishes", "house"]
  is_plan_for : Ref P w K mg base Ch "is_plan_for" ["house", "wishes", "bell", "thing"] ["thing", "bell", "wishes", "house"]
  row_for : Ref P w K mg base Ch "row_for" ["house", "wishes", "bell"] ["bell", "wishes", "house"]
  is_row_for : Ref P w K mg base Ch "is_row_for" ["house", "wishes", "bell", "thing"] ["thing", "bell", "wishes", "house"]
  parted : Ref P w K mg base Ch "parted" ["house", "parts"] ["parts", "house"]
  most : Ref P w K mg base Ch "most" ["house", "lot", "bell"] ["bell", "lot", "house"]
  most_plan : Ref P w K mg base Ch "most_plan" ["house", "lot", "bell"] ["bell", "lot", "house"]
  levels : Ref P w K mg base Ch "levels" ["house", "lot"] ["lot", "house"]
  lot_bell : Ref P w K mg base Ch "lot_bell" ["house", "lot", "amount"] ["amount", "lot", "house"]
  is_moments : Ref P w K mg base Ch "is_moments" ["house", "lot", "bell", "thing"] ["thing", "bell", "lot", "house"]
  worth : Ref P w K mg base Ch "worth" ["house", "moments"] ["moments", "house"]
  moments_for : Ref P w K mg base Ch "moments_for" ["house", "lot", "bell"] ["bell", "lot", "house"]
  plan_by_order : Ref P w K mg base Ch "plan_by_order" ["house", "order", "bell"] ["bell", "order", "house"]
  corner : Ref P w K mg base Ch "corner" ["house", "order", "bell"] ["bell", "order", "house"]
  corners : Ref P w K mg base Ch "corners" ["house", "bell"] ["bell", "house"]
  order_of : Ref P w K mg base Ch "order_of" ["house", "wishes", "bell"] ["bell", "wishes", "house"]
  plan_fault : Ref P w K mg base Ch "plan_fault" ["house", "thing"] ["thing", "house"]
  brings : Ref P w K mg base Ch "brings" ["house", "plan"] ["plan", "house"]
  bell_of : Ref P w K mg base Ch "bell_of" ["house", "plan"] ["plan", "house"]
  on_roads : Ref P w K mg base Ch "on_roads" ["house", "plan", "turn"] ["turn", "plan", "house"]
  least_bell : Ref P w K mg base Ch "least_bell" ["house", "wishes"] ["wishes", "house"]
  never : Ref P w K mg base Ch "never" ["house", "wishes"] ["wishes", "house"]
  rising : Ref P w K mg base Ch "rising" ["house", "wishes"] ["wishes", "house"]
  bell_with : Ref P w K mg base Ch "bell_with" ["house", "wishes", "door", "other"] ["other", "door", "wishes", "house"]
  further : Ref P w K mg base Ch "further" ["house", "wishes", "bell", "up", "down"] ["down", "up", "bell", "wishes", "house"]
  tight : Ref P w K mg base Ch "tight" ["house", "wishes", "bell"] ["bell", "wishes", "house"]
  bound : Ref P w K mg base Ch "bound" ["house", "wishes", "bell", "door"] ["door", "bell", "wishes", "house"]
  times : Ref P w K mg base Ch "times" ["house", "wishes", "bell"] ["bell", "wishes", "house"]
  part_for : Ref P w K mg base Ch "part_for" ["house", "numbers", "bell"] ["bell", "numbers", "house"]
  part_lot : Ref P w K mg base Ch "part_lot" ["house", "numbers", "bell"] ["bell", "numbers", "house"]
  mix_for : Ref P w K mg base Ch "mix_for" ["house", "wishes", "bell"] ["bell", "wishes", "house"]
  is_mix_for : Ref P w K mg base Ch "is_mix_for" ["house", "wishes", "bell", "thing"] ["thing", "bell", "wishes", "house"]
  dearest_order : Ref P w K mg base Ch "dearest_order" ["house", "bell", "prices"] ["prices", "bell", "house"]
  turned : Ref P w K mg base Ch "turned" ["house"] ["house"]
  turned_plan : Ref P w K mg base Ch "turned_plan" ["house", "plan", "bell"] ["bell", "plan", "house"]
  first_unlike : Ref P w K mg base Ch "first_unlike" ["house", "other"] ["other", "house"]
  lot_for : Ref P w K mg base Ch "lot_for" ["house", "wishes", "bell"] ["bell", "wishes", "house"]
  plan_for : Ref P w K mg base Ch "plan_for" ["house", "wishes", "bell"] ["bell", "wishes", "house"]
  steady : Ref P w K mg base Ch "steady" ["house", "lot"] ["lot", "house"]
  is_plan : Ref P w K mg base Ch "is_plan" ["house", "thing"] ["thing", "house"]
  whole_times : Ref P w K mg base Ch "whole_times" ["house", "wishes", "bell"] ["bell", "wishes", "house"]
  dearest : Ref P w K mg base Ch "dearest" ["house", "bell", "prices"] ["prices", "bell", "house"]
  parting : Ref P w K mg base Ch "parting" ["house", "other"] ["other", "house"]
end K03

set_option Elab.async false
set_option linter.all false
set_option maxRecDepth 100000
set_option maxHeartbeats 8000000
namespace K03
open PySem PySem.Spec PyProof.Rows L2 Own LamX
section
variable {X : Cx} {T : List (Addr × Str)} {g c Pt Ch : Addr} {fd : FuncData} {x : Str} {ps ks : List Str} {params : Arguments} {scope : Scope} {e1 : Expr} {es : List Expr} {kws : List Keyword} {ta : TA} {p lpos pos p2 pos2 : Pos}
/-- _law_met(lambda: f(a, ..)) -/
theorem pe_metP (F : Fun X.K "_law_met" "_law_met" sMet g fd) (gm : X.mg "_law_met" = some (.ref g)) (bM : L2.Binds X.K fd ["_law_ask"] []) (CA : Cau X.K X.mg Ch) (R : Ref X.prog X.w X.K X.mg X.base Ch x ps ks)
    (TB : TabB X.base X.mg c Pt) (hcode : X.env.code = .ref c) (hmT : (Pt, X.env.qual ++ "<lambda>") ∈ T) (hu : ∀ q ∈ T, q.1 = Pt → q.2 = X.env.qual ++ "<lambda>") (hr : Room 8 X.A) (L : LamS X.env.scope scope) (hg : Gl X "_law_met") (hdef : defaultsOf params X.env = ([], []))
    (hbind : ∀ (q : Str) (cl : List (Str × Addr)) (pm cv ctv : Value), bindArgs (PySem.W.kla_fn "<lambda>" q params (.Call (.Name x p2) (e1 :: es) [] pos2) scope cl pm cv ctv) ⟨[], []⟩ = pure [])
    (hbody : ∀ (A : Around) (outer : List Env) (s : Shared) (H : Hp) (E : XK) (f c' : Addr), Gl (lamCx X A outer s H E scope f c') x ∧ PA (lamCx X A outer s H E scope f c') (e1 :: es) ta)
    (hdb : (x == ("__debug__" : Str)) = false := by decide)
    (hst : ∀ env : Env, starEach (e1 :: es) env = (false, eval e1 env) :: starEach es env := by intro _; rfl) (hpl : ∀ env : Env, (backTo pos2 (starEach es env)).any (·.1) = false := by intro _; rfl) :
    PE X (.Call (.Name "_law_met" p) [.Lambda params (.Call (.Name x p2) (e1 :: es) [] pos2) scope lpos] [] pos) (tLam T (TMet Ch) fun E => tCall (spBad Ch ps.length) [] E ta) := by
  obtain ⟨oc, od, kV, doc, pm, an, cdv, ct, osl, rfl, lk, hcd⟩ := F.ex
  obtain ⟨f0, fd0, g0, kp0, b0, _, k, hk, G⟩ := R.ex
  refine pe_lamcall (k := 6) (Ng := NMet) hg gm F.kp lk hcd bM scMet rfl (by exact Or.inl rfl) (met_gives CA) TB hcode hmT hu hr L hdef hbind fun A outer s H E f c' hr2 => ?_
  obtain ⟨h1, h2⟩ := hbody A outer s H E f c'
  exact pe_call (X := lamCx X A outer s H E scope f c') G (hr2.mono hk) h1 g0 kp0 b0 .nil (passes_call (X := lamCx X A outer s H E scope f c') (takes_of rfl rfl rfl rfl) fun _ _ _ _ h => h) h2 hdb (hst _) (hpl _)
/-- _law_met(lambda: f(k = v, ..)) -/
theorem pe_metK (F : Fun X.K "_law_met" "_law_met" sMet g fd) (gm : X.mg "_law_met" = some (.ref g)) (bM : L2.Binds X.K fd ["_law_ask"] []) (CA : Cau X.K X.mg Ch) (R : Ref X.prog X.w X.K X.mg X.base Ch x ps ks)
    (TB : TabB X.base X.mg c Pt) (hcode : X.env.code = .ref c) (hmT : (Pt, X.env.qual ++ "<lambda>") ∈ T) (hu : ∀ q ∈ T, q.1 = Pt → q.2 = X.env.qual ++ "<lambda>") (hr : Room 8 X.A) (L : LamS X.env.scope scope) (hg : Gl X "_law_met") (hdef : defaultsOf params X.env = ([], []))
    (hbind : ∀ (q : Str) (cl : List (Str × Addr)) (pm cv ctv : Value), bindArgs (PySem.W.kla_fn "<lambda>" q params (.Call (.Name x p2) [] kws pos2) scope cl pm cv ctv) ⟨[], []⟩ = pure [])
    (hbody : ∀ (A : Around) (outer : List Env) (s : Shared) (H : Hp) (E : XK) (f c' : Addr), Gl (lamCx X A outer s H E scope f c') x ∧ PK (lamCx X A outer s H E scope f c') kws ta)
    (hdb : (x == ("__debug__" : Str)) = false := by decide)
    (hall : ∀ env : Env, (backToKw pos2 (keywordEach kws env)).all (·.1.isSome) = true := by intro _; rfl) (hks : ∀ env : Env, (backToKw pos2 (keywordEach kws env)).filterMap (·.1) = ks := by intro _; rfl)
    (hpl : ∀ env : Env, ((backTo pos2 (starEach [] env)).any (·.1) || (backToKw pos2 (keywordEach kws env)).any (·.1.isNone)) = false := by intro _; rfl) :
    PE X (.Call (.Name "_law_met" p) [.Lambda params (.Call (.Name x p2) [] kws pos2) scope lpos] [] pos) (tLam T (TMet Ch) fun E => tCallK0 ks.length (spBad Ch ps.length) (fun _ ws => ws.reverse) E ta) := by
  obtain ⟨oc, od, kV, doc, pm, an, cdv, ct, osl, rfl, lk, hcd⟩ := F.ex
  obtain ⟨f0, fd0, g0, kp0, _, kb, k, hk, G⟩ := R.ex
  refine pe_lamcall (k := 6) (Ng := NMet) hg gm F.kp lk hcd bM scMet rfl (by exact Or.inl rfl) (met_gives CA) TB hcode hmT hu hr L hdef hbind fun A outer s H E f c' hr2 => ?_
  obtain ⟨h1, h2⟩ := hbody A outer s H E f c'
  exact pe_callK0 (X := lamCx X A outer s H E scope f c') G (hr2.mono hk) h1 g0 kp0 kb (passes_call (X := lamCx X A outer s H E scope f c') (takes_of rfl rfl rfl rfl) fun _ _ _ _ h => h) h2 (hall _) (hks _) hdb (hpl _)
end
/-! ### what is found so far -/
theorem Shp.ext {H H' : Hp} {v : V} (h : Shp H v) (e : ExtN H H') : Shp H' v := by
  rcases h with h | ⟨a, xs, h1, h2⟩ | ⟨a, xs, h1, h2⟩ | ⟨a, xs, h1, h2⟩
  · exact .inl h
  · exact .inr (.inl ⟨a, xs, h1, e _ _ h2 (fun t z => by cases z)⟩)
  · exact .inr (.inr (.inl ⟨a, xs, h1, e _ _ h2 (fun t z => by cases z)⟩))
  · exact .inr (.inr (.inr ⟨a, xs, h1, e _ _ h2 (fun t z => by cases z)⟩))
/-- each is a pair of "house" and the thing -/
def Hos (H : Hp) (odd : V) (xs : List V) : Prop := ∀ v ∈ xs, ∃ t, v = V.ref t ∧ H t = some (.tup [.str "house", odd])
/-- n are found, in the list at q, since H0 -/
structure MAsk (T : List (Addr × Str)) (H0 : Hp) (odd : V) (q : Addr) (n : Nat) (H : Hp) : Prop where
  ex : ∃ xs, Tabs T H ∧ H q = some (.lst xs) ∧ xs.length = n ∧ Hos H odd xs ∧ ExtN H0 H
theorem ma_start {T : List (Addr × Str)} {H0 : Hp} {odd : V} {q : Addr} (hT : Tabs T H0) (nq : H0 q = none) : MAsk T H0 odd q 0 (upd H0 q (.lst [])) :=
  ⟨[], hT.ext (same_new nq), upd_same, rfl, (fun v hv => by cases hv), .of (same_new nq)⟩
def spAsk (T : List (Addr × Str)) (n : Nat) : Sp := fun vs H Q _ => ∃ odd, vs = [odd] ∧ Tabs T H ∧ Shp H odd ∧ ∀ H' q xs, ExtN H H' → Tabs T H' → H q = none → H' q = some (.lst xs) → xs.length = n → Hos H' odd xs → Q (.ref q) H'
theorem ma_end {T : List (Addr × Str)} {H0 H : Hp} {odd : V} {q : Addr} {n : Nat} {Q : VK} (nq : H0 q = none) (m : MAsk T H0 odd q n H) (k : ∀ H' q xs, ExtN H0 H' → Tabs T H' → H0 q = none → H' q = some (.lst xs) → xs.length = n → Hos H' odd xs → Q (.ref q) H') : Q (.ref q) H := by
  obtain ⟨xs, hT, hq, hl, ho, e⟩ := m.ex
  exact k H q xs e hT nq hq hl ho
/-- nothing but perhaps a table stood there -/
def Nw (H : Hp) (q : Addr) : Prop := ∀ o, H q = some o → (∀ t, o ≠ .tbl t) → False
theorem nw {H : Hp} {q : Addr} (h : H q = none) : Nw H q := fun o z _ => by
  rw [h] at z
  cases z
theorem Nw.back {H H' : Hp} {q : Addr} (e : ExtN H H') (h : Nw H' q) : Nw H q := fun o z nt => h o (e _ _ z nt) nt
theorem Nw.ne {H : Hp} {q b : Addr} {o : HO} (h : Nw H q) (z : H b = some o) (nt : ∀ t, o ≠ .tbl t) : b ≠ q := fun y => h o (by rw [← y]; exact z) nt
/-- the slot i holds the thing, j the list -/
def tAsk (T : List (Addr × Str)) (i j : Nat) : TS := fun D σ H => ∃ n, n ≤ 900 ∧ ∃ H0 odd q, σ[i]? = some (some odd) ∧ σ[j]? = some (some (.ref q)) ∧ Shp H0 odd ∧ Nw H0 q ∧ MAsk T H0 odd q n H ∧ ∀ H', MAsk T H0 odd q (n + 1) H' → D.nx σ H'
theorem Hos.same {H H' : Hp} {odd : V} {xs : List V} (h : Hos H odd xs) (e : ExtN H H') : Hos H' odd xs := fun v hv => by
  obtain ⟨t, h1, h2⟩ := h v hv
  exact ⟨t, h1, e _ _ h2 (fun t z => by cases z)⟩
theorem small900 {n : Nat} (h : n ≤ 900) : n < sizeLine := small1000 (Nat.le_trans h (by decide))
theorem tabs_upd {T : List (Addr × Str)} {H : Hp} {q : Addr} {xs : List V} {o : HO} (h : Tabs T H) (hq : H q = some (.lst xs)) : Tabs T (upd H q o) := fun p hp => by
  obtain ⟨ps, h1, h2, h3⟩ := h p hp
  have n1 : p.1 ≠ q := fun z => by
    rw [z, hq] at h1
    cases h1
  refine ⟨ps, by rw [upd_ne n1]; exact h1, h2, fun pos cv hc => ?_⟩
  obtain ⟨c, e1, e2⟩ := h3 pos cv hc
  have n2 : c ≠ q := fun z => by
    rw [z, hq] at e2
    unfold CodeO at e2
    cases e2
  exact ⟨c, e1, by rw [upd_ne n2]; exact e2⟩
theorem extN_upd {H0 H : Hp} {q : Addr} {o : HO} (e : ExtN H0 H) (nq : Nw H0 q) : ExtN H0 (upd H q o) := fun b u hb nt => by
  rw [upd_ne (nq.ne hb nt)]
  exact e b u hb nt
/-- one more is asked -/
theorem st_ask {X : Cx} {T : List (Addr × Str)} (i j : Nat) {Ch : Addr} {e : Expr} {tb : XK → TE} {p1 p2 p3 p4 : Pos} (M : PE X e (tLam T (TMet Ch) tb))
    (hb : ∀ (odd : V) (E : XK) (σ : L2.St) (H' : Hp) (Q' : VK), σ[i]? = some (some odd) → Shp H' odd → Out H' E Ch "thing" odd → tb E σ H' Q')
    (hN : X.N[j]? = some ("_law_found" : Str) := by rfl) (hv : Vis X.env.scope "_law_found" := by exact Or.inl rfl)
    (hbase : attributeBase (.Name "_law_found" p1) "append" X.env (eval (.Name "_law_found" p1) X.env) = eval (.Name "_law_found" p1) X.env := by rfl)
    (hfew : ((backTo p3 (starEach [e] X.env)).all (fun x => !x.1) && (backToKw p3 (keywordEach [] X.env)).all (fun x => x.1.isSome)
      && decide (([e] : List Expr).length + ([] : List Keyword).length + (if ([] : List Keyword).isEmpty then 0 else 1) < 30)) = true := by rfl)
    (hline : (p2.endLine == p3.line) = true := by rfl) (hs : starEach [e] X.env = (false, eval e X.env) :: starEach [] X.env := by rfl) (hplain : (backTo p3 (starEach [] X.env)).any (·.1) = false := by rfl)
    (hsw : swapsWith (.Call (.Attribute (.Name "_law_found" p1) "append" p2) [e] [] p3) none p4.line X.env = pure false := by rfl) :
    PS X (.Expr (.Call (.Attribute (.Name "_law_found" p1) "append" p2) [e] [] p3) p4) (tAsk T i j) := by
  refine ⟨fun pins s σ H D I h => ?_⟩
  have P := ps_expr (pe_bm (apos := p2) (cpos := p3) PySem.F.plainAttrs_list PySem.F.slot_list_append PySem.F.type_list_append mt_append (pe_var (i := j) hN hv) (pa_cons M pa_nil hs) hbase hfew hline hs hplain) hsw
  refine P.run pins s σ H D I ?_
  obtain ⟨n, hi, H0, odd, q, hs1, hs2, sh, nq, m, k⟩ := h
  obtain ⟨xs, hT, hq, hl, ho, e0⟩ := m.ex
  refine ⟨_, hs2, .inl ⟨rfl, _, SqL.of hq⟩, hT, fun H1 e1 T1 => hb odd _ _ H1 _ hs1 (sh.ext (e0.trans e1)) fun d H2 nd sm hd => ⟨rfl, d, odd, rfl, hd, (by show 2 ≤ sizeLine; decide), fun t ht => ?_⟩⟩
  have e2 : ExtN H (upd H2 t (.tup [.str "house", odd])) := e1.trans (.of (sm.trans (same_new ht)))
  have hq2 := e2 _ _ hq (fun t z => by cases z)
  have ne : q ≠ t := fun z => by
    have hq1 := e1 _ _ hq (fun t z => by cases z)
    rw [z] at hq1
    rw [sm _ _ hq1] at ht
    cases ht
  refine ⟨q, xs, .ref t, rfl, rfl, hq2, small900 (by omega), k _ ⟨xs ++ [.ref t], ?_, upd_same, by rw [List.length_append, hl]; rfl, ?_, ?_⟩⟩
  · exact tabs_upd (T1.ext (sm.trans (same_new ht))) hq2
  · intro v hv
    rcases List.mem_append.mp hv with hv | hv
    · obtain ⟨u, h1, h2⟩ := ho v hv
      have h3 := e2 _ _ h2 (fun t z => by cases z)
      refine ⟨u, h1, ?_⟩
      rw [upd_ne fun z => by
        rw [z, hq2] at h3
        cases h3]
      exact h3
    · obtain rfl := List.mem_singleton.mp hv
      exact ⟨t, rfl, by rw [upd_ne ne.symm]; exact upd_same⟩
  · exact extN_upd (e0.trans e2) nq
end K03

set_option Elab.async false
set_option linter.all false
set_option maxRecDepth 100000
set_option maxHeartbeats 8000000
namespace K03
open PySem PySem.Spec PyProof.Rows L2 Own LamX
theorem scsAskA : FnScope ["_law_odd", "_law_found"] ["_law_odd"] (defScope sAskA) := ⟨rfl, rfl, rfl, by decide +kernel, rfl, by decide +kernel, by decide +kernel⟩
abbrev qAskA : Str := ("_law_asked_a" : Str) ++ ".<locals>." ++ "<lambda>"
theorem ok_askA {P : Program} {w : World} {K : PySem.W.Frag} {mg : Str → Option Value} {base : Heap} {Ch f fM c Pt : Addr} {fd fdM : FuncData} {T0 : List (Addr × Str)} (F : FunC K "_law_asked_a" "_law_asked_a" sAskA f fd c)
    (FM : Fun K "_law_met" "_law_met" sMet fM fdM) (gM : mg "_law_met" = some (.ref fM)) (bM : Binds K fdM ["_law_ask"] []) (CA : Cau K mg Ch) (R : Refs P w K mg base Ch)
    (TB : TabB base mg c Pt) (hmT : (Pt, qAskA) ∈ T0) (hu : ∀ q ∈ T0, q.1 = Pt → q.2 = qAskA) : FnOk P w K mg base CX0 9 f fd ["_law_odd"] (spAsk T0 30) := by
  refine F.ok scsAskA (fun vs H Q E h => ?_) (fun A outer s H vs Q E hr h => ?_)
  · obtain ⟨odd, rfl, _⟩ := h
    rfl
  · obtain ⟨odd, rfl, hT, sh, k⟩ := h
    refine ⟨_, (pss_cons (ps_set (i := 1) scsAskA.nd rfl (Or.inl rfl) (pe_lst pa_nil))
  (pss_cons (st_ask (T := T0) 0 1 (pe_metP FM gM bM CA R.asked TB rfl hmT hu (hr.mono (by decide)) (lamS_by (by show lamSB (defScope sAskA) _ = true; decide +kernel)) (by rfl) (by rfl) (fun _ _ _ _ _ => rfl) (fun _ _ _ _ _ _ _ => ⟨by rfl, (pa_cons (pv 0) (pa_cons pe_non (pa_cons pe_non pa_nil)))⟩)) (fun odd E σ H1 Q1 h0 s1 o1 => ⟨_, h0, _, _, rfl, rfl, s1, o1⟩))
  (pss_cons (st_ask (T := T0) 0 1 (pe_metK FM gM bM CA R.asked TB rfl hmT hu (hr.mono (by decide)) (lamS_by (by show lamSB (defScope sAskA) _ = true; decide +kernel)) (by rfl) (by rfl) (fun _ _ _ _ _ => rfl) (fun _ _ _ _ _ _ _ => ⟨by rfl, (pk_cons pe_non (pk_cons pe_non (pk_cons (pv 0) pk_nil)))⟩)) (fun odd E σ H1 Q1 h0 s1 o1 => ⟨_, h0, rfl, _, _, rfl, rfl, s1, o1⟩))
  (pss_cons (st_ask (T := T0) 0 1 (pe_metP FM gM bM CA R.lacking TB rfl hmT hu (hr.mono (by decide)) (lamS_by (by show lamSB (defScope sAskA) _ = true; decide +kernel)) (by rfl) (by rfl) (fun _ _ _ _ _ => rfl) (fun _ _ _ _ _ _ _ => ⟨by rfl, (pa_cons (pv 0) (pa_cons pe_non (pa_cons pe_non pa_nil)))⟩)) (fun odd E σ H1 Q1 h0 s1 o1 => ⟨_, h0, _, _, rfl, rfl, s1, o1⟩))
  (pss_cons (st_ask (T := T0) 0 1 (pe_metK FM gM bM CA R.lacking TB rfl hmT hu (hr.mono (by decide)) (lamS_by (by show lamSB (defScope sAskA) _ = true; decide +kernel)) (by rfl) (by rfl) (fun _ _ _ _ _ => rfl) (fun _ _ _ _ _ _ _ => ⟨by rfl, (pk_cons pe_non (pk_cons pe_non (pk_cons (pv 0) pk_nil)))⟩)) (fun odd E σ H1 Q1 h0 s1 o1 => ⟨_, h0, rfl, _, _, rfl, rfl, s1, o1⟩))
  (pss_cons (st_ask (T := T0) 0 1 (pe_metP FM gM bM CA R.lot_for TB rfl hmT hu (hr.mono (by decide)) (lamS_by (by show lamSB (defScope sAskA) _ = true; decide +kernel)) (by rfl) (by rfl) (fun _ _ _ _ _ => rfl) (fun _ _ _ _ _ _ _ => ⟨by rfl, (pa_cons (pv 0) (pa_cons pe_non (pa_cons pe_non pa_nil)))⟩)) (fun odd E σ H1 Q1 h0 s1 o1 => ⟨_, h0, _, _, rfl, rfl, s1, o1⟩))
  (pss_cons (st_ask (T := T0) 0 1 (pe_metK FM gM bM CA R.lot_for TB rfl hmT hu (hr.mono (by decide)) (lamS_by (by show lamSB (defScope sAskA) _ = true; decide +kernel)) (by rfl) (by rfl) (fun _ _ _ _ _ => rfl) (fun _ _ _ _ _ _ _ => ⟨by rfl, (pk_cons pe_non (pk_cons pe_non (pk_cons (pv 0) pk_nil)))⟩)) (fun odd E σ H1 Q1 h0 s1 o1 => ⟨_, h0, rfl, _, _, rfl, rfl, s1, o1⟩))
  (pss_cons (st_ask (T := T0) 0 1 (pe_metP FM gM bM CA R.is_lot_for TB rfl hmT hu (hr.mono (by decide)) (lamS_by (by show lamSB (defScope sAskA) _ = true; decide +kernel)) (by rfl) (by rfl) (fun _ _ _ _ _ => rfl) (fun _ _ _ _ _ _ _ => ⟨by rfl, (pa_cons (pv 0) (pa_cons pe_non (pa_cons pe_non (pa_cons pe_non pa_nil))))⟩)) (fun odd E σ H1 Q1 h0 s1 o1 => ⟨_, h0, _, _, rfl, rfl, s1, o1⟩))
  (pss_cons (st_ask (T := T0) 0 1 (pe_metK FM gM bM CA R.is_lot_for TB rfl hmT hu (hr.mono (by decide)) (lamS_by (by show lamSB (defScope sAskA) _ = true; decide +kernel)) (by rfl) (by rfl) (fun _ _ _ _ _ => rfl) (fun _ _ _ _ _ _ _ => ⟨by rfl, (pk_cons pe_non (pk_cons pe_non (pk_cons pe_non (pk_cons (pv 0) pk_nil))))⟩)) (fun odd E σ H1 Q1 h0 s1 o1 => ⟨_, h0, rfl, _, _, rfl, rfl, s1, o1⟩))
  (pss_cons (st_ask (T := T0) 0 1 (pe_metP FM gM bM CA R.is_plan_for TB rfl hmT hu (hr.mono (by decide)) (lamS_by (by show lamSB (defScope sAskA) _ = true; decide +kernel)) (by rfl) (by rfl) (fun _ _ _ _ _ => rfl) (fun _ _ _ _ _ _ _ => ⟨by rfl, (pa_cons (pv 0) (pa_cons pe_non (pa_cons pe_non (pa_cons pe_non pa_nil))))⟩)) (fun odd E σ H1 Q1 h0 s1 o1 => ⟨_, h0, _, _, rfl, rfl, s1, o1⟩))
  (pss_cons (st_ask (T := T0) 0 1 (pe_metK FM gM bM CA R.is_plan_for TB rfl hmT hu (hr.mono (by decide)) (lamS_by (by show lamSB (defScope sAskA) _ = true; decide +kernel)) (by rfl) (by rfl) (fun _ _ _ _ _ => rfl) (fun _ _ _ _ _ _ _ => ⟨by rfl, (pk_cons pe_non (pk_cons pe_non (pk_cons pe_non (pk_cons (pv 0) pk_nil))))⟩)) (fun odd E σ H1 Q1 h0 s1 o1 => ⟨_, h0, rfl, _, _, rfl, rfl, s1, o1⟩))
  (pss_cons (st_ask (T := T0) 0 1 (pe_metP FM gM bM CA R.plan_for TB rfl hmT hu (hr.mono (by decide)) (lamS_by (by show lamSB (defScope sAskA) _ = true; decide +kernel)) (by rfl) (by rfl) (fun _ _ _ _ _ => rfl) (fun _ _ _ _ _ _ _ => ⟨by rfl, (pa_cons (pv 0) (pa_cons pe_non (pa_cons pe_non pa_nil)))⟩)) (fun odd E σ H1 Q1 h0 s1 o1 => ⟨_, h0, _, _, rfl, rfl, s1, o1⟩))
  (pss_cons (st_ask (T := T0) 0 1 (pe_metK FM gM bM CA R.plan_for TB rfl hmT hu (hr.mono (by decide)) (lamS_by (by show lamSB (defScope sAskA) _ = true; decide +kernel)) (by rfl) (by rfl) (fun _ _ _ _ _ => rfl) (fun _ _ _ _ _ _ _ => ⟨by rfl, (pk_cons pe_non (pk_cons pe_non (pk_cons (pv 0) pk_nil)))⟩)) (fun odd E σ H1 Q1 h0 s1 o1 => ⟨_, h0, rfl, _, _, rfl, rfl, s1, o1⟩))
  (pss_cons (st_ask (T := T0) 0 1 (pe_metP FM gM bM CA R.row_for TB rfl hmT hu (hr.mono (by decide)) (lamS_by (by show lamSB (defScope sAskA) _ = true; decide +kernel)) (by rfl) (by rfl) (fun _ _ _ _ _ => rfl) (fun _ _ _ _ _ _ _ => ⟨by rfl, (pa_cons (pv 0) (pa_cons pe_non (pa_cons pe_non pa_nil)))⟩)) (fun odd E σ H1 Q1 h0 s1 o1 => ⟨_, h0, _, _, rfl, rfl, s1, o1⟩))
  (pss_cons (st_ask (T := T0) 0 1 (pe_metK FM gM bM CA R.row_for TB rfl hmT hu (hr.mono (by decide)) (lamS_by (by show lamSB (defScope sAskA) _ = true; decide +kernel)) (by rfl) (by rfl) (fun _ _ _ _ _ => rfl) (fun _ _ _ _ _ _ _ => ⟨by rfl, (pk_cons pe_non (pk_cons pe_non (pk_cons (pv 0) pk_nil)))⟩)) (fun odd E σ H1 Q1 h0 s1 o1 => ⟨_, h0, rfl, _, _, rfl, rfl, s1, o1⟩))
  (pss_cons (st_ask (T := T0) 0 1 (pe_metP FM gM bM CA R.is_row_for TB rfl hmT hu (hr.mono (by decide)) (lamS_by (by show lamSB (defScope sAskA) _ = true; decide +kernel)) (by rfl) (by rfl) (fun _ _ _ _ _ => rfl) (fun _ _ _ _ _ _ _ => ⟨by rfl, (pa_cons (pv 0) (pa_cons pe_non (pa_cons pe_non (pa_cons pe_non pa_nil))))⟩)) (fun odd E σ H1 Q1 h0 s1 o1 => ⟨_, h0, _, _, rfl, rfl, s1, o1⟩))
  (pss_cons (st_ask (T := T0) 0 1 (pe_metK FM gM bM CA R.is_row_for TB rfl hmT hu (hr.mono (by decide)) (lamS_by (by show lamSB (defScope sAskA) _ = true; decide +kernel)) (by rfl) (by rfl) (fun _ _ _ _ _ => rfl) (fun _ _ _ _ _ _ _ => ⟨by rfl, (pk_cons pe_non (pk_cons pe_non (pk_cons pe_non (pk_cons (pv 0) pk_nil))))⟩)) (fun odd E σ H1 Q1 h0 s1 o1 => ⟨_, h0, rfl, _, _, rfl, rfl, s1, o1⟩))
  (pss_cons (st_ask (T := T0) 0 1 (pe_metP FM gM bM CA R.parted TB rfl hmT hu (hr.mono (by decide)) (lamS_by (by show lamSB (defScope sAskA) _ = true; decide +kernel)) (by rfl) (by rfl) (fun _ _ _ _ _ => rfl) (fun _ _ _ _ _ _ _ => ⟨by rfl, (pa_cons (pv 0) (pa_cons pe_non pa_nil))⟩)) (fun odd E σ H1 Q1 h0 s1 o1 => ⟨_, h0, _, _, rfl, rfl, s1, o1⟩))
  (pss_cons (st_ask (T := T0) 0 1 (pe_metK FM gM bM CA R.parted TB rfl hmT hu (hr.mono (by decide)) (lamS_by (by show lamSB (defScope sAskA) _ = true; decide +kernel)) (by rfl) (by rfl) (fun _ _ _ _ _ => rfl) (fun _ _ _ _ _ _ _ => ⟨by rfl, (pk_cons pe_non (pk_cons (pv 0) pk_nil))⟩)) (fun odd E σ H1 Q1 h0 s1 o1 => ⟨_, h0, rfl, _, _, rfl, rfl, s1, o1⟩))
  (pss_cons (st_ask (T := T0) 0 1 (pe_metP FM gM bM CA R.most TB rfl hmT hu (hr.mono (by decide)) (lamS_by (by show lamSB (defScope sAskA) _ = true; decide +kernel)) (by rfl) (by rfl) (fun _ _ _ _ _ => rfl) (fun _ _ _ _ _ _ _ => ⟨by rfl, (pa_cons (pv 0) (pa_cons pe_non (pa_cons pe_non pa_nil)))⟩)) (fun odd E σ H1 Q1 h0 s1 o1 => ⟨_, h0, _, _, rfl, rfl, s1, o1⟩))
  (pss_cons (st_ask (T := T0) 0 1 (pe_metK FM gM bM CA R.most TB rfl hmT hu (hr.mono (by decide)) (lamS_by (by show lamSB (defScope sAskA) _ = true; decide +kernel)) (by rfl) (by rfl) (fun _ _ _ _ _ => rfl) (fun _ _ _ _ _ _ _ => ⟨by rfl, (pk_cons pe_non (pk_cons pe_non (pk_cons (pv 0) pk_nil)))⟩)) (fun odd E σ H1 Q1 h0 s1 o1 => ⟨_, h0, rfl, _, _, rfl, rfl, s1, o1⟩))
  (pss_cons (st_ask (T := T0) 0 1 (pe_metP FM gM bM CA R.most_plan TB rfl hmT hu (hr.mono (by decide)) (lamS_by (by show lamSB (defScope sAskA) _ = true; decide +kernel)) (by rfl) (by rfl) (fun _ _ _ _ _ => rfl) (fun _ _ _ _ _ _ _ => ⟨by rfl, (pa_cons (pv 0) (pa_cons pe_non (pa_cons pe_non pa_nil)))⟩)) (fun odd E σ H1 Q1 h0 s1 o1 => ⟨_, h0, _, _, rfl, rfl, s1, o1⟩))
  (pss_cons (st_ask (T := T0) 0 1 (pe_metK FM gM bM CA R.most_plan TB rfl hmT hu (hr.mono (by decide)) (lamS_by (by show lamSB (defScope sAskA) _ = true; decide +kernel)) (by rfl) (by rfl) (fun _ _ _ _ _ => rfl) (fun _ _ _ _ _ _ _ => ⟨by rfl, (pk_cons pe_non (pk_cons pe_non (pk_cons (pv 0) pk_nil)))⟩)) (fun odd E σ H1 Q1 h0 s1 o1 => ⟨_, h0, rfl, _, _, rfl, rfl, s1, o1⟩))
  (pss_cons (st_ask (T := T0) 0 1 (pe_metP FM gM bM CA R.levels TB rfl hmT hu (hr.mono (by decide)) (lamS_by (by show lamSB (defScope sAskA) _ = true; decide +kernel)) (by rfl) (by rfl) (fun _ _ _ _ _ => rfl) (fun _ _ _ _ _ _ _ => ⟨by rfl, (pa_cons (pv 0) (pa_cons pe_non pa_nil))⟩)) (fun odd E σ H1 Q1 h0 s1 o1 => ⟨_, h0, _, _, rfl, rfl, s1, o1⟩))
  (pss_cons (st_ask (T := T0) 0 1 (pe_metK FM gM bM CA R.levels TB rfl hmT hu (hr.mono (by decide)) (lamS_by (by show lamSB (defScope sAskA) _ = true; decide +kernel)) (by rfl) (by rfl) (fun _ _ _ _ _ => rfl) (fun _ _ _ _ _ _ _ => ⟨by rfl, (pk_cons pe_non (pk_cons (pv 0) pk_nil))⟩)) (fun odd E σ H1 Q1 h0 s1 o1 => ⟨_, h0, rfl, _, _, rfl, rfl, s1, o1⟩))
  (pss_cons (st_ask (T := T0) 0 1 (pe_metP FM gM bM CA R.steady TB rfl hmT hu (hr.mono (by decide)) (lamS_by (by show lamSB (defScope sAskA) _ = true; decide +kernel)) (by rfl) (by rfl) (fun _ _ _ _ _ => rfl) (fun _ _ _ _ _ _ _ => ⟨by rfl, (pa_cons (pv 0) (pa_cons pe_non pa_nil))⟩)) (fun odd E σ H1 Q1 h0 s1 o1 => ⟨_, h0, _, _, rfl, rfl, s1, o1⟩))
  (pss_cons (st_ask (T := T0) 0 1 (pe_metK FM gM bM CA R.steady TB rfl hmT hu (hr.mono (by decide)) (lamS_by (by show lamSB (defScope sAskA) _ = true; decide +kernel)) (by rfl) (by rfl) (fun _ _ _ _ _ => rfl) (fun _ _ _ _ _ _ _ => ⟨by rfl, (pk_cons pe_non (pk_cons (pv 0) pk_nil))⟩)) (fun odd E σ H1 Q1 h0 s1 o1 => ⟨_, h0, rfl, _, _, rfl, rfl, s1, o1⟩))
  (pss_cons (st_ask (T := T0) 0 1 (pe_metP FM gM bM CA R.lot_bell TB rfl hmT hu (hr.mono (by decide)) (lamS_by (by show lamSB (defScope sAskA) _ = true; decide +kernel)) (by rfl) (by rfl) (fun _ _ _ _ _ => rfl) (fun _ _ _ _ _ _ _ => ⟨by rfl, (pa_cons (pv 0) (pa_cons pe_non (pa_cons pe_non pa_nil)))⟩)) (fun odd E σ H1 Q1 h0 s1 o1 => ⟨_, h0, _, _, rfl, rfl, s1, o1⟩))
  (pss_cons (st_ask (T := T0) 0 1 (pe_metK FM gM bM CA R.lot_bell TB rfl hmT hu (hr.mono (by decide)) (lamS_by (by show lamSB (defScope sAskA) _ = true; decide +kernel)) (by rfl) (by rfl) (fun _ _ _ _ _ => rfl) (fun _ _ _ _ _ _ _ => ⟨by rfl, (pk_cons pe_non (pk_cons pe_non (pk_cons (pv 0) pk_nil)))⟩)) (fun odd E σ H1 Q1 h0 s1 o1 => ⟨_, h0, rfl, _, _, rfl, rfl, s1, o1⟩))
  (pss_cons (st_ask (T := T0) 0 1 (pe_metP FM gM bM CA R.is_moments TB rfl hmT hu (hr.mono (by decide)) (lamS_by (by show lamSB (defScope sAskA) _ = true; decide +kernel)) (by rfl) (by rfl) (fun _ _ _ _ _ => rfl) (fun _ _ _ _ _ _ _ => ⟨by rfl, (pa_cons (pv 0) (pa_cons pe_non (pa_cons pe_non (pa_cons pe_non pa_nil))))⟩)) (fun odd E σ H1 Q1 h0 s1 o1 => ⟨_, h0, _, _, rfl, rfl, s1, o1⟩))
  (pss_cons (st_ask (T := T0) 0 1 (pe_metK FM gM bM CA R.is_moments TB rfl hmT hu (hr.mono (by decide)) (lamS_by (by show lamSB (defScope sAskA) _ = true; decide +kernel)) (by rfl) (by rfl) (fun _ _ _ _ _ => rfl) (fun _ _ _ _ _ _ _ => ⟨by rfl, (pk_cons pe_non (pk_cons pe_non (pk_cons pe_non (pk_cons (pv 0) pk_nil))))⟩)) (fun odd E σ H1 Q1 h0 s1 o1 => ⟨_, h0, rfl, _, _, rfl, rfl, s1, o1⟩))
  (pss_one (ps_ret (pv 1)))))))))))))))))))))))))))))))))), ?_⟩
    refine ⟨by decide, fun q nq => ?_⟩
    have m0 := ma_start (odd := odd) hT nq
    refine ⟨0, by decide, H, odd, q, rfl, rfl, sh, nw nq, m0, fun H1 m1 => ?_⟩
    refine ⟨1, by decide, H, odd, q, rfl, rfl, sh, nw nq, m1, fun H2 m2 => ?_⟩
    refine ⟨2, by decide, H, odd, q, rfl, rfl, sh, nw nq, m2, fun H3 m3 => ?_⟩
    refine ⟨3, by decide, H, odd, q, rfl, rfl, sh, nw nq, m3, fun H4 m4 => ?_⟩
    refine ⟨4, by decide, H, odd, q, rfl, rfl, sh, nw nq, m4, fun H5 m5 => ?_⟩
    refine ⟨5, by decide, H, odd, q, rfl, rfl, sh, nw nq, m5, fun H6 m6 => ?_⟩
    refine ⟨6, by decide, H, odd, q, rfl, rfl, sh, nw nq, m6, fun H7 m7 => ?_⟩
    refine ⟨7, by decide, H, odd, q, rfl, rfl, sh, nw nq, m7, fun H8 m8 => ?_⟩
    refine ⟨8, by decide, H, odd, q, rfl, rfl, sh, nw nq, m8, fun H9 m9 => ?_⟩
    refine ⟨9, by decide, H, odd, q, rfl, rfl, sh, nw nq, m9, fun H10 m10 => ?_⟩
    refine ⟨10, by decide, H, odd, q, rfl, rfl, sh, nw nq, m10, fun H11 m11 => ?_⟩
    refine ⟨11, by decide, H, odd, q, rfl, rfl, sh, nw nq, m11, fun H12 m12 => ?_⟩
    refine ⟨12, by decide, H, odd, q, rfl, rfl, sh, nw nq, m12, fun H13 m13 => ?_⟩
    refine ⟨13, by decide, H, odd, q, rfl, rfl, sh, nw nq, m13, fun H14 m14 => ?_⟩
    refine ⟨14, by decide, H, odd, q, rfl, rfl, sh, nw nq, m14, fun H15 m15 => ?_⟩
    refine ⟨15, by decide, H, odd, q, rfl, rfl, sh, nw nq, m15, fun H16 m16 => ?_⟩
    refine ⟨16, by decide, H, odd, q, rfl, rfl, sh, nw nq, m16, fun H17 m17 => ?_⟩
    refine ⟨17, by decide, H, odd, q, rfl, rfl, sh, nw nq, m17, fun H18 m18 => ?_⟩
    refine ⟨18, by decide, H, odd, q, rfl, rfl, sh, nw nq, m18, fun H19 m19 => ?_⟩
    refine ⟨19, by decide, H, odd, q, rfl, rfl, sh, nw nq, m19, fun H20 m20 => ?_⟩
    refine ⟨20, by decide, H, odd, q, rfl, rfl, sh, nw nq, m20, fun H21 m21 => ?_⟩
    refine ⟨21, by decide, H, odd, q, rfl, rfl, sh, nw nq, m21, fun H22 m22 => ?_⟩
    refine ⟨22, by decide, H, odd, q, rfl, rfl, sh, nw nq, m22, fun H23 m23 => ?_⟩
    refine ⟨23, by decide, H, odd, q, rfl, rfl, sh, nw nq, m23, fun H24 m24 => ?_⟩
    refine ⟨24, by decide, H, odd, q, rfl, rfl, sh, nw nq, m24, fun H25 m25 => ?_⟩
    refine ⟨25, by decide, H, odd, q, rfl, rfl, sh, nw nq, m25, fun H26 m26 => ?_⟩
    refine ⟨26, by decide, H, odd, q, rfl, rfl, sh, nw nq, m26, fun H27 m27 => ?_⟩
    refine ⟨27, by decide, H, odd, q, rfl, rfl, sh, nw nq, m27, fun H28 m28 => ?_⟩
    refine ⟨28, by decide, H, odd, q, rfl, rfl, sh, nw nq, m28, fun H29 m29 => ?_⟩
    refine ⟨29, by decide, H, odd, q, rfl, rfl, sh, nw nq, m29, fun H30 m30 => ?_⟩
    exact ⟨_, rfl, ma_end nq m30 k⟩
end K03

set_option Elab.async false
set_option linter.all false
set_option maxRecDepth 100000
set_option maxHeartbeats 8000000
namespace K03
open PySem PySem.Spec PyProof.Rows L2 Own LamX
theorem scsAskB : FnScope ["_law_odd", "_law_found"] ["_law_odd"] (defScope sAskB) := ⟨rfl, rfl, rfl, by decide +kernel, rfl, by decide +kernel, by decide +kernel⟩
abbrev qAskB : Str := ("_law_asked_b" : Str) ++ ".<locals>." ++ "<lambda>"
theorem ok_askB {P : Program} {w : World} {K : PySem.W.Frag} {mg : Str → Option Value} {base : Heap} {Ch f fM c Pt : Addr} {fd fdM : FuncData} {T0 : List (Addr × Str)} (F : FunC K "_law_asked_b" "_law_asked_b" sAskB f fd c)
    (FM : Fun K "_law_met" "_law_met" sMet fM fdM) (gM : mg "_law_met" = some (.ref fM)) (bM : Binds K fdM ["_law_ask"] []) (CA : Cau K mg Ch) (R : Refs P w K mg base Ch)
    (TB : TabB base mg c Pt) (hmT : (Pt, qAskB) ∈ T0) (hu : ∀ q ∈ T0, q.1 = Pt → q.2 = qAskB) : FnOk P w K mg base CX0 9 f fd ["_law_odd"] (spAsk T0 30) := by
  refine F.ok scsAskB (fun vs H Q E h => ?_) (fun A outer s H vs Q E hr h => ?_)
  · obtain ⟨odd, rfl, _⟩ := h
    rfl
  · obtain ⟨odd, rfl, hT, sh, k⟩ := h
    refine ⟨_, (pss_cons (ps_set (i := 1) scsAskB.nd rfl (Or.inl rfl) (pe_lst pa_nil))
  (pss_cons (st_ask (T := T0) 0 1 (pe_metP FM gM bM CA R.worth TB rfl hmT hu (hr.mono (by decide)) (lamS_by (by show lamSB (defScope sAskB) _ = true; decide +kernel)) (by rfl) (by rfl) (fun _ _ _ _ _ => rfl) (fun _ _ _ _ _ _ _ => ⟨by rfl, (pa_cons (pv 0) (pa_cons pe_non pa_nil))⟩)) (fun odd E σ H1 Q1 h0 s1 o1 => ⟨_, h0, _, _, rfl, rfl, s1, o1⟩))
  (pss_cons (st_ask (T := T0) 0 1 (pe_metK FM gM bM CA R.worth TB rfl hmT hu (hr.mono (by decide)) (lamS_by (by show lamSB (defScope sAskB) _ = true; decide +kernel)) (by rfl) (by rfl) (fun _ _ _ _ _ => rfl) (fun _ _ _ _ _ _ _ => ⟨by rfl, (pk_cons pe_non (pk_cons (pv 0) pk_nil))⟩)) (fun odd E σ H1 Q1 h0 s1 o1 => ⟨_, h0, rfl, _, _, rfl, rfl, s1, o1⟩))
  (pss_cons (st_ask (T := T0) 0 1 (pe_metP FM gM bM CA R.moments_for TB rfl hmT hu (hr.mono (by decide)) (lamS_by (by show lamSB (defScope sAskB) _ = true; decide +kernel)) (by rfl) (by rfl) (fun _ _ _ _ _ => rfl) (fun _ _ _ _ _ _ _ => ⟨by rfl, (pa_cons (pv 0) (pa_cons pe_non (pa_cons pe_non pa_nil)))⟩)) (fun odd E σ H1 Q1 h0 s1 o1 => ⟨_, h0, _, _, rfl, rfl, s1, o1⟩))
  (pss_cons (st_ask (T := T0) 0 1 (pe_metK FM gM bM CA R.moments_for TB rfl hmT hu (hr.mono (by decide)) (lamS_by (by show lamSB (defScope sAskB) _ = true; decide +kernel)) (by rfl) (by rfl) (fun _ _ _ _ _ => rfl) (fun _ _ _ _ _ _ _ => ⟨by rfl, (pk_cons pe_non (pk_cons pe_non (pk_cons (pv 0) pk_nil)))⟩)) (fun odd E σ H1 Q1 h0 s1 o1 => ⟨_, h0, rfl, _, _, rfl, rfl, s1, o1⟩))
  (pss_cons (st_ask (T := T0) 0 1 (pe_metP FM gM bM CA R.plan_by_order TB rfl hmT hu (hr.mono (by decide)) (lamS_by (by show lamSB (defScope sAskB) _ = true; decide +kernel)) (by rfl) (by rfl) (fun _ _ _ _ _ => rfl) (fun _ _ _ _ _ _ _ => ⟨by rfl, (pa_cons (pv 0) (pa_cons pe_non (pa_cons pe_non pa_nil)))⟩)) (fun odd E σ H1 Q1 h0 s1 o1 => ⟨_, h0, _, _, rfl, rfl, s1, o1⟩))
  (pss_cons (st_ask (T := T0) 0 1 (pe_metK FM gM bM CA R.plan_by_order TB rfl hmT hu (hr.mono (by decide)) (lamS_by (by show lamSB (defScope sAskB) _ = true; decide +kernel)) (by rfl) (by rfl) (fun _ _ _ _ _ => rfl) (fun _ _ _ _ _ _ _ => ⟨by rfl, (pk_cons pe_non (pk_cons pe_non (pk_cons (pv 0) pk_nil)))⟩)) (fun odd E σ H1 Q1 h0 s1 o1 => ⟨_, h0, rfl, _, _, rfl, rfl, s1, o1⟩))
  (pss_cons (st_ask (T := T0) 0 1 (pe_metP FM gM bM CA R.corner TB rfl hmT hu (hr.mono (by decide)) (lamS_by (by show lamSB (defScope sAskB) _ = true; decide +kernel)) (by rfl) (by rfl) (fun _ _ _ _ _ => rfl) (fun _ _ _ _ _ _ _ => ⟨by rfl, (pa_cons (pv 0) (pa_cons pe_non (pa_cons pe_non pa_nil)))⟩)) (fun odd E σ H1 Q1 h0 s1 o1 => ⟨_, h0, _, _, rfl, rfl, s1, o1⟩))
  (pss_cons (st_ask (T := T0) 0 1 (pe_metK FM gM bM CA R.corner TB rfl hmT hu (hr.mono (by decide)) (lamS_by (by show lamSB (defScope sAskB) _ = true; decide +kernel)) (by rfl) (by rfl) (fun _ _ _ _ _ => rfl) (fun _ _ _ _ _ _ _ => ⟨by rfl, (pk_cons pe_non (pk_cons pe_non (pk_cons (pv 0) pk_nil)))⟩)) (fun odd E σ H1 Q1 h0 s1 o1 => ⟨_, h0, rfl, _, _, rfl, rfl, s1, o1⟩))
  (pss_cons (st_ask (T := T0) 0 1 (pe_metP FM gM bM CA R.corners TB rfl hmT hu (hr.mono (by decide)) (lamS_by (by show lamSB (defScope sAskB) _ = true; decide +kernel)) (by rfl) (by rfl) (fun _ _ _ _ _ => rfl) (fun _ _ _ _ _ _ _ => ⟨by rfl, (pa_cons (pv 0) (pa_cons pe_non pa_nil))⟩)) (fun odd E σ H1 Q1 h0 s1 o1 => ⟨_, h0, _, _, rfl, rfl, s1, o1⟩))
  (pss_cons (st_ask (T := T0) 0 1 (pe_metK FM gM bM CA R.corners TB rfl hmT hu (hr.mono (by decide)) (lamS_by (by show lamSB (defScope sAskB) _ = true; decide +kernel)) (by rfl) (by rfl) (fun _ _ _ _ _ => rfl) (fun _ _ _ _ _ _ _ => ⟨by rfl, (pk_cons pe_non (pk_cons (pv 0) pk_nil))⟩)) (fun odd E σ H1 Q1 h0 s1 o1 => ⟨_, h0, rfl, _, _, rfl, rfl, s1, o1⟩))
  (pss_cons (st_ask (T := T0) 0 1 (pe_metP FM gM bM CA R.order_of TB rfl hmT hu (hr.mono (by decide)) (lamS_by (by show lamSB (defScope sAskB) _ = true; decide +kernel)) (by rfl) (by rfl) (fun _ _ _ _ _ => rfl) (fun _ _ _ _ _ _ _ => ⟨by rfl, (pa_cons (pv 0) (pa_cons pe_non (pa_cons pe_non pa_nil)))⟩)) (fun odd E σ H1 Q1 h0 s1 o1 => ⟨_, h0, _, _, rfl, rfl, s1, o1⟩))
  (pss_cons (st_ask (T := T0) 0 1 (pe_metK FM gM bM CA R.order_of TB rfl hmT hu (hr.mono (by decide)) (lamS_by (by show lamSB (defScope sAskB) _ = true; decide +kernel)) (by rfl) (by rfl) (fun _ _ _ _ _ => rfl) (fun _ _ _ _ _ _ _ => ⟨by rfl, (pk_cons pe_non (pk_cons pe_non (pk_cons (pv 0) pk_nil)))⟩)) (fun odd E σ H1 Q1 h0 s1 o1 => ⟨_, h0, rfl, _, _, rfl, rfl, s1, o1⟩))
  (pss_cons (st_ask (T := T0) 0 1 (pe_metP FM gM bM CA R.is_plan TB rfl hmT hu (hr.mono (by decide)) (lamS_by (by show lamSB (defScope sAskB) _ = true; decide +kernel)) (by rfl) (by rfl) (fun _ _ _ _ _ => rfl) (fun _ _ _ _ _ _ _ => ⟨by rfl, (pa_cons (pv 0) (pa_cons pe_non pa_nil))⟩)) (fun odd E σ H1 Q1 h0 s1 o1 => ⟨_, h0, _, _, rfl, rfl, s1, o1⟩))
  (pss_cons (st_ask (T := T0) 0 1 (pe_metK FM gM bM CA R.is_plan TB rfl hmT hu (hr.mono (by decide)) (lamS_by (by show lamSB (defScope sAskB) _ = true; decide +kernel)) (by rfl) (by rfl) (fun _ _ _ _ _ => rfl) (fun _ _ _ _ _ _ _ => ⟨by rfl, (pk_cons pe_non (pk_cons (pv 0) pk_nil))⟩)) (fun odd E σ H1 Q1 h0 s1 o1 => ⟨_, h0, rfl, _, _, rfl, rfl, s1, o1⟩))
  (pss_cons (st_ask (T := T0) 0 1 (pe_metP FM gM bM CA R.plan_fault TB rfl hmT hu (hr.mono (by decide)) (lamS_by (by show lamSB (defScope sAskB) _ = true; decide +kernel)) (by rfl) (by rfl) (fun _ _ _ _ _ => rfl) (fun _ _ _ _ _ _ _ => ⟨by rfl, (pa_cons (pv 0) (pa_cons pe_non pa_nil))⟩)) (fun odd E σ H1 Q1 h0 s1 o1 => ⟨_, h0, _, _, rfl, rfl, s1, o1⟩))
  (pss_cons (st_ask (T := T0) 0 1 (pe_metK FM gM bM CA R.plan_fault TB rfl hmT hu (hr.mono (by decide)) (lamS_by (by show lamSB (defScope sAskB) _ = true; decide +kernel)) (by rfl) (by rfl) (fun _ _ _ _ _ => rfl) (fun _ _ _ _ _ _ _ => ⟨by rfl, (pk_cons pe_non (pk_cons (pv 0) pk_nil))⟩)) (fun odd E σ H1 Q1 h0 s1 o1 => ⟨_, h0, rfl, _, _, rfl, rfl, s1, o1⟩))
  (pss_cons (st_ask (T := T0) 0 1 (pe_metP FM gM bM CA R.brings TB rfl hmT hu (hr.mono (by decide)) (lamS_by (by show lamSB (defScope sAskB) _ = true; decide +kernel)) (by rfl) (by rfl) (fun _ _ _ _ _ => rfl) (fun _ _ _ _ _ _ _ => ⟨by rfl, (pa_cons (pv 0) (pa_cons pe_non pa_nil))⟩)) (fun odd E σ H1 Q1 h0 s1 o1 => ⟨_, h0, _, _, rfl, rfl, s1, o1⟩))
  (pss_cons (st_ask (T := T0) 0 1 (pe_metK FM gM bM CA R.brings TB rfl hmT hu (hr.mono (by decide)) (lamS_by (by show lamSB (defScope sAskB) _ = true; decide +kernel)) (by rfl) (by rfl) (fun _ _ _ _ _ => rfl) (fun _ _ _ _ _ _ _ => ⟨by rfl, (pk_cons pe_non (pk_cons (pv 0) pk_nil))⟩)) (fun odd E σ H1 Q1 h0 s1 o1 => ⟨_, h0, rfl, _, _, rfl, rfl, s1, o1⟩))
  (pss_cons (st_ask (T := T0) 0 1 (pe_metP FM gM bM CA R.bell_of TB rfl hmT hu (hr.mono (by decide)) (lamS_by (by show lamSB (defScope sAskB) _ = true; decide +kernel)) (by rfl) (by rfl) (fun _ _ _ _ _ => rfl) (fun _ _ _ _ _ _ _ => ⟨by rfl, (pa_cons (pv 0) (pa_cons pe_non pa_nil))⟩)) (fun odd E σ H1 Q1 h0 s1 o1 => ⟨_, h0, _, _, rfl, rfl, s1, o1⟩))
  (pss_cons (st_ask (T := T0) 0 1 (pe_metK FM gM bM CA R.bell_of TB rfl hmT hu (hr.mono (by decide)) (lamS_by (by show lamSB (defScope sAskB) _ = true; decide +kernel)) (by rfl) (by rfl) (fun _ _ _ _ _ => rfl) (fun _ _ _ _ _ _ _ => ⟨by rfl, (pk_cons pe_non (pk_cons (pv 0) pk_nil))⟩)) (fun odd E σ H1 Q1 h0 s1 o1 => ⟨_, h0, rfl, _, _, rfl, rfl, s1, o1⟩))
  (pss_cons (st_ask (T := T0) 0 1 (pe_metP FM gM bM CA R.on_roads TB rfl hmT hu (hr.mono (by decide)) (lamS_by (by show lamSB (defScope sAskB) _ = true; decide +kernel)) (by rfl) (by rfl) (fun _ _ _ _ _ => rfl) (fun _ _ _ _ _ _ _ => ⟨by rfl, (pa_cons (pv 0) (pa_cons pe_non (pa_cons pe_non pa_nil)))⟩)) (fun odd E σ H1 Q1 h0 s1 o1 => ⟨_, h0, _, _, rfl, rfl, s1, o1⟩))
  (pss_cons (st_ask (T := T0) 0 1 (pe_metK FM gM bM CA R.on_roads TB rfl hmT hu (hr.mono (by decide)) (lamS_by (by show lamSB (defScope sAskB) _ = true; decide +kernel)) (by rfl) (by rfl) (fun _ _ _ _ _ => rfl) (fun _ _ _ _ _ _ _ => ⟨by rfl, (pk_cons pe_non (pk_cons pe_non (pk_cons (pv 0) pk_nil)))⟩)) (fun odd E σ H1 Q1 h0 s1 o1 => ⟨_, h0, rfl, _, _, rfl, rfl, s1, o1⟩))
  (pss_cons (st_ask (T := T0) 0 1 (pe_metP FM gM bM CA R.least_bell TB rfl hmT hu (hr.mono (by decide)) (lamS_by (by show lamSB (defScope sAskB) _ = true; decide +kernel)) (by rfl) (by rfl) (fun _ _ _ _ _ => rfl) (fun _ _ _ _ _ _ _ => ⟨by rfl, (pa_cons (pv 0) (pa_cons pe_non pa_nil))⟩)) (fun odd E σ H1 Q1 h0 s1 o1 => ⟨_, h0, _, _, rfl, rfl, s1, o1⟩))
  (pss_cons (st_ask (T := T0) 0 1 (pe_metK FM gM bM CA R.least_bell TB rfl hmT hu (hr.mono (by decide)) (lamS_by (by show lamSB (defScope sAskB) _ = true; decide +kernel)) (by rfl) (by rfl) (fun _ _ _ _ _ => rfl) (fun _ _ _ _ _ _ _ => ⟨by rfl, (pk_cons pe_non (pk_cons (pv 0) pk_nil))⟩)) (fun odd E σ H1 Q1 h0 s1 o1 => ⟨_, h0, rfl, _, _, rfl, rfl, s1, o1⟩))
  (pss_cons (st_ask (T := T0) 0 1 (pe_metP FM gM bM CA R.never TB rfl hmT hu (hr.mono (by decide)) (lamS_by (by show lamSB (defScope sAskB) _ = true; decide +kernel)) (by rfl) (by rfl) (fun _ _ _ _ _ => rfl) (fun _ _ _ _ _ _ _ => ⟨by rfl, (pa_cons (pv 0) (pa_cons pe_non pa_nil))⟩)) (fun odd E σ H1 Q1 h0 s1 o1 => ⟨_, h0, _, _, rfl, rfl, s1, o1⟩))
  (pss_cons (st_ask (T := T0) 0 1 (pe_metK FM gM bM CA R.never TB rfl hmT hu (hr.mono (by decide)) (lamS_by (by show lamSB (defScope sAskB) _ = true; decide +kernel)) (by rfl) (by rfl) (fun _ _ _ _ _ => rfl) (fun _ _ _ _ _ _ _ => ⟨by rfl, (pk_cons pe_non (pk_cons (pv 0) pk_nil))⟩)) (fun odd E σ H1 Q1 h0 s1 o1 => ⟨_, h0, rfl, _, _, rfl, rfl, s1, o1⟩))
  (pss_cons (st_ask (T := T0) 0 1 (pe_metP FM gM bM CA R.rising TB rfl hmT hu (hr.mono (by decide)) (lamS_by (by show lamSB (defScope sAskB) _ = true; decide +kernel)) (by rfl) (by rfl) (fun _ _ _ _ _ => rfl) (fun _ _ _ _ _ _ _ => ⟨by rfl, (pa_cons (pv 0) (pa_cons pe_non pa_nil))⟩)) (fun odd E σ H1 Q1 h0 s1 o1 => ⟨_, h0, _, _, rfl, rfl, s1, o1⟩))
  (pss_cons (st_ask (T := T0) 0 1 (pe_metK FM gM bM CA R.rising TB rfl hmT hu (hr.mono (by decide)) (lamS_by (by show lamSB (defScope sAskB) _ = true; decide +kernel)) (by rfl) (by rfl) (fun _ _ _ _ _ => rfl) (fun _ _ _ _ _ _ _ => ⟨by rfl, (pk_cons pe_non (pk_cons (pv 0) pk_nil))⟩)) (fun odd E σ H1 Q1 h0 s1 o1 => ⟨_, h0, rfl, _, _, rfl, rfl, s1, o1⟩))
  (pss_cons (st_ask (T := T0) 0 1 (pe_metP FM gM bM CA R.bell_with TB rfl hmT hu (hr.mono (by decide)) (lamS_by (by show lamSB (defScope sAskB) _ = true; decide +kernel)) (by rfl) (by rfl) (fun _ _ _ _ _ => rfl) (fun _ _ _ _ _ _ _ => ⟨by rfl, (pa_cons (pv 0) (pa_cons pe_non (pa_cons pe_non (pa_cons pe_non pa_nil))))⟩)) (fun odd E σ H1 Q1 h0 s1 o1 => ⟨_, h0, _, _, rfl, rfl, s1, o1⟩))
  (pss_cons (st_ask (T := T0) 0 1 (pe_metK FM gM bM CA R.bell_with TB rfl hmT hu (hr.mono (by decide)) (lamS_by (by show lamSB (defScope sAskB) _ = true; decide +kernel)) (by rfl) (by rfl) (fun _ _ _ _ _ => rfl) (fun _ _ _ _ _ _ _ => ⟨by rfl, (pk_cons pe_non (pk_cons pe_non (pk_cons pe_non (pk_cons (pv 0) pk_nil))))⟩)) (fun odd E σ H1 Q1 h0 s1 o1 => ⟨_, h0, rfl, _, _, rfl, rfl, s1, o1⟩))
  (pss_one (ps_ret (pv 1)))))))))))))))))))))))))))))))))), ?_⟩
    refine ⟨by decide, fun q nq => ?_⟩
    have m0 := ma_start (odd := odd) hT nq
    refine ⟨0, by decide, H, odd, q, rfl, rfl, sh, nw nq, m0, fun H1 m1 => ?_⟩
    refine ⟨1, by decide, H, odd, q, rfl, rfl, sh, nw nq, m1, fun H2 m2 => ?_⟩
    refine ⟨2, by decide, H, odd, q, rfl, rfl, sh, nw nq, m2, fun H3 m3 => ?_⟩
    refine ⟨3, by decide, H, odd, q, rfl, rfl, sh, nw nq, m3, fun H4 m4 => ?_⟩
    refine ⟨4, by decide, H, odd, q, rfl, rfl, sh, nw nq, m4, fun H5 m5 => ?_⟩
    refine ⟨5, by decide, H, odd, q, rfl, rfl, sh, nw nq, m5, fun H6 m6 => ?_⟩
    refine ⟨6, by decide, H, odd, q, rfl, rfl, sh, nw nq, m6, fun H7 m7 => ?_⟩
    refine ⟨7, by decide, H, odd, q, rfl, rfl, sh, nw nq, m7, fun H8 m8 => ?_⟩
    refine ⟨8, by decide, H, odd, q, rfl, rfl, sh, nw nq, m8, fun H9 m9 => ?_⟩
    refine ⟨9, by decide, H, odd, q, rfl, rfl, sh, nw nq, m9, fun H10 m10 => ?_⟩
    refine ⟨10, by decide, H, odd, q, rfl, rfl, sh, nw nq, m10, fun H11 m11 => ?_⟩
    refine ⟨11, by decide, H, odd, q, rfl, rfl, sh, nw nq, m11, fun H12 m12 => ?_⟩
    refine ⟨12, by decide, H, odd, q, rfl, rfl, sh, nw nq, m12, fun H13 m13 => ?_⟩
    refine ⟨13, by decide, H, odd, q, rfl, rfl, sh, nw nq, m13, fun H14 m14 => ?_⟩
    refine ⟨14, by decide, H, odd, q, rfl, rfl, sh, nw nq, m14, fun H15 m15 => ?_⟩
    refine ⟨15, by decide, H, odd, q, rfl, rfl, sh, nw nq, m15, fun H16 m16 => ?_⟩
    refine ⟨16, by decide, H, odd, q, rfl, rfl, sh, nw nq, m16, fun H17 m17 => ?_⟩
    refine ⟨17, by decide, H, odd, q, rfl, rfl, sh, nw nq, m17, fun H18 m18 => ?_⟩
    refine ⟨18, by decide, H, odd, q, rfl, rfl, sh, nw nq, m18, fun H19 m19 => ?_⟩
    refine ⟨19, by decide, H, odd, q, rfl, rfl, sh, nw nq, m19, fun H20 m20 => ?_⟩
    refine ⟨20, by decide, H, odd, q, rfl, rfl, sh, nw nq, m20, fun H21 m21 => ?_⟩
    refine ⟨21, by decide, H, odd, q, rfl, rfl, sh, nw nq, m21, fun H22 m22 => ?_⟩
    refine ⟨22, by decide, H, odd, q, rfl, rfl, sh, nw nq, m22, fun H23 m23 => ?_⟩
    refine ⟨23, by decide, H, odd, q, rfl, rfl, sh, nw nq, m23, fun H24 m24 => ?_⟩
    refine ⟨24, by decide, H, odd, q, rfl, rfl, sh, nw nq, m24, fun H25 m25 => ?_⟩
    refine ⟨25, by decide, H, odd, q, rfl, rfl, sh, nw nq, m25, fun H26 m26 => ?_⟩
    refine ⟨26, by decide, H, odd, q, rfl, rfl, sh, nw nq, m26, fun H27 m27 => ?_⟩
    refine ⟨27, by decide, H, odd, q, rfl, rfl, sh, nw nq, m27, fun H28 m28 => ?_⟩
    refine ⟨28, by decide, H, odd, q, rfl, rfl, sh, nw nq, m28, fun H29 m29 => ?_⟩
    refine ⟨29, by decide, H, odd, q, rfl, rfl, sh, nw nq, m29, fun H30 m30 => ?_⟩
    exact ⟨_, rfl, ma_end nq m30 k⟩
end K03

set_option Elab.async false
set_option linter.all false
set_option maxRecDepth 100000
set_option maxHeartbeats 8000000
namespace K03
open PySem PySem.Spec PyProof.Rows L2 Own LamX
theorem scsAskC : FnScope ["_law_odd", "_law_found"] ["_law_odd"] (defScope sAskC) := ⟨rfl, rfl, rfl, by decide +kernel, rfl, by decide +kernel, by decide +kernel⟩
abbrev qAskC : Str := ("_law_asked_c" : Str) ++ ".<locals>." ++ "<lambda>"
theorem ok_askC {P : Program} {w : World} {K : PySem.W.Frag} {mg : Str → Option Value} {base : Heap} {Ch f fM c Pt : Addr} {fd fdM : FuncData} {T0 : List (Addr × Str)} (F : FunC K "_law_asked_c" "_law_asked_c" sAskC f fd c)
    (FM : Fun K "_law_met" "_law_met" sMet fM fdM) (gM : mg "_law_met" = some (.ref fM)) (bM : Binds K fdM ["_law_ask"] []) (CA : Cau K mg Ch) (R : Refs P w K mg base Ch)
    (TB : TabB base mg c Pt) (hmT : (Pt, qAskC) ∈ T0) (hu : ∀ q ∈ T0, q.1 = Pt → q.2 = qAskC) : FnOk P w K mg base CX0 9 f fd ["_law_odd"] (spAsk T0 30) := by
  refine F.ok scsAskC (fun vs H Q E h => ?_) (fun A outer s H vs Q E hr h => ?_)
  · obtain ⟨odd, rfl, _⟩ := h
    rfl
  · obtain ⟨odd, rfl, hT, sh, k⟩ := h
    refine ⟨_, (pss_cons (ps_set (i := 1) scsAskC.nd rfl (Or.inl rfl) (pe_lst pa_nil))
  (pss_cons (st_ask (T := T0) 0 1 (pe_metP FM gM bM CA R.further TB rfl hmT hu (hr.mono (by decide)) (lamS_by (by show lamSB (defScope sAskC) _ = true; decide +kernel)) (by rfl) (by rfl) (fun _ _ _ _ _ => rfl) (fun _ _ _ _ _ _ _ => ⟨by rfl, (pa_cons (pv 0) (pa_cons pe_non (pa_cons pe_non (pa_cons pe_non (pa_cons pe_non pa_nil)))))⟩)) (fun odd E σ H1 Q1 h0 s1 o1 => ⟨_, h0, _, _, rfl, rfl, s1, o1⟩))
  (pss_cons (st_ask (T := T0) 0 1 (pe_metK FM gM bM CA R.further TB rfl hmT hu (hr.mono (by decide)) (lamS_by (by show lamSB (defScope sAskC) _ = true; decide +kernel)) (by rfl) (by rfl) (fun _ _ _ _ _ => rfl) (fun _ _ _ _ _ _ _ => ⟨by rfl, (pk_cons pe_non (pk_cons pe_non (pk_cons pe_non (pk_cons pe_non (pk_cons (pv 0) pk_nil)))))⟩)) (fun odd E σ H1 Q1 h0 s1 o1 => ⟨_, h0, rfl, _, _, rfl, rfl, s1, o1⟩))
  (pss_cons (st_ask (T := T0) 0 1 (pe_metP FM gM bM CA R.tight TB rfl hmT hu (hr.mono (by decide)) (lamS_by (by show lamSB (defScope sAskC) _ = true; decide +kernel)) (by rfl) (by rfl) (fun _ _ _ _ _ => rfl) (fun _ _ _ _ _ _ _ => ⟨by rfl, (pa_cons (pv 0) (pa_cons pe_non (pa_cons pe_non pa_nil)))⟩)) (fun odd E σ H1 Q1 h0 s1 o1 => ⟨_, h0, _, _, rfl, rfl, s1, o1⟩))
  (pss_cons (st_ask (T := T0) 0 1 (pe_metK FM gM bM CA R.tight TB rfl hmT hu (hr.mono (by decide)) (lamS_by (by show lamSB (defScope sAskC) _ = true; decide +kernel)) (by rfl) (by rfl) (fun _ _ _ _ _ => rfl) (fun _ _ _ _ _ _ _ => ⟨by rfl, (pk_cons pe_non (pk_cons pe_non (pk_cons (pv 0) pk_nil)))⟩)) (fun odd E σ H1 Q1 h0 s1 o1 => ⟨_, h0, rfl, _, _, rfl, rfl, s1, o1⟩))
  (pss_cons (st_ask (T := T0) 0 1 (pe_metP FM gM bM CA R.bound TB rfl hmT hu (hr.mono (by decide)) (lamS_by (by show lamSB (defScope sAskC) _ = true; decide +kernel)) (by rfl) (by rfl) (fun _ _ _ _ _ => rfl) (fun _ _ _ _ _ _ _ => ⟨by rfl, (pa_cons (pv 0) (pa_cons pe_non (pa_cons pe_non (pa_cons pe_non pa_nil))))⟩)) (fun odd E σ H1 Q1 h0 s1 o1 => ⟨_, h0, _, _, rfl, rfl, s1, o1⟩))
  (pss_cons (st_ask (T := T0) 0 1 (pe_metK FM gM bM CA R.bound TB rfl hmT hu (hr.mono (by decide)) (lamS_by (by show lamSB (defScope sAskC) _ = true; decide +kernel)) (by rfl) (by rfl) (fun _ _ _ _ _ => rfl) (fun _ _ _ _ _ _ _ => ⟨by rfl, (pk_cons pe_non (pk_cons pe_non (pk_cons pe_non (pk_cons (pv 0) pk_nil))))⟩)) (fun odd E σ H1 Q1 h0 s1 o1 => ⟨_, h0, rfl, _, _, rfl, rfl, s1, o1⟩))
  (pss_cons (st_ask (T := T0) 0 1 (pe_metP FM gM bM CA R.times TB rfl hmT hu (hr.mono (by decide)) (lamS_by (by show lamSB (defScope sAskC) _ = true; decide +kernel)) (by rfl) (by rfl) (fun _ _ _ _ _ => rfl) (fun _ _ _ _ _ _ _ => ⟨by rfl, (pa_cons (pv 0) (pa_cons pe_non (pa_cons pe_non pa_nil)))⟩)) (fun odd E σ H1 Q1 h0 s1 o1 => ⟨_, h0, _, _, rfl, rfl, s1, o1⟩))
  (pss_cons (st_ask (T := T0) 0 1 (pe_metK FM gM bM CA R.times TB rfl hmT hu (hr.mono (by decide)) (lamS_by (by show lamSB (defScope sAskC) _ = true; decide +kernel)) (by rfl) (by rfl) (fun _ _ _ _ _ => rfl) (fun _ _ _ _ _ _ _ => ⟨by rfl, (pk_cons pe_non (pk_cons pe_non (pk_cons (pv 0) pk_nil)))⟩)) (fun odd E σ H1 Q1 h0 s1 o1 => ⟨_, h0, rfl, _, _, rfl, rfl, s1, o1⟩))
  (pss_cons (st_ask (T := T0) 0 1 (pe_metP FM gM bM CA R.whole_times TB rfl hmT hu (hr.mono (by decide)) (lamS_by (by show lamSB (defScope sAskC) _ = true; decide +kernel)) (by rfl) (by rfl) (fun _ _ _ _ _ => rfl) (fun _ _ _ _ _ _ _ => ⟨by rfl, (pa_cons (pv 0) (pa_cons pe_non (pa_cons pe_non pa_nil)))⟩)) (fun odd E σ H1 Q1 h0 s1 o1 => ⟨_, h0, _, _, rfl, rfl, s1, o1⟩))
  (pss_cons (st_ask (T := T0) 0 1 (pe_metK FM gM bM CA R.whole_times TB rfl hmT hu (hr.mono (by decide)) (lamS_by (by show lamSB (defScope sAskC) _ = true; decide +kernel)) (by rfl) (by rfl) (fun _ _ _ _ _ => rfl) (fun _ _ _ _ _ _ _ => ⟨by rfl, (pk_cons pe_non (pk_cons pe_non (pk_cons (pv 0) pk_nil)))⟩)) (fun odd E σ H1 Q1 h0 s1 o1 => ⟨_, h0, rfl, _, _, rfl, rfl, s1, o1⟩))
  (pss_cons (st_ask (T := T0) 0 1 (pe_metP FM gM bM CA R.part_for TB rfl hmT hu (hr.mono (by decide)) (lamS_by (by show lamSB (defScope sAskC) _ = true; decide +kernel)) (by rfl) (by rfl) (fun _ _ _ _ _ => rfl) (fun _ _ _ _ _ _ _ => ⟨by rfl, (pa_cons (pv 0) (pa_cons pe_non (pa_cons pe_non pa_nil)))⟩)) (fun odd E σ H1 Q1 h0 s1 o1 => ⟨_, h0, _, _, rfl, rfl, s1, o1⟩))
  (pss_cons (st_ask (T := T0) 0 1 (pe_metK FM gM bM CA R.part_for TB rfl hmT hu (hr.mono (by decide)) (lamS_by (by show lamSB (defScope sAskC) _ = true; decide +kernel)) (by rfl) (by rfl) (fun _ _ _ _ _ => rfl) (fun _ _ _ _ _ _ _ => ⟨by rfl, (pk_cons pe_non (pk_cons pe_non (pk_cons (pv 0) pk_nil)))⟩)) (fun odd E σ H1 Q1 h0 s1 o1 => ⟨_, h0, rfl, _, _, rfl, rfl, s1, o1⟩))
  (pss_cons (st_ask (T := T0) 0 1 (pe_metP FM gM bM CA R.part_lot TB rfl hmT hu (hr.mono (by decide)) (lamS_by (by show lamSB (defScope sAskC) _ = true; decide +kernel)) (by rfl) (by rfl) (fun _ _ _ _ _ => rfl) (fun _ _ _ _ _ _ _ => ⟨by rfl, (pa_cons (pv 0) (pa_cons pe_non (pa_cons pe_non pa_nil)))⟩)) (fun odd E σ H1 Q1 h0 s1 o1 => ⟨_, h0, _, _, rfl, rfl, s1, o1⟩))
  (pss_cons (st_ask (T := T0) 0 1 (pe_metK FM gM bM CA R.part_lot TB rfl hmT hu (hr.mono (by decide)) (lamS_by (by show lamSB (defScope sAskC) _ = true; decide +kernel)) (by rfl) (by rfl) (fun _ _ _ _ _ => rfl) (fun _ _ _ _ _ _ _ => ⟨by rfl, (pk_cons pe_non (pk_cons pe_non (pk_cons (pv 0) pk_nil)))⟩)) (fun odd E σ H1 Q1 h0 s1 o1 => ⟨_, h0, rfl, _, _, rfl, rfl, s1, o1⟩))
  (pss_cons (st_ask (T := T0) 0 1 (pe_metP FM gM bM CA R.mix_for TB rfl hmT hu (hr.mono (by decide)) (lamS_by (by show lamSB (defScope sAskC) _ = true; decide +kernel)) (by rfl) (by rfl) (fun _ _ _ _ _ => rfl) (fun _ _ _ _ _ _ _ => ⟨by rfl, (pa_cons (pv 0) (pa_cons pe_non (pa_cons pe_non pa_nil)))⟩)) (fun odd E σ H1 Q1 h0 s1 o1 => ⟨_, h0, _, _, rfl, rfl, s1, o1⟩))
  (pss_cons (st_ask (T := T0) 0 1 (pe_metK FM gM bM CA R.mix_for TB rfl hmT hu (hr.mono (by decide)) (lamS_by (by show lamSB (defScope sAskC) _ = true; decide +kernel)) (by rfl) (by rfl) (fun _ _ _ _ _ => rfl) (fun _ _ _ _ _ _ _ => ⟨by rfl, (pk_cons pe_non (pk_cons pe_non (pk_cons (pv 0) pk_nil)))⟩)) (fun odd E σ H1 Q1 h0 s1 o1 => ⟨_, h0, rfl, _, _, rfl, rfl, s1, o1⟩))
  (pss_cons (st_ask (T := T0) 0 1 (pe_metP FM gM bM CA R.is_mix_for TB rfl hmT hu (hr.mono (by decide)) (lamS_by (by show lamSB (defScope sAskC) _ = true; decide +kernel)) (by rfl) (by rfl) (fun _ _ _ _ _ => rfl) (fun _ _ _ _ _ _ _ => ⟨by rfl, (pa_cons (pv 0) (pa_cons pe_non (pa_cons pe_non (pa_cons pe_non pa_nil))))⟩)) (fun odd E σ H1 Q1 h0 s1 o1 => ⟨_, h0, _, _, rfl, rfl, s1, o1⟩))
  (pss_cons (st_ask (T := T0) 0 1 (pe_metK FM gM bM CA R.is_mix_for TB rfl hmT hu (hr.mono (by decide)) (lamS_by (by show lamSB (defScope sAskC) _ = true; decide +kernel)) (by rfl) (by rfl) (fun _ _ _ _ _ => rfl) (fun _ _ _ _ _ _ _ => ⟨by rfl, (pk_cons pe_non (pk_cons pe_non (pk_cons pe_non (pk_cons (pv 0) pk_nil))))⟩)) (fun odd E σ H1 Q1 h0 s1 o1 => ⟨_, h0, rfl, _, _, rfl, rfl, s1, o1⟩))
  (pss_cons (st_ask (T := T0) 0 1 (pe_metP FM gM bM CA R.dearest TB rfl hmT hu (hr.mono (by decide)) (lamS_by (by show lamSB (defScope sAskC) _ = true; decide +kernel)) (by rfl) (by rfl) (fun _ _ _ _ _ => rfl) (fun _ _ _ _ _ _ _ => ⟨by rfl, (pa_cons (pv 0) (pa_cons pe_non (pa_cons pe_non pa_nil)))⟩)) (fun odd E σ H1 Q1 h0 s1 o1 => ⟨_, h0, _, _, rfl, rfl, s1, o1⟩))
  (pss_cons (st_ask (T := T0) 0 1 (pe_metK FM gM bM CA R.dearest TB rfl hmT hu (hr.mono (by decide)) (lamS_by (by show lamSB (defScope sAskC) _ = true; decide +kernel)) (by rfl) (by rfl) (fun _ _ _ _ _ => rfl) (fun _ _ _ _ _ _ _ => ⟨by rfl, (pk_cons pe_non (pk_cons pe_non (pk_cons (pv 0) pk_nil)))⟩)) (fun odd E σ H1 Q1 h0 s1 o1 => ⟨_, h0, rfl, _, _, rfl, rfl, s1, o1⟩))
  (pss_cons (st_ask (T := T0) 0 1 (pe_metP FM gM bM CA R.dearest_order TB rfl hmT hu (hr.mono (by decide)) (lamS_by (by show lamSB (defScope sAskC) _ = true; decide +kernel)) (by rfl) (by rfl) (fun _ _ _ _ _ => rfl) (fun _ _ _ _ _ _ _ => ⟨by rfl, (pa_cons (pv 0) (pa_cons pe_non (pa_cons pe_non pa_nil)))⟩)) (fun odd E σ H1 Q1 h0 s1 o1 => ⟨_, h0, _, _, rfl, rfl, s1, o1⟩))
  (pss_cons (st_ask (T := T0) 0 1 (pe_metK FM gM bM CA R.dearest_order TB rfl hmT hu (hr.mono (by decide)) (lamS_by (by show lamSB (defScope sAskC) _ = true; decide +kernel)) (by rfl) (by rfl) (fun _ _ _ _ _ => rfl) (fun _ _ _ _ _ _ _ => ⟨by rfl, (pk_cons pe_non (pk_cons pe_non (pk_cons (pv 0) pk_nil)))⟩)) (fun odd E σ H1 Q1 h0 s1 o1 => ⟨_, h0, rfl, _, _, rfl, rfl, s1, o1⟩))
  (pss_cons (st_ask (T := T0) 0 1 (pe_metP FM gM bM CA R.turned TB rfl hmT hu (hr.mono (by decide)) (lamS_by (by show lamSB (defScope sAskC) _ = true; decide +kernel)) (by rfl) (by rfl) (fun _ _ _ _ _ => rfl) (fun _ _ _ _ _ _ _ => ⟨by rfl, (pa_cons (pv 0) pa_nil)⟩)) (fun odd E σ H1 Q1 h0 s1 o1 => ⟨_, h0, _, _, rfl, rfl, s1, o1⟩))
  (pss_cons (st_ask (T := T0) 0 1 (pe_metK FM gM bM CA R.turned TB rfl hmT hu (hr.mono (by decide)) (lamS_by (by show lamSB (defScope sAskC) _ = true; decide +kernel)) (by rfl) (by rfl) (fun _ _ _ _ _ => rfl) (fun _ _ _ _ _ _ _ => ⟨by rfl, (pk_cons (pv 0) pk_nil)⟩)) (fun odd E σ H1 Q1 h0 s1 o1 => ⟨_, h0, rfl, _, _, rfl, rfl, s1, o1⟩))
  (pss_cons (st_ask (T := T0) 0 1 (pe_metP FM gM bM CA R.turned_plan TB rfl hmT hu (hr.mono (by decide)) (lamS_by (by show lamSB (defScope sAskC) _ = true; decide +kernel)) (by rfl) (by rfl) (fun _ _ _ _ _ => rfl) (fun _ _ _ _ _ _ _ => ⟨by rfl, (pa_cons (pv 0) (pa_cons pe_non (pa_cons pe_non pa_nil)))⟩)) (fun odd E σ H1 Q1 h0 s1 o1 => ⟨_, h0, _, _, rfl, rfl, s1, o1⟩))
  (pss_cons (st_ask (T := T0) 0 1 (pe_metK FM gM bM CA R.turned_plan TB rfl hmT hu (hr.mono (by decide)) (lamS_by (by show lamSB (defScope sAskC) _ = true; decide +kernel)) (by rfl) (by rfl) (fun _ _ _ _ _ => rfl) (fun _ _ _ _ _ _ _ => ⟨by rfl, (pk_cons pe_non (pk_cons pe_non (pk_cons (pv 0) pk_nil)))⟩)) (fun odd E σ H1 Q1 h0 s1 o1 => ⟨_, h0, rfl, _, _, rfl, rfl, s1, o1⟩))
  (pss_cons (st_ask (T := T0) 0 1 (pe_metP FM gM bM CA R.first_unlike TB rfl hmT hu (hr.mono (by decide)) (lamS_by (by show lamSB (defScope sAskC) _ = true; decide +kernel)) (by rfl) (by rfl) (fun _ _ _ _ _ => rfl) (fun _ _ _ _ _ _ _ => ⟨by rfl, (pa_cons (pv 0) (pa_cons pe_non pa_nil))⟩)) (fun odd E σ H1 Q1 h0 s1 o1 => ⟨_, h0, _, _, rfl, rfl, s1, o1⟩))
  (pss_cons (st_ask (T := T0) 0 1 (pe_metK FM gM bM CA R.first_unlike TB rfl hmT hu (hr.mono (by decide)) (lamS_by (by show lamSB (defScope sAskC) _ = true; decide +kernel)) (by rfl) (by rfl) (fun _ _ _ _ _ => rfl) (fun _ _ _ _ _ _ _ => ⟨by rfl, (pk_cons pe_non (pk_cons (pv 0) pk_nil))⟩)) (fun odd E σ H1 Q1 h0 s1 o1 => ⟨_, h0, rfl, _, _, rfl, rfl, s1, o1⟩))
  (pss_cons (st_ask (T := T0) 0 1 (pe_metP FM gM bM CA R.parting TB rfl hmT hu (hr.mono (by decide)) (lamS_by (by show lamSB (defScope sAskC) _ = true; decide +kernel)) (by rfl) (by rfl) (fun _ _ _ _ _ => rfl) (fun _ _ _ _ _ _ _ => ⟨by rfl, (pa_cons (pv 0) (pa_cons pe_non pa_nil))⟩)) (fun odd E σ H1 Q1 h0 s1 o1 => ⟨_, h0, _, _, rfl, rfl, s1, o1⟩))
  (pss_cons (st_ask (T := T0) 0 1 (pe_metK FM gM bM CA R.parting TB rfl hmT hu (hr.mono (by decide)) (lamS_by (by show lamSB (defScope sAskC) _ = true; decide +kernel)) (by rfl) (by rfl) (fun _ _ _ _ _ => rfl) (fun _ _ _ _ _ _ _ => ⟨by rfl, (pk_cons pe_non (pk_cons (pv 0) pk_nil))⟩)) (fun odd E σ H1 Q1 h0 s1 o1 => ⟨_, h0, rfl, _, _, rfl, rfl, s1, o1⟩))
  (pss_one (ps_ret (pv 1)))))))))))))))))))))))))))))))))), ?_⟩
    refine ⟨by decide, fun q nq => ?_⟩
    have m0 := ma_start (odd := odd) hT nq
    refine ⟨0, by decide, H, odd, q, rfl, rfl, sh, nw nq, m0, fun H1 m1 => ?_⟩
    refine ⟨1, by decide, H, odd, q, rfl, rfl, sh, nw nq, m1, fun H2 m2 => ?_⟩
    refine ⟨2, by decide, H, odd, q, rfl, rfl, sh, nw nq, m2, fun H3 m3 => ?_⟩
    refine ⟨3, by decide, H, odd, q, rfl, rfl, sh, nw nq, m3, fun H4 m4 => ?_⟩
    refine ⟨4, by decide, H, odd, q, rfl, rfl, sh, nw nq, m4, fun H5 m5 => ?_⟩
    refine ⟨5, by decide, H, odd, q, rfl, rfl, sh, nw nq, m5, fun H6 m6 => ?_⟩
    refine ⟨6, by decide, H, odd, q, rfl, rfl, sh, nw nq, m6, fun H7 m7 => ?_⟩
    refine ⟨7, by decide, H, odd, q, rfl, rfl, sh, nw nq, m7, fun H8 m8 => ?_⟩
    refine ⟨8, by decide, H, odd, q, rfl, rfl, sh, nw nq, m8, fun H9 m9 => ?_⟩
    refine ⟨9, by decide, H, odd, q, rfl, rfl, sh, nw nq, m9, fun H10 m10 => ?_⟩
    refine ⟨10, by decide, H, odd, q, rfl, rfl, sh, nw nq, m10, fun H11 m11 => ?_⟩
    refine ⟨11, by decide, H, odd, q, rfl, rfl, sh, nw nq, m11, fun H12 m12 => ?_⟩
    refine ⟨12, by decide, H, odd, q, rfl, rfl, sh, nw nq, m12, fun H13 m13 => ?_⟩
    refine ⟨13, by decide, H, odd, q, rfl, rfl, sh, nw nq, m13, fun H14 m14 => ?_⟩
    refine ⟨14, by decide, H, odd, q, rfl, rfl, sh, nw nq, m14, fun H15 m15 => ?_⟩
    refine ⟨15, by decide, H, odd, q, rfl, rfl, sh, nw nq, m15, fun H16 m16 => ?_⟩
    refine ⟨16, by decide, H, odd, q, rfl, rfl, sh, nw nq, m16, fun H17 m17 => ?_⟩
    refine ⟨17, by decide, H, odd, q, rfl, rfl, sh, nw nq, m17, fun H18 m18 => ?_⟩
    refine ⟨18, by decide, H, odd, q, rfl, rfl, sh, nw nq, m18, fun H19 m19 => ?_⟩
    refine ⟨19, by decide, H, odd, q, rfl, rfl, sh, nw nq, m19, fun H20 m20 => ?_⟩
    refine ⟨20, by decide, H, odd, q, rfl, rfl, sh, nw nq, m20, fun H21 m21 => ?_⟩
    refine ⟨21, by decide, H, odd, q, rfl, rfl, sh, nw nq, m21, fun H22 m22 => ?_⟩
    refine ⟨22, by decide, H, odd, q, rfl, rfl, sh, nw nq, m22, fun H23 m23 => ?_⟩
    refine ⟨23, by decide, H, odd, q, rfl, rfl, sh, nw nq, m23, fun H24 m24 => ?_⟩
    refine ⟨24, by decide, H, odd, q, rfl, rfl, sh, nw nq, m24, fun H25 m25 => ?_⟩
    refine ⟨25, by decide, H, odd, q, rfl, rfl, sh, nw nq, m25, fun H26 m26 => ?_⟩
    refine ⟨26, by decide, H, odd, q, rfl, rfl, sh, nw nq, m26, fun H27 m27 => ?_⟩
    refine ⟨27, by decide, H, odd, q, rfl, rfl, sh, nw nq, m27, fun H28 m28 => ?_⟩
    refine ⟨28, by decide, H, odd, q, rfl, rfl, sh, nw nq, m28, fun H29 m29 => ?_⟩
    refine ⟨29, by decide, H, odd, q, rfl, rfl, sh, nw nq, m29, fun H30 m30 => ?_⟩
    exact ⟨_, rfl, ma_end nq m30 k⟩
end K03

set_option Elab.async false
set_option linter.all false
set_option maxRecDepth 100000
set_option maxHeartbeats 8000000
namespace K03
open PySem PySem.Spec PyProof.Rows L2 Own LamX
abbrev NLaw : List Str := ["_law_script", "_law_stream_here", "_law_house_here", "_law_odd", "_law_found"]
theorem scLaw : FnScope NLaw ["_law_script"] (defScope sLaw) := ⟨rfl, rfl, rfl, by decide +kernel, rfl, by decide +kernel, by decide +kernel⟩
abbrev qLw : Str := ("law" : Str) ++ ".<locals>." ++ "<lambda>"
def spLaw (K : PySem.W.Frag) (T : List (Addr × Str)) : Sp := fun vs H Q _ => ∃ (a : Addr) (ns : List Int), vs = [.ref a] ∧ SqL K H a (ns.map V.int) ∧ ns.length ≤ 63 ∧ Tabs T H ∧ ∀ H', Q (.bl true) H'
theorem scDesk : FnScope ["self", "house", "bell"] ["self", "house", "bell"] (defScope sDesk) := ⟨rfl, rfl, rfl, by decide +kernel, rfl, by decide +kernel, by decide +kernel⟩
/-- self, then the keywords from the last to the first -/
def gD {α : Type} : List α → List α → List α
  | u, ws => u ++ ws.reverse
theorem paired_app {α β : Type} {F : α → β → Prop} : ∀ {xs : List α} {ys : List β} {us : List α} {vs : List β}, Paired F xs ys → Paired F us vs → Paired F (xs ++ us) (ys ++ vs)
  | _, _, _, _, .nil, h => h
  | _, _, _, _, .cons a t, h => .cons a (paired_app t h)
theorem kbn_desk {K : PySem.W.Frag} {f : Addr} {fd : FuncData} (F : Fun K "__init__" "Desk.__init__" sDesk f fd) : KBn K fd ["self", "house", "bell"] 1 ["bell", "house"] gD gD := by
  obtain ⟨oc, od, kV, doc, pm, an, cdv, ct, osl, rfl, lk, hcd⟩ := F.ex
  refine ⟨fun s us ws X l1 l2 => BindsTo.of_looks fun M => ?_, fun {vs us zs ws} r1 r2 => ?_⟩
  · match us, ws, l1, l2 with
    | [u], [p, d], _, _ => exact .of_pure rfl
  · exact paired_app r1 (vals_rev r2)
/-! ### the nine things -/
/-- each is a tuple of a few flat things -/
def Flats (H : Hp) (xs : List V) : Prop := ∀ v ∈ xs, ∃ (t : Addr) (zs : List V), v = .ref t ∧ H t = some (.tup zs) ∧ zs.length ≤ 20 ∧ ∀ z ∈ zs, atomV z = true
theorem Flats.ext {H H' : Hp} {xs : List V} (h : Flats H xs) (e : ExtN H H') : Flats H' xs := fun v hv => by
  obtain ⟨t, zs, h1, h2, h3⟩ := h v hv
  exact ⟨t, zs, h1, e _ _ h2 (fun _ z => by cases z), h3⟩
abbrev vals (e d q6 t q8 : Addr) : List V := [.non, .int 5, .str "house", .bl true, .ref e, .ref d, .ref q6, .ref t, .ref q8]
structure Ob (many : Int) (tp e d q6 t q8 q9 pr pd : Addr) (xs ys : List V) (n : Nat) (H : Hp) : Prop where
  htp : H tp = some (.tup (vals e d q6 t q8))
  he : H e = some (.tup [])
  hd : H d = some (.dK [(.inr "a", .int 0)])
  h6 : ∃ r, H q6 = some (.lst ([.int many, .ref pr, .ref pd] ++ r)) ∧ r.length ≤ n ∧ ∀ v ∈ r, atomV v = true
  ht : H t = some (.tup [.int many, .ref pr, .ref pd])
  h8 : ∃ r, H q8 = some (.lst ([.ref q9, .int 1] ++ r)) ∧ r.length ≤ n ∧ ∀ v ∈ r, atomV v = true
  h9 : H q9 = some (.lst [.int many])
  hr : H pr = some (.lst xs)
  hp : H pd = some (.lst ys)
  fr : Flats H xs
  fp : Flats H ys
  lr : xs.length ≤ 100
  lp : ys.length ≤ 100
  n1 : q6 ≠ pr
  n2 : q6 ≠ pd
  n3 : q6 ≠ q8
  n4 : q6 ≠ q9
  n5 : q8 ≠ pr
  n6 : q8 ≠ pd
  n7 : q8 ≠ q9
theorem Ob.ext {many : Int} {tp e d q6 t q8 q9 pr pd : Addr} {xs ys : List V} {n : Nat} {H H' : Hp} (o : Ob many tp e d q6 t q8 q9 pr pd xs ys n H) (k : ExtN H H') : Ob many tp e d q6 t q8 q9 pr pd xs ys n H' := by
  obtain ⟨h1, h2, h3, ⟨r6, a6, b6⟩, h5, ⟨r8, a8, b8⟩, h7, h8, h9, f1, f2, l1, l2, n1, n2, n3, n4, n5, n6, n7⟩ := o
  have kk : ∀ {b : Addr} {u : HO}, H b = some u → (∀ z, u ≠ .tbl z) → H' b = some u := fun {b u} e nt => k b u e nt
  exact ⟨kk h1 (fun _ z => by cases z), kk h2 (fun _ z => by cases z), kk h3 (fun _ z => by cases z), ⟨r6, kk a6 (fun _ z => by cases z), b6⟩, kk h5 (fun _ z => by cases z), ⟨r8, kk a8 (fun _ z => by cases z), b8⟩,
    kk h7 (fun _ z => by cases z), kk h8 (fun _ z => by cases z), kk h9 (fun _ z => by cases z), f1.ext k, f2.ext k, l1, l2, n1, n2, n3, n4, n5, n6, n7⟩
theorem paired_self {α : Type} {F : α → α → Prop} : ∀ {xs : List α}, (∀ x ∈ xs, F x x) → Paired F xs xs
  | [], _ => .nil
  | x :: r, h => .cons (h x List.mem_cons_self) (paired_self fun y hy => h y (List.mem_cons_of_mem _ hy))
theorem eqt_flats {H : Hp} {p : Addr} {xs : List V} (h : H p = some (.lst xs)) (f : Flats H xs) (l : xs.length ≤ 100) : Eqt 2 H (.ref p) (.ref p) :=
  .inr (.inl ⟨p, p, xs, xs, rfl, rfl, h, h, paired_self fun v hv => by
    obtain ⟨t, zs, rfl, h2, h3, h4⟩ := f v hv
    exact .inr (.inr (.inl ⟨t, t, zs, zs, rfl, rfl, h2, h2, paired_self fun z hz => eqt_atom (h4 z hz), by omega⟩)), by omega⟩)
theorem eqt_atoms {H : Hp} {n : Nat} {r : List V} (h : ∀ v ∈ r, atomV v = true) : Paired (Eqt n H) r r := paired_self fun v hv => eqt_atom (h v hv)
section
variable {many : Int} {tp e d q6 t q8 q9 pr pd : Addr} {xs ys : List V} {n : Nat} {H : Hp}
theorem Ob.house3 (o : Ob many tp e d q6 t q8 q9 pr pd xs ys n H) : Paired (Eqt 2 H) [V.int many, .ref pr, .ref pd] [V.int many, .ref pr, .ref pd] :=
  .cons (eqt_atom rfl) (.cons (eqt_flats o.hr o.fr o.lr) (.cons (eqt_flats o.hp o.fp o.lp) .nil))
theorem Ob.eqt6 (o : Ob many tp e d q6 t q8 q9 pr pd xs ys n H) (hn : n ≤ 20) : Eqt 3 H (.ref q6) (.ref q6) := by
  obtain ⟨r, h1, h2, h3⟩ := o.h6
  refine .inr (.inl ⟨q6, q6, _, _, rfl, rfl, h1, h1, paired_app o.house3 (eqt_atoms h3), ?_⟩)
  rw [List.length_append]
  show 3 + r.length ≤ 1000
  omega
theorem Ob.eqt8 (o : Ob many tp e d q6 t q8 q9 pr pd xs ys n H) (hn : n ≤ 20) : Eqt 3 H (.ref q8) (.ref q8) := by
  obtain ⟨r, h1, h2, h3⟩ := o.h8
  refine .inr (.inl ⟨q8, q8, _, _, rfl, rfl, h1, h1, paired_app (.cons (.inr (.inl ⟨q9, q9, _, _, rfl, rfl, o.h9, o.h9, .cons (eqt_atom rfl) .nil, by show 1 ≤ 1000; decide⟩)) (.cons (eqt_atom rfl) .nil)) (eqt_atoms h3), ?_⟩)
  rw [List.length_append]
  show 2 + r.length ≤ 1000
  omega
theorem lst_ne {H : Hp} {a b : Addr} {xs : List V} {u : HO} (h : H a = some (.lst xs)) (k : H b = some u) (n : ∀ zs, u ≠ .lst zs) : b ≠ a := fun z => by
  rw [z, h] at k
  exact n xs (Option.some.inj k).symm
theorem Flats.upd {H : Hp} {q : Addr} {xs zs : List V} {o : HO} (f : Flats H xs) (h : H q = some (.lst zs)) : Flats (upd H q o) xs := fun v hv => by
  obtain ⟨t, us, h1, h2, h3⟩ := f v hv
  exact ⟨t, us, h1, by rw [upd_ne (lst_ne h h2 (fun _ z => by cases z))]; exact h2, h3⟩
/-- one more behind the list at q6, or at q8 -/
theorem Ob.app6 (o : Ob many tp e d q6 t q8 q9 pr pd xs ys n H) {r : List V} (h : H q6 = some (.lst ([.int many, .ref pr, .ref pd] ++ r))) (hl : r.length ≤ n) (ha : ∀ v ∈ r, atomV v = true) :
    Ob many tp e d q6 t q8 q9 pr pd xs ys (n + 1) (upd H q6 (.lst ([.int many, .ref pr, .ref pd] ++ r ++ [.str "late"]))) := by
  obtain ⟨h1, h2, h3, _, h5, ⟨r8, a8, b8, c8⟩, h7, h8, h9, f1, f2, l1, l2, n1, n2, n3, n4, n5, n6, n7⟩ := o
  have up : ∀ {b : Addr} {u : HO}, H b = some u → (∀ zs, u ≠ .lst zs) → upd H q6 (.lst ([.int many, .ref pr, .ref pd] ++ r ++ [.str "late"])) b = some u := fun {b u} e nl => by
    rw [upd_ne (lst_ne h e nl)]
    exact e
  refine ⟨up h1 (fun _ z => by cases z), up h2 (fun _ z => by cases z), up h3 (fun _ z => by cases z), ⟨r ++ [.str "late"], by rw [upd_same, List.append_assoc], by rw [List.length_append]; show r.length + 1 ≤ n + 1; omega, fun v hv => ?_⟩, up h5 (fun _ z => by cases z),
    ⟨r8, by rw [upd_ne n3.symm]; exact a8, by omega, c8⟩, by rw [upd_ne n4.symm]; exact h7, by rw [upd_ne n1.symm]; exact h8, by rw [upd_ne n2.symm]; exact h9, f1.upd h, f2.upd h, l1, l2, n1, n2, n3, n4, n5, n6, n7⟩
  rcases List.mem_append.mp hv with hv | hv
  · exact ha v hv
  · rw [List.mem_singleton.mp hv]
    rfl
theorem Ob.app8 (o : Ob many tp e d q6 t q8 q9 pr pd xs ys n H) {r : List V} (h : H q8 = some (.lst ([.ref q9, .int 1] ++ r))) (hl : r.length ≤ n) (ha : ∀ v ∈ r, atomV v = true) :
    Ob many tp e d q6 t q8 q9 pr pd xs ys (n + 1) (upd H q8 (.lst ([.ref q9, .int 1] ++ r ++ [.str "late"]))) := by
  obtain ⟨h1, h2, h3, ⟨r6, a6, b6, c6⟩, h5, _, h7, h8, h9, f1, f2, l1, l2, n1, n2, n3, n4, n5, n6, n7⟩ := o
  have up : ∀ {b : Addr} {u : HO}, H b = some u → (∀ zs, u ≠ .lst zs) → upd H q8 (.lst ([.ref q9, .int 1] ++ r ++ [.str "late"])) b = some u := fun {b u} e nl => by
    rw [upd_ne (lst_ne h e nl)]
    exact e
  refine ⟨up h1 (fun _ z => by cases z), up h2 (fun _ z => by cases z), up h3 (fun _ z => by cases z), ⟨r6, by rw [upd_ne n3]; exact a6, by omega, c6⟩, up h5 (fun _ z => by cases z),
    ⟨r ++ [.str "late"], by rw [upd_same, List.append_assoc], by rw [List.length_append]; show r.length + 1 ≤ n + 1; omega, fun v hv => ?_⟩, by rw [upd_ne n7.symm]; exact h7, by rw [upd_ne n5.symm]; exact h8, by rw [upd_ne n6.symm]; exact h9, f1.upd h, f2.upd h, l1, l2, n1, n2, n3, n4, n5, n6, n7⟩
  rcases List.mem_append.mp hv with hv | hv
  · exact ha v hv
  · rw [List.mem_singleton.mp hv]
    rfl
theorem Ob.succ (o : Ob many tp e d q6 t q8 q9 pr pd xs ys n H) : Ob many tp e d q6 t q8 q9 pr pd xs ys (n + 1) H := by
  obtain ⟨h1, h2, h3, ⟨r6, a6, b6, c6⟩, h5, ⟨r8, a8, b8, c8⟩, h7, h8, h9, f1, f2, l1, l2, n1, n2, n3, n4, n5, n6, n7⟩ := o
  exact ⟨h1, h2, h3, ⟨r6, a6, by omega, c6⟩, h5, ⟨r8, a8, by omega, c8⟩, h7, h8, h9, f1, f2, l1, l2, n1, n2, n3, n4, n5, n6, n7⟩
/-- a thing: no list, or a list that may grow -/
theorem Ob.kind {K : PySem.W.Frag} (o : Ob many tp e d q6 t q8 q9 pr pd xs ys n H) (hn : n ≤ 20) {v : V} (hv : v ∈ vals e d q6 t q8) : Shp H v ∧ Eqt 3 H v v ∧
    ((∃ T, kitB T "list" = some false ∧ ∀ H', ExtN H H' → TyX K H' v (.type T)) ∨ ∃ (q : Addr) (zs : List V), v = .ref q ∧ H q = some (.lst zs) ∧ zs.length ≤ 30 ∧
      ∀ H', ExtN H H' → Ob many tp e d q6 t q8 q9 pr pd xs ys (n + 1) (upd H' q (.lst (zs ++ [.str "late"]))) ∧ Eqt 3 (upd H' q (.lst (zs ++ [.str "late"]))) v v) := by
  simp only [List.mem_cons, List.not_mem_nil, or_false] at hv
  rcases hv with rfl | rfl | rfl | rfl | rfl | rfl | rfl | rfl | rfl
  · exact ⟨.inl rfl, eqt_atom rfl, .inl ⟨"NoneType", by decide +kernel, fun _ _ => .base .non⟩⟩
  · exact ⟨.inl rfl, eqt_atom rfl, .inl ⟨"int", by decide +kernel, fun _ _ => .base (.int _)⟩⟩
  · exact ⟨.inl rfl, eqt_atom rfl, .inl ⟨"str", by decide +kernel, fun _ _ => .base (.str _)⟩⟩
  · exact ⟨.inl rfl, eqt_atom rfl, .inl ⟨"bool", by decide +kernel, fun _ _ => .base (.bl _)⟩⟩
  · exact ⟨.inr (.inr (.inl ⟨_, _, rfl, o.he⟩)), .inr (.inr (.inl ⟨_, _, _, _, rfl, rfl, o.he, o.he, .nil, by show 0 ≤ 1000; decide⟩)), .inl ⟨"tuple", by decide +kernel, fun _ k => .base (.tup (o.ext k).he)⟩⟩
  · exact ⟨.inr (.inr (.inr ⟨_, _, rfl, o.hd⟩)), .inr (.inr (.inr ⟨by decide, _, _, _, rfl, rfl, o.hd, o.hd, fun p hp => by rw [List.mem_singleton.mp hp]; rfl, by show 1 ≤ 1000; decide⟩)), .inl ⟨"dict", by decide +kernel, fun _ k => .base (.dK (o.ext k).hd)⟩⟩
  · obtain ⟨r, h1, h2, h3⟩ := o.h6
    refine ⟨.inr (.inl ⟨_, _, rfl, h1⟩), o.eqt6 hn, .inr ⟨q6, _, rfl, h1, by rw [List.length_append]; show 3 + r.length ≤ 30; omega, fun H' k => ?_⟩⟩
    have o2 := (o.ext k).app6 (k _ _ h1 (fun _ z => by cases z)) h2 h3
    refine ⟨o2, ?_⟩
    obtain ⟨r6, a6, b6, c6⟩ := o2.h6
    refine .inr (.inl ⟨q6, q6, _, _, rfl, rfl, a6, a6, paired_app o2.house3 (eqt_atoms c6), ?_⟩)
    rw [List.length_append]
    show 3 + r6.length ≤ 1000
    omega
  · exact ⟨.inr (.inr (.inl ⟨_, _, rfl, o.ht⟩)), .inr (.inr (.inl ⟨_, _, _, _, rfl, rfl, o.ht, o.ht, o.house3, by show 3 ≤ 1000; decide⟩)), .inl ⟨"tuple", by decide +kernel, fun _ k => .base (.tup (o.ext k).ht)⟩⟩
  · obtain ⟨r, h1, h2, h3⟩ := o.h8
    refine ⟨.inr (.inl ⟨_, _, rfl, h1⟩), o.eqt8 hn, .inr ⟨q8, _, rfl, h1, by rw [List.length_append]; show 2 + r.length ≤ 30; omega, fun H' k => ?_⟩⟩
    have o2 := (o.ext k).app8 (k _ _ h1 (fun _ z => by cases z)) h2 h3
    refine ⟨o2, ?_⟩
    obtain ⟨r8, a8, b8, c8⟩ := o2.h8
    refine .inr (.inl ⟨q8, q8, _, _, rfl, rfl, a8, a8, paired_app (.cons (.inr (.inl ⟨q9, q9, _, _, rfl, rfl, o2.h9, o2.h9, .cons (eqt_atom rfl) .nil, by show 1 ≤ 1000; decide⟩)) (.cons (eqt_atom rfl) .nil)) (eqt_atoms c8), ?_⟩)
    rw [List.length_append]
    show 2 + r8.length ≤ 1000
    omega
end
section
variable {X : Cx} {T : List (Addr × Str)} {g c Pt Ch C fI : Addr} {fd fdI : FuncData} {params : Arguments} {scope : Scope} {e1 : Expr} {es : List Expr} {kws : List Keyword} {ta : TA} {p lpos pos p2 pos2 : Pos}
/-- _law_met(lambda: Desk(a, b)) -/
theorem pe_metD (F : Fun X.K "_law_met" "_law_met" sMet g fd) (gm : X.mg "_law_met" = some (.ref g)) (bM : L2.Binds X.K fd ["_law_ask"] []) (CA : Cau X.K X.mg Ch) (M : Mk X.K C fI) (GI : FnOk X.prog X.w X.K X.mg X.base (L2.CX X.prog X.w) 5 fI fdI ["self", "house", "bell"] (spBadI Ch 3))
    (gI : X.mg "Desk" = some (.ref C)) (bI : L2.Binds X.K fdI ["self", "house", "bell"] [])
    (TB : TabB X.base X.mg c Pt) (hcode : X.env.code = .ref c) (hmT : (Pt, X.env.qual ++ "<lambda>") ∈ T) (hu : ∀ q ∈ T, q.1 = Pt → q.2 = X.env.qual ++ "<lambda>") (hr : Room 8 X.A) (L : LamS X.env.scope scope) (hg : Gl X "_law_met") (hdef : defaultsOf params X.env = ([], []))
    (hbind : ∀ (q : Str) (cl : List (Str × Addr)) (pm cv ctv : Value), bindArgs (PySem.W.kla_fn "<lambda>" q params (.Call (.Name "Desk" p2) (e1 :: es) [] pos2) scope cl pm cv ctv) ⟨[], []⟩ = pure [])
    (hbody : ∀ (A : Around) (outer : List Env) (s : Shared) (H : Hp) (E : XK) (f c' : Addr), Gl (lamCx X A outer s H E scope f c') "Desk" ∧ PA (lamCx X A outer s H E scope f c') (e1 :: es) ta)
    (hst : ∀ env : Env, starEach (e1 :: es) env = (false, eval e1 env) :: starEach es env := by intro _; rfl) (hpl : ∀ env : Env, (backTo pos2 (starEach es env)).any (·.1) = false := by intro _; rfl) :
    PE X (.Call (.Name "_law_met" p) [.Lambda params (.Call (.Name "Desk" p2) (e1 :: es) [] pos2) scope lpos] [] pos) (tLam T (TMet Ch) fun E => tMake C (spBadI Ch 3) [] E ta) := by
  obtain ⟨oc, od, kV, doc, pm, an, cdv, ct, osl, rfl, lk, hcd⟩ := F.ex
  refine pe_lamcall (k := 6) (Ng := NMet) hg gm F.kp lk hcd bM scMet rfl (by exact Or.inl rfl) (met_gives CA) TB hcode hmT hu hr L hdef hbind fun A outer s H E f c' hr2 => ?_
  obtain ⟨h1, h2⟩ := hbody A outer s H E f c'
  exact pe_make (X := lamCx X A outer s H E scope f c') M GI hr2 h1 gI bI .nil (passes_call (X := lamCx X A outer s H E scope f c') (takes_of rfl rfl rfl rfl) fun _ _ _ _ h => h) h2 (by decide) (hst _) (hpl _)
/-- _law_met(lambda: Desk(k = v, ..)) -/
theorem pe_metDK (F : Fun X.K "_law_met" "_law_met" sMet g fd) (gm : X.mg "_law_met" = some (.ref g)) (bM : L2.Binds X.K fd ["_law_ask"] []) (CA : Cau X.K X.mg Ch) (M : Mk X.K C fI) (GI : FnOk X.prog X.w X.K X.mg X.base (L2.CX X.prog X.w) 5 fI fdI ["self", "house", "bell"] (spBadI Ch 3))
    (gI : X.mg "Desk" = some (.ref C)) (bI : KBn X.K fdI ["self", "house", "bell"] 1 ["bell", "house"] gD gD)
    (TB : TabB X.base X.mg c Pt) (hcode : X.env.code = .ref c) (hmT : (Pt, X.env.qual ++ "<lambda>") ∈ T) (hu : ∀ q ∈ T, q.1 = Pt → q.2 = X.env.qual ++ "<lambda>") (hr : Room 8 X.A) (L : LamS X.env.scope scope) (hg : Gl X "_law_met") (hdef : defaultsOf params X.env = ([], []))
    (hbind : ∀ (q : Str) (cl : List (Str × Addr)) (pm cv ctv : Value), bindArgs (PySem.W.kla_fn "<lambda>" q params (.Call (.Name "Desk" p2) [] kws pos2) scope cl pm cv ctv) ⟨[], []⟩ = pure [])
    (hbody : ∀ (A : Around) (outer : List Env) (s : Shared) (H : Hp) (E : XK) (f c' : Addr), Gl (lamCx X A outer s H E scope f c') "Desk" ∧ PK (lamCx X A outer s H E scope f c') kws ta)
    (hall : ∀ env : Env, (backToKw pos2 (keywordEach kws env)).all (·.1.isSome) = true := by intro _; rfl) (hks : ∀ env : Env, (backToKw pos2 (keywordEach kws env)).filterMap (·.1) = (["bell", "house"] : List Str) := by intro _; rfl)
    (hpl : ∀ env : Env, ((backTo pos2 (starEach [] env)).any (·.1) || (backToKw pos2 (keywordEach kws env)).any (·.1.isNone)) = false := by intro _; rfl) :
    PE X (.Call (.Name "_law_met" p) [.Lambda params (.Call (.Name "Desk" p2) [] kws pos2) scope lpos] [] pos) (tLam T (TMet Ch) fun E => tMakeK C 0 2 (spBadI Ch 3) gD E tNil ta) := by
  obtain ⟨oc, od, kV, doc, pm, an, cdv, ct, osl, rfl, lk, hcd⟩ := F.ex
  refine pe_lamcall (k := 6) (Ng := NMet) hg gm F.kp lk hcd bM scMet rfl (by exact Or.inl rfl) (met_gives CA) TB hcode hmT hu hr L hdef hbind fun A outer s H E f c' hr2 => ?_
  obtain ⟨h1, h2⟩ := hbody A outer s H E f c'
  exact pe_makeK0 (X := lamCx X A outer s H E scope f c') M GI hr2 h1 gI bI (passes_call (X := lamCx X A outer s H E scope f c') (takes_of rfl rfl rfl rfl) fun _ _ _ _ h => h) h2 (hall _) (hks _) (by decide) (hpl _)
end
end K03

set_option Elab.async false
set_option linter.all false
set_option maxRecDepth 100000
set_option maxHeartbeats 8000000
namespace K03
open PySem PySem.Spec PyProof.Rows L2 Own LamX
/-- between two turns of the loop -/
def ML (a st t : Addr) (T : List (Addr × Str)) (many : Int) (tp e d q6 q8 q9 pr pd : Addr) (xs ys : List V) (i : Nat) : L2.St → Hp → Prop := fun σ H =>
  ∃ x3 x4, σ = [some (.ref a), some (.ref st), some (.ref t), x3, x4] ∧ Tabs T H ∧ Ob many tp e d q6 t q8 q9 pr pd xs ys i H
theorem rok_flat {ps : List Int} {rk : Int → Nat} {t : List V} (h : Rok ps rk t) : t.length ≤ 20 ∧ ∀ z ∈ t, atomV z = true := by
  obtain ⟨x, y, d, r, rfl, _⟩ := h
  refine ⟨by show 4 ≤ 20; decide, fun z hz => ?_⟩
  simp only [List.mem_cons, List.not_mem_nil, or_false] at hz
  rcases hz with rfl | rfl | rfl | rfl <;> rfl
theorem dok_flat {ps : List Int} {S : Int → Bool} {t : List V} (h : Dok ps S t) : t.length ≤ 20 ∧ ∀ z ∈ t, atomV z = true := by
  obtain ⟨x, y, rfl, _⟩ := h
  refine ⟨by show 3 ≤ 20; decide, fun z hz => ?_⟩
  simp only [List.mem_cons, List.not_mem_nil, or_false] at hz
  rcases hz with rfl | rfl | rfl <;> rfl
theorem tabs_but {T : List (Addr × Str)} {N : Int} {a l : Addr} {H H1 : Hp} (t : Tabs T H) (b : But2 a l H H1) (S : Strm N H a l) : Tabs T H1 := fun p hp => by
  obtain ⟨xs, ys, ha, hl⟩ := strm_ls S
  have ne : ∀ {c : Addr} {o : HO}, H c = some o → (∀ zs, o ≠ .lst zs) → c ≠ a ∧ c ≠ l := fun {c o} h k => ⟨lst_ne ha h k, lst_ne hl h k⟩
  obtain ⟨tb, a1, a2, a3⟩ := t p hp
  have n1 := ne a1 (fun zs z => by cases z)
  refine ⟨tb, b _ _ n1.1 n1.2 a1, a2, fun p2 cv hc => ?_⟩
  obtain ⟨c, b1, b2⟩ := a3 p2 cv hc
  have n2 := ne b2 (fun zs z => by unfold CodeO at z; cases z)
  exact ⟨c, b1, b _ _ n2.1 n2.2 b2⟩
theorem paired_rep {α β : Type} {F : α → β → Prop} {y : β} : ∀ {xs : List α}, (∀ x ∈ xs, F x y) → Paired F xs (List.replicate xs.length [y]).flatten
  | [], _ => .nil
  | x :: r, h => .cons (h x List.mem_cons_self) (paired_rep fun z hz => h z (List.mem_cons_of_mem _ hz))
theorem newS {H : Hp} {x dx : Addr} {u v : HO} (nx : H x = none) (nd : H dx = none) (ne : dx ≠ x) : Same H (upd (upd H dx u) x v) := fun b o z => by
  rw [upd_ne (ne_of_none z nx), upd_ne (ne_of_none z nd)]
  exact z
theorem new2 {H : Hp} {x dx : Addr} {u v : HO} (nx : H x = none) (nd : H dx = none) (ne : dx ≠ x) : ExtN H (upd (upd H dx u) x v) := .of (newS nx nd ne)
theorem Hos.app {H : Hp} {odd : V} {xs ys : List V} (a : Hos H odd xs) (b : Hos H odd ys) : Hos H odd (xs ++ ys) := fun v hv => by
  rcases List.mem_append.mp hv with hv | hv
  · exact a v hv
  · exact b v hv
theorem Hos.upd {H : Hp} {odd : V} {xs zs : List V} {q : Addr} {o : HO} (h : Hos H odd xs) (hq : H q = some (.lst zs)) : Hos (upd H q o) odd xs := fun v hv => by
  obtain ⟨t, h1, h2⟩ := h v hv
  exact ⟨t, h1, by rw [upd_ne (lst_ne hq h2 (fun _ z => by cases z))]; exact h2⟩
theorem allT_flats {H : Hp} {P : List V → Prop} {xs : List V} (h : AllT H P xs) (k : ∀ t, P t → t.length ≤ 20 ∧ ∀ z ∈ t, atomV z = true) : Flats H xs := fun v hv => by
  obtain ⟨t, zs, h1, h2, h3⟩ := h v hv
  exact ⟨t, zs, h1, h2, k zs h3⟩
section
variable {P : Program} {w : World} {K : PySem.W.Frag} {mg : Str → Option Value} {base : Heap}
theorem ok_law {T0 : List (Addr × Str)} {f fSm fSt fH fM fA fB fC fI C Ch c Pt : Addr} {fd fdSm fdSt fdH fdM fdA fdB fdC fdI : FuncData} (F : FunC K "law" "law" sLaw f fd c) (T : Bt mg)
    (FSm : Fun K "_law_same" "_law_same" sSame fSm fdSm) (gSm : mg "_law_same" = some (.ref fSm)) (bSm : Binds K fdSm ["_law_found", "_law_due"] [])
    (FSt : Fun K "_law_stream" "_law_stream" sStream fSt fdSt) (gSt : mg "_law_stream" = some (.ref fSt)) (bSt : Binds K fdSt ["_law_script"] [])
    (FH : Fun K "_law_house" "_law_house" sHouse fH fdH) (gH : mg "_law_house" = some (.ref fH)) (bH : Binds K fdH ["_law_stream_here", "_law_places", "_law_full", "_law_doors"] []) (GH : FnOk P w K mg base CX0 3 fH fdH ["_law_stream_here", "_law_places", "_law_full", "_law_doors"] spHouse)
    (kA : PySem.W.keepIn K (.ref fA) = true) (gA : mg "_law_asked_a" = some (.ref fA)) (bA : Binds K fdA ["_law_odd"] []) (GA : FnOk P w K mg base CX0 9 fA fdA ["_law_odd"] (spAsk T0 30))
    (kB : PySem.W.keepIn K (.ref fB) = true) (gB : mg "_law_asked_b" = some (.ref fB)) (bB : Binds K fdB ["_law_odd"] []) (GB : FnOk P w K mg base CX0 9 fB fdB ["_law_odd"] (spAsk T0 30))
    (kC : PySem.W.keepIn K (.ref fC) = true) (gC : mg "_law_asked_c" = some (.ref fC)) (bC : Binds K fdC ["_law_odd"] []) (GC : FnOk P w K mg base CX0 9 fC fdC ["_law_odd"] (spAsk T0 30))
    (FMt : Fun K "_law_met" "_law_met" sMet fM fdM) (gMt : mg "_law_met" = some (.ref fM)) (bMt : Binds K fdM ["_law_ask"] []) (CA : Cau K mg Ch) (M : Mk K C fI)
    (GI : FnOk P w K mg base (L2.CX P w) 5 fI fdI ["self", "house", "bell"] (spBadI Ch 3)) (gI : mg "Desk" = some (.ref C)) (bI : L2.Binds K fdI ["self", "house", "bell"] []) (kI : KBn K fdI ["self", "house", "bell"] 1 ["bell", "house"] gD gD)
    (TB : TabB base mg c Pt) (hmT : (Pt, qLw) ∈ T0) (hu : ∀ q ∈ T0, q.1 = Pt → q.2 = qLw) :
    FnOk P w K mg base CX0 10 f fd ["_law_script"] (spLaw K T0) := by
  have GSm : FnOk P w K mg base CX0 7 fSm fdSm ["_law_found", "_law_due"] (spSame 5) := ok_same FSm T gSm bSm 5
  have GSt : FnOk P w K mg base CX0 1 fSt fdSt ["_law_script"] (spStream K) := ok_stream FSt T
  refine F.ok scLaw (fun vs H Q E h => ?_) (fun A outer s H vs Q E hr h => ?_)
  · obtain ⟨a, ns, rfl, _⟩ := h
    rfl
  · obtain ⟨a, ns, rfl, hS, hl, hT, k⟩ := h
    refine ⟨_, (pss_cons (ps_set (i := 1) scLaw.nd rfl (Or.inl rfl) (pe_call GSt (hr.mono (by decide)) (by rfl) gSt FSt.kp bSt .nil pass0 (pa_cons (pv 0) pa_nil)))
  (pss_cons (ps_set (i := 2) scLaw.nd rfl (Or.inl rfl) (pe_call GH (hr.mono (by decide)) (by rfl) gH FH.kp bH .nil pass0 (pa_cons (pv 1) (pa_cons pe_int (pa_cons pe_int (pa_cons pe_int pa_nil))))))
  (Evl.pss_cut (ps_for PassesOwn.never rfl (pi_tup (pe_tup (pa_cons pe_non (pa_cons pe_int (pa_cons pe_str (pa_cons pe_bl (pa_cons (pe_tup pa_nil) (pa_cons (pe_disp (pps_cons pe_str pe_int pps_nil) (by rfl) (by rfl) (fun z => by cases z) (by decide)) (pa_cons (pe_callTy call_list_of (by rfl) T.list (by decide +kernel) (pa_cons (pv 2) pa_nil)) (pa_cons (pv 2) (pa_cons (pe_lst (pa_cons (pe_lst (pa_cons (pe_ix ix_tup (pv 2) pe_int (fun _ _ => rfl)) pa_nil)) (pa_cons pe_int pa_nil))) pa_nil))))))))))) (pg_name (i := 3) (x := "_law_odd") scLaw.nd rfl (Or.inr rfl)) (pss_cons (ps_set (i := 4) scLaw.nd rfl (Or.inl rfl) (pe_op op_cat (pe_op op_cat (pe_call GA (hr.mono (by decide)) (by rfl) gA kA bA .nil pass0 (pa_cons (pv 3) pa_nil)) (pe_call GB (hr.mono (by decide)) (by rfl) gB kB bB .nil pass0 (pa_cons (pv 3) pa_nil))) (pe_call GC (hr.mono (by decide)) (by rfl) gC kC bC .nil pass0 (pa_cons (pv 3) pa_nil))))
  (pss_cons (st_ask (T := T0) 3 4 (pe_metD FMt gMt bMt CA M GI gI bI TB rfl hmT hu (hr.mono (by decide)) (lamS_by (by show lamSB (defScope sLaw) _ = true; decide +kernel)) (by rfl) (by rfl) (fun _ _ _ _ _ => rfl) (fun _ _ _ _ _ _ _ => ⟨by rfl, (pa_cons (pv 3) (pa_cons pe_non pa_nil))⟩)) (fun odd E σ H1 Q1 h0 s1 o1 => ⟨_, h0, fun x dx nx nd ne => ⟨.ref x, odd, _, rfl, rfl, s1.ext (new2 nx nd ne), o1.same (newS nx nd ne)⟩⟩))
  (pss_cons (st_ask (T := T0) 3 4 (pe_metDK FMt gMt bMt CA M GI gI kI TB rfl hmT hu (hr.mono (by decide)) (lamS_by (by show lamSB (defScope sLaw) _ = true; decide +kernel)) (by rfl) (by rfl) (fun _ _ _ _ _ => rfl) (fun _ _ _ _ _ _ _ => ⟨by rfl, (pk_cons pe_non (pk_cons (pv 3) pk_nil))⟩)) (fun odd E σ H1 Q1 h0 s1 o1 => ⟨_, h0, rfl, rfl, fun x dx nx nd ne => ⟨.ref x, odd, _, rfl, rfl, s1.ext (new2 nx nd ne), o1.same (newS nx nd ne)⟩⟩))
  (Evl.pss_cut (ps_if (pt_val (pe_callB call_isi (by rfl) T.isi (by decide +kernel) (pa_cons (pv 3) (pa_cons (pe_bltn (v := .ty "list") (by rfl) T.list (by decide +kernel) rfl) pa_nil)))) (pss_one (ps_expr (pe_bm PySem.F.plainAttrs_list PySem.F.slot_list_append PySem.F.type_list_append mt_append (pv 3) (pa_cons pe_str pa_nil)))) pss_nil)
  (pss_one (ps_if (pt_not (pt_val (pe_call GSm (hr.mono (by decide)) (by rfl) gSm FSm.kp bSm .nil pass0 (pa_cons (pv 4) (pa_cons (pe_op op_rep (pe_lst (pa_cons (pe_tup (pa_cons pe_str (pa_cons (pv 3) pa_nil))) pa_nil)) (pe_callB call_len_seq (by rfl) T.len (by decide +kernel) (pa_cons (pv 4) pa_nil))) pa_nil))))) (pss_one (ps_ret pe_bl)) pss_nil)))))))
  (pss_one (ps_ret pe_bl))))), ?_⟩
    refine ⟨_, rfl, a, ns, rfl, hS, hl, fun H1 st l e1 nst nl S0 => ?_⟩
    have T1 : Tabs T0 H1 := hT.ext e1
    clear hS hl hT e1 nst nl
    refine ⟨_, rfl, st, l, 0, 4, 5, 3, rfl, S0, by decide, by decide, by decide, by decide, by decide, by decide, by decide, by decide, fun H2 t pr pd many xs ys bt nt npr npd ht hm hh S1 => ?_⟩
    have T2 : Tabs T0 H2 := tabs_but T1 bt S0
    obtain ⟨ps, rk, S, _, ar, ad⟩ := hh.roads
    have fr : Flats H2 xs := allT_flats ar fun z hz => rok_flat hz
    have fp : Flats H2 ys := allT_flats ad fun z hz => dok_flat hz
    have hr2 := hh.r
    have hp2 := hh.d
    have lx : xs.length ≤ 100 := by have := hh.lr; omega
    have ly : ys.length ≤ 100 := by have := hh.ld; omega
    clear bt nt npr npd hm hh S1 S0 T1 ar ad
    refine ⟨fun _ _ => True, ?_, fun σ' H' _ => k H'⟩
    refine ⟨(by show 0 ≤ sizeLine; decide), fun e he => fun d hd => ⟨upd_same, [(.inr "a", .int 0)], rfl, (by show 1 ≤ 15; decide), ?_⟩⟩
    have md : mergeK [] [((Sum.inr "a", V.int 0) : Key × V)] = [(.inr "a", .int 0)] := rfl
    rw [md]
    have sA : Same (upd H2 e (.tup [])) (upd (upd (upd H2 e (.tup [])) d (.dK [])) d (.dK [(.inr "a", .int 0)])) := fun b o z => by
      rw [upd_ne (ne_of_none z hd), upd_ne (ne_of_none z hd)]
      exact z
    have s3 := (same_new (o := .tup []) he).trans sA
    have he3 := sA _ _ (upd_same (H := H2) (a := e) (o := .tup []))
    have hd3 : upd (upd (upd H2 e (.tup [])) d (.dK [])) d (.dK [(.inr "a", .int 0)]) d = some (.dK [(.inr "a", .int 0)]) := upd_same
    generalize upd (upd (upd H2 e (.tup [])) d (.dK [])) d (.dK [(.inr "a", .int 0)]) = H3 at s3 he3 hd3 ⊢
    have T3 := T2.ext s3
    have ht3 := s3 _ _ ht
    have hr3 := s3 _ _ hr2
    have hp3 := s3 _ _ hp2
    have fr3 := fr.ext (.of s3)
    have fp3 := fp.ext (.of s3)
    clear md sA he hd s3 T2 ht hr2 hp2 fr fp
    refine ⟨_, rfl, t, _, rfl, .inr (SqT.of ht3), fun q6 h6 => ⟨_, rfl, _, rfl, t, _, _, _, rfl, rfl, SqT.of (same_new h6 _ _ ht3), rfl, (by show 1 ≤ sizeLine; decide), fun q9 h9 => ⟨(by show 2 ≤ sizeLine; decide), fun q8 h8 => ⟨(by show 9 ≤ sizeLine; decide), fun tp htp => ?_⟩⟩⟩⟩
    have s6 := same_new (o := .lst [.int many, .ref pr, .ref pd]) h6
    have s9 := same_new (o := .lst [.int many]) h9
    have s8 := same_new (o := .lst [.ref q9, .int 1]) h8
    have sp := same_new (o := .tup (vals e d q6 t q8)) htp
    have s89 := s8.trans sp
    have s69 := s9.trans s89
    have s0 := s6.trans s69
    have n6 : ∀ {b : Addr} {o : HO}, H3 b = some o → q6 ≠ b := fun z => (ne_of_none z h6).symm
    have n8 : ∀ {b : Addr} {o : HO}, H3 b = some o → q8 ≠ b := fun z => (ne_of_none (s9 _ _ (s6 _ _ z)) h8).symm
    have m69 : q6 ≠ q9 := ne_of_none (upd_same (H := H3) (a := q6)) h9
    have m68 : q6 ≠ q8 := ne_of_none (s9 _ _ upd_same) h8
    have m89 : q8 ≠ q9 := (ne_of_none upd_same h8).symm
    have ob : Ob many tp e d q6 t q8 q9 pr pd xs ys 0 (upd (upd (upd (upd H3 q6 (.lst [.int many, .ref pr, .ref pd])) q9 (.lst [.int many])) q8 (.lst [.ref q9, .int 1])) tp (.tup (vals e d q6 t q8))) :=
      ⟨upd_same, s0 _ _ he3, s0 _ _ hd3, ⟨[], s69 _ _ upd_same, Nat.le_refl _, fun v hv => by cases hv⟩, s0 _ _ ht3, ⟨[], sp _ _ upd_same, Nat.le_refl _, fun v hv => by cases hv⟩, s89 _ _ upd_same, s0 _ _ hr3, s0 _ _ hp3,
        fr3.ext (.of s0), fp3.ext (.of s0), lx, ly, n6 hr3, n6 hp3, m68, m69, n8 hr3, n8 hp3, m89⟩
    have T7 := T3.ext s0
    refine ⟨tp, rfl, ⟨_, SqT.of ob.htp⟩, for_tup (xs := vals e d q6 t q8) (ML a st t T0 many tp e d q6 q8 q9 pr pd xs ys) ⟨_, _, rfl, T7, ob⟩ (fun i σ H _ w => by
      obtain ⟨_, _, _, _, o⟩ := w
      exact SqT.of o.htp) ?_ (fun _ _ _ => trivial)⟩
    clear T7 ob m89 m68 m69 n8 n6 s0 s69 s89 sp s8 s9 s6 htp h8 h9 h6 he3 hd3 T3 ht3 hr3 hp3 fr3 fp3 lx ly
    rintro i v σ H8 hv ⟨x3, x4, rfl, T8, o8⟩
    have hi : i < 9 := by
      obtain ⟨z, _⟩ := List.getElem?_eq_some_iff.mp hv
      exact z
    obtain ⟨sh, ev, kd⟩ := o8.kind (K := K) (by omega) (List.mem_of_getElem? hv)
    refine ⟨_, rfl, v, rfl, T8, sh, fun HA qA xA eA TA nA hA lA oA => ⟨_, rfl, v, rfl, TA, sh.ext eA, fun HB qB xB eB TB' nB hB lB oB => ?_⟩⟩
    have hA2 := eB _ _ hA (fun _ z => by cases z)
    refine ⟨qA, qB, xA, xB, rfl, rfl, hA2, hB, (by rw [lA, lB]; decide), fun p hp => ⟨_, rfl, v, rfl, TB'.ext (same_new hp), (sh.ext (eA.trans eB)).ext (.of (same_new hp)), fun HC qC xC eC TC nC hC lC oC => ?_⟩⟩
    have hp2 := eC _ _ upd_same (fun _ z => by cases z)
    refine ⟨p, qC, xA ++ xB, xC, rfl, rfl, hp2, hC, (by rw [List.length_append, lA, lB, lC]; decide), fun q hq => ?_⟩
    have eAC : ExtN H8 HC := ((eA.trans eB).trans (.of (same_new hp))).trans eC
    have nq : Nw H8 q := (nw hq).back eAC
    have m0 : MAsk T0 H8 v q 90 (upd HC q (.lst (xA ++ xB ++ xC))) := by
      refine ⟨xA ++ xB ++ xC, TC.ext (same_new hq), upd_same, by rw [List.length_append, List.length_append, lA, lB, lC], ?_, eAC.trans (.of (same_new hq))⟩
      have e1 : ExtN HC (upd HC q (.lst (xA ++ xB ++ xC))) := .of (same_new hq)
      have e2 : ExtN HB (upd HC q (.lst (xA ++ xB ++ xC))) := ((ExtN.of (same_new hp)).trans eC).trans e1
      exact ((oA.same (eB.trans e2)).app (oB.same e2)).app (oC.same e1)
    refine ⟨90, by decide, H8, v, q, rfl, rfl, sh, nq, m0, fun H10 m1 => ⟨91, by decide, H8, v, q, rfl, rfl, sh, nq, m1, fun H12 m2 => ?_⟩⟩
    clear m0 m1 eAC hp2 hC nC TC lC oC eC hq hA2 hB lB oB nB TB' eB hA nA lA oA TA eA
    obtain ⟨fs, T12, hq, lf, ho, e12⟩ := m2.ex
    clear m2
    refine ⟨fun σ H => σ = [some (.ref a), some (.ref st), some (.ref t), some v, some (.ref q)] ∧ Tabs T0 H ∧ Ob many tp e d q6 t q8 q9 pr pd xs ys (i + 1) H ∧ Eqt 3 H v v ∧ H q = some (.lst fs) ∧ Hos H v fs, ?_, ?_⟩
    · rcases kd with ⟨Ty, kb, ty⟩ | ⟨ql, zs, rfl, hz, lz, grow⟩
      · exact ⟨_, rfl, _, _, _, _, false, rfl, .ty _, ty _ e12, kit_ty kb, _, rfl, iteF ⟨rfl, T12, (o8.ext e12).succ, ev.ext e12, hq, ho⟩⟩
      · have hz2 := e12 _ _ hz (fun _ z => by cases z)
        obtain ⟨o13, ev13⟩ := grow _ e12
        have nqq : q ≠ ql := (nq.ne hz (fun _ z => by cases z)).symm
        refine ⟨_, rfl, _, _, _, _, true, rfl, .ty _, .base (.lst hz2), kit_ty (by decide +kernel), _, rfl, iteT ⟨_, rfl, .inl ⟨rfl, _, SqL.of hz2⟩, ql, zs, .str "late", rfl, rfl, hz2, small1000 (by omega), rfl, tabs_upd T12 hz2, o13, ev13, by rw [upd_ne nqq]; exact hq, ho.upd hz2⟩⟩
    · rintro σ' H13 ⟨rfl, T13, o13, ev13, hq13, ho13⟩
      refine ⟨_, rfl, _, rfl, (by show 2 ≤ sizeLine; decide), fun p hp => ⟨(by show 1 ≤ sizeLine; decide), fun l hl => ?_⟩⟩
      have sp := same_new (o := .tup [.str "house", v]) hp
      have sl := same_new (o := .lst [.ref p]) hl
      have sS := sp.trans sl
      have e1 : ExtN H13 (upd (upd H13 p (.tup [.str "house", v])) l (.lst [.ref p])) := .of sS
      have hp1 := sl _ _ (upd_same (H := H13) (a := p) (o := .tup [.str "house", v]))
      have hl1 : upd (upd H13 p (.tup [.str "house", v])) l (.lst [.ref p]) l = some (.lst [.ref p]) := upd_same
      generalize upd (upd H13 p (.tup [.str "house", v])) l (.lst [.ref p]) = H14 at sS e1 hp1 hl1 ⊢
      have hq14 := e1 _ _ hq13 (fun _ z => by cases z)
      refine ⟨_, rfl, q, fs, rfl, .inl (SqL.of hq14), l, (fs.length : Int), [.ref p], rfl, rfl, hl1, by rw [lf]; decide, by rw [lf]; decide, (by rw [lf]; show 1 * 92 ≤ sizeLine; decide), fun r hr => ?_⟩
      have sr := same_new (o := .lst (List.replicate (fs.length : Int).toNat [V.ref p]).flatten) hr
      have e2 : ExtN H13 (upd H14 r (.lst (List.replicate (fs.length : Int).toNat [V.ref p]).flatten)) := e1.trans (.of sr)
      have hr1 : upd H14 r (.lst (List.replicate (fs.length : Int).toNat [V.ref p]).flatten) r = some (.lst (List.replicate (fs.length : Int).toNat [V.ref p]).flatten) := upd_same
      refine ⟨.ref q, .ref r, rfl, .inr (.inl ⟨q, r, fs, _, rfl, rfl, sr _ _ hq14, hr1, paired_rep fun x hx => ?_, by omega⟩), fun H15 e15 => ⟨_, rfl, iteF ?_⟩⟩
      · obtain ⟨u, rfl, hu⟩ := ho13 x hx
        exact .inr (.inr (.inl ⟨u, p, _, _, rfl, rfl, e2 _ _ hu (fun _ z => by cases z), sr _ _ hp1, .cons (eqt_atom rfl) (.cons (ev13.ext e2) .nil), by show 2 ≤ 1000; decide⟩))
      · have e3 := e2.trans (.of e15)
        exact ⟨_, _, rfl, T13.ext (sS.trans (sr.trans e15)), o13.ext e3⟩
end
end K03

set_option Elab.async false
set_option linter.all false
set_option maxRecDepth 100000
set_option maxHeartbeats 8000000
namespace K03
open PySem PySem.Spec PyProof.Rows L2 Own LamX
section
variable {P : Program} {w : World} {K : PySem.W.Frag} {mg : Str → Option Value} {base : Heap}
theorem sci_BadHouse : FnScope ["self", "thing"] ["self", "thing"] (defScope (inClass (topS 10) 0)) := ⟨rfl, rfl, rfl, by decide +kernel, rfl, by decide +kernel, by decide +kernel⟩
theorem ei_BadHouse {C fI : Addr} {fd : FuncData} (F : Fun K "__init__" "BadHouse.__init__" (inClass (topS 10) 0) fI fd) (g : mg "BadHouse" = some (.ref C)) (I : ExcI K C fI) (no : PySem.W.findIn K (.ref C) "thing" = some none) : EI P w K mg base "BadHouse" "thing" C := by
  refine ⟨g, fI, fd, I, F.ok sci_BadHouse (fun vs H Q E h => ?_) (fun cdv A outer s H vs Q E hr h => ?_), F.binds fun _ _ _ _ _ _ us hl => match us, hl with | [_, _], _ => rfl⟩
  · obtain ⟨a, v, rfl, _⟩ := h
    rfl
  · obtain ⟨a, v, rfl, ha, k⟩ := h
    refine ⟨_, pss_one (ps_ost (pv 0) (pv 1)), ?_⟩
    exact ⟨_, rfl, _, rfl, a, C, rfl, I.ox, no, .inl ⟨ha, fun dx nd ne => k dx nd ne⟩⟩
end
end K03

set_option Elab.async false
set_option linter.all false
set_option maxRecDepth 100000
set_option maxHeartbeats 8000000
namespace K03
open PySem PySem.Spec PyProof.Rows L2 Own LamX
/-- the class stands as an own exception class over ValueError -/
def oexB (K : PySem.W.Frag) (C : Addr) : Bool := match K.lookup C with
  | some ⟨.type ty, _, .cls cd, sl⟩ => (match cd.mro, sl.toList with
    | .ref C1 :: bm, [_, _, _, _, some (.builtin n), _] => ty == "type" && (C1 == C && (n == "ValueError.__new__" && (!cd.hasDel && (cd.hasDict && PySem.HandSPX.refsVE bm))))
    | _, _ => false)
  | _ => false
theorem oexB_ok {K : PySem.W.Frag} {C : Addr} (h : oexB K C = true) : ∃ nm q N bs bm sn sub ab col dd k0 k1 k2 k3 k5, K.lookup C = some (excClassObj nm q C N bs bm true sn sub ab col dd k0 k1 k2 k3 k5 "ValueError.__new__") ∧ PySem.HandSPX.refsVE bm = true := by
  unfold oexB at h
  split at h
  · rename_i ty dd cd sl ho
    split at h
    · rename_i C1 bm k0 k1 k2 k3 n k5 hm hs
      simp only [Bool.and_eq_true, beq_iff_eq, Bool.not_eq_true'] at h
      obtain ⟨rfl, rfl, rfl, hdel, hdict, hr⟩ := h
      obtain ⟨nm, bs, mro, ns, qn, hd, sn, sub, ab, col, del⟩ := cd
      dsimp only at hm hdel hdict
      subst hm hdel hdict
      obtain ⟨l⟩ := sl
      dsimp only at hs
      subst hs
      exact ⟨nm, qn, ns, bs, bm, sn, sub, ab, col, dd, k0, k1, k2, k3, k5, ho, hr⟩
    · cases h
  · cases h
def clsB (K : PySem.W.Frag) (C : Addr) : Bool :=
  oexB K C && (He.eqO (PySem.W.findIn K (.ref C) "__setattr__") (some (some (.builtin "object.__setattr__"))) && (decide (PySem.W.subIn K (.ref C) (.type "BaseException") = some true) &&
  (decide (PySem.W.typeIn K (.ref C) = some (.type "type")) && (PySem.W.keepIn K (.ref C) && (He.eqO (PySem.W.findIn K (.ref C) "__getattribute__") (some (some (.builtin "BaseException.__getattribute__"))) &&
  (He.eqO (PySem.W.findIn K (.ref C) "__getattr__") (some none) && (PySem.W.hasDictIn K C && (He.eqO (PySem.W.findIn K (.ref C) "__class__") (some (some (.builtin "object.__class__"))) &&
  (He.eqO (PySem.W.specialIn K (.builtin "object.__class__") "__get__") (some (some (.builtin "getset_descriptor.__get__"))) && (decide (PySem.W.takesIn K (.builtin "object.__class__") = some true) && decide (PySem.W.mroIn K C (.type "object") = some true)))))))))))
theorem clsB_ok {K : PySem.W.Frag} {C : Addr} (h : clsB K C = true) : OexC K C ∧ ExcC K C := by
  unfold clsB at h
  simp only [Bool.and_eq_true, decide_eq_true_eq] at h
  obtain ⟨h1, h2, h3, h4, h5, h6, h7, h8, h9, h10, h11, h12⟩ := h
  exact ⟨⟨oexB_ok h1, He.eqO_ok h2, h3, h4, h5⟩, ⟨He.eqO_ok h6, He.eqO_ok h7, h3, h8, He.eqO_ok h9, He.eqO_ok h10, h11, h12⟩⟩
def nIn : List (Str × Str) := [("BadHouse", "thing")]
def initB (K : PySem.W.Frag) : Bool := nIn.all fun p => (clsB K (He.ga K p.1) && xfB K (He.ga K p.1)) && (He.eqO (PySem.W.findIn K (.ref (He.ga K p.1)) "__init__") (some (some (.ref (He.ma K (He.ga K p.1) "__init__")))) &&
  (decide (PySem.W.typeIn K (.ref (He.ma K (He.ga K p.1) "__init__")) = some (.type "function")) && He.eqO (PySem.W.findIn K (.ref (He.ga K p.1)) p.2) (some none)))
def tyN : List String := ["NoneType", "bool", "int", "str", "list", "tuple", "dict"]
/-- no built-in type is below House -/
def houB (K : PySem.W.Frag) : Bool := tyN.all fun T => decide (PySem.W.kitOne K (.type T) (.ref (He.ga K "House")) = some false)
def defD (x : Str) (st : Stmt) : He.DefD := ⟨(x, none), x, x, defArgs st, defBody st, defScope st, [], []⟩
def metD (c m q : Str) (st : Stmt) : He.DefD := ⟨(c, some m), m, q, defArgs st, defBody st, defScope st, [], []⟩
abbrev pA : He.Defn := ("_law_asked_a", none)
abbrev pB : He.Defn := ("_law_asked_b", none)
abbrev pC : He.Defn := ("_law_asked_c", none)
abbrev pL : He.Defn := ("law", none)
def fnD : List He.DefD := [defD "need_house" (topS 46), defD "asked" (topS 103), defD "lacking" (topS 104), defD "is_lot_for" (topS 107), defD "is_plan_for" (topS 108), defD "row_for" (topS 159), defD "is_row_for" (topS 161), defD "parted" (topS 153), defD "most" (topS 69), defD "most_plan" (topS 70), defD "levels" (topS 71), defD "lot_bell" (topS 73)] ++
  [defD "is_moments" (topS 79), defD "worth" (topS 81), defD "moments_for" (topS 82), defD "plan_by_order" (topS 112), defD "corner" (topS 113), defD "corners" (topS 115), defD "order_of" (topS 117), defD "plan_fault" (topS 90), defD "brings" (topS 99), defD "bell_of" (topS 100), defD "on_roads" (topS 101), defD "least_bell" (topS 125)] ++
  [defD "never" (topS 126), defD "rising" (topS 127), defD "bell_with" (topS 128), defD "further" (topS 140), defD "tight" (topS 143), defD "bound" (topS 144), defD "times" (topS 145), defD "part_for" (topS 174), defD "part_lot" (topS 176), defD "mix_for" (topS 166), defD "is_mix_for" (topS 170), defD "dearest_order" (topS 133)] ++
  [defD "turned" (topS 179), defD "turned_plan" (topS 180), defD "first_unlike" (topS 121), defD "lot_for" (topS 106), defD "plan_for" (topS 162), defD "steady" (topS 72), defD "is_plan" (topS 91), defD "whole_times" (topS 146), defD "dearest" (topS 134), defD "parting" (topS 123), defD "_law_stream" (topS 183), defD "_law_draw" (topS 184)] ++
  [defD "_law_pick" (topS 185), defD "_law_mixed" (topS 186), defD "_law_same" (topS 187), defD "_law_stepping" (topS 188), defD "_law_house" (topS 189), defD "_law_asked_a" (topS 190), defD "_law_asked_b" (topS 191), defD "_law_asked_c" (topS 192), defD "_law_met" (topS 193), defD "law" (topS 194), metD "BadHouse" "__init__" "BadHouse.__init__" (inClass (topS 10) 0), metD "Desk" "__init__" "Desk.__init__" (inClass (topS 164) 0)]
def faD : List He.Fa := [.glo "need_house", .glo "asked", .glo "lacking", .glo "is_lot_for", .glo "is_plan_for", .glo "row_for", .glo "is_row_for", .glo "parted", .glo "most", .glo "most_plan", .glo "levels", .glo "lot_bell", .glo "is_moments", .glo "worth", .glo "moments_for", .glo "plan_by_order"] ++
  [.glo "corner", .glo "corners", .glo "order_of", .glo "plan_fault", .glo "brings", .glo "bell_of", .glo "on_roads", .glo "least_bell", .glo "never", .glo "rising", .glo "bell_with", .glo "further", .glo "tight", .glo "bound", .glo "times", .glo "part_for"] ++
  [.glo "part_lot", .glo "mix_for", .glo "is_mix_for", .glo "dearest_order", .glo "turned", .glo "turned_plan", .glo "first_unlike", .glo "lot_for", .glo "plan_for", .glo "steady", .glo "is_plan", .glo "whole_times", .glo "dearest", .glo "parting", .glo "_law_stream", .glo "_law_draw"] ++
  [.glo "_law_pick", .glo "_law_mixed", .glo "_law_same", .glo "_law_stepping", .glo "_law_house", .glo "_law_asked_a", .glo "_law_asked_b", .glo "_law_asked_c", .glo "_law_met", .glo "law", .glo "House", .glo "Desk", .glo "BadHouse", .free "abs", .free "int", .free "list"] ++
  [.free "len", .free "isinstance", .free "tuple", .free "dict", .free "bool", .free "all", .free "zip", .free "range", .free "enumerate", .free "max", .free "str", .free "min", .free "sum", .mkr "Desk", .exm "BadHouse" "BadHouse" true]
def tfD : List He.Defn := [pA, pB, pC, pL]
def difB (K : PySem.W.Frag) : Bool := decide ((He.cT K pA).2 ≠ (He.cT K pB).2) && (decide ((He.cT K pA).2 ≠ (He.cT K pC).2) && (decide ((He.cT K pA).2 ≠ (He.cT K pL).2) && (decide ((He.cT K pB).2 ≠ (He.cT K pC).2) && (decide ((He.cT K pB).2 ≠ (He.cT K pL).2) && (decide ((He.cT K pC).2 ≠ (He.cT K pL).2))))))
abbrev R : PySem.W.OpenRow := PySem.W.OpenLaw.row PySem.Challenge.rw_lastbell_k03_houses_asked_for
def exA (K : PySem.W.Frag) : Bool := initB K && (houB K && difB K)
def nmN : List Str := (["need_house", "asked", "lacking", "is_lot_for", "is_plan_for", "row_for", "is_row_for", "parted", "most", "most_plan", "levels", "lot_bell"] : List Str) ++ (["is_moments", "worth", "moments_for", "plan_by_order", "corner", "corners", "order_of", "plan_fault", "brings", "bell_of", "on_roads", "least_bell"] : List Str) ++ (["never", "rising", "bell_with", "further", "tight", "bound", "times", "part_for", "part_lot", "mix_for", "is_mix_for", "dearest_order"] : List Str) ++ (["turned", "turned_plan", "first_unlike", "lot_for", "plan_for", "steady", "is_plan", "whole_times", "dearest", "parting", "_law_stream", "_law_draw"] : List Str) ++ (["_law_pick", "_law_mixed", "_law_same", "_law_stepping", "_law_house", "_law_asked_a", "_law_asked_b", "_law_asked_c", "_law_met", "law", "House", "Desk"] : List Str) ++ (["BadHouse"] : List Str)
abbrev hk : PySem.W.Hook := hookY (asN nmN 3) faD fnD [] tfD exA
def ob (s : PySem.W.SharedT) : He.AlX := obsY (asN nmN 3) faD fnD [] tfD exA (HandSHeadRun.getT s)
theorem ob_eq (s : PySem.W.SharedT) : ob s = hk.obs s.abs := obsY_eq (asN nmN 3) (HandSHeadRun.getT_eq s)
end K03

set_option Elab.async false
set_option linter.all false
set_option maxRecDepth 100000
set_option maxHeartbeats 0
namespace K03
open PySem PySem.W PySem.TablesWhole
abbrev cx0 : PySem.TablesWhole.Ctx := ⟨R.prog.main.scope, [], [], [], none⟩
theorem tab4 : wSs gather R.prog.main.scope cx0 R.prog.main.scope R.prog.main.body = [] := by kernel_rfl
theorem tab5 : noTwice R.prog.main.scope = true := by kernel_rfl
theorem taba : wSs holds R.prog.main.scope cx0 R.prog.main.scope (R.prog.main.body.take 100) = true := by kernel_rfl
theorem tabb : wSs holds R.prog.main.scope cx0 R.prog.main.scope ((R.prog.main.body.drop 100).take 55) = true := by kernel_rfl
theorem tabc : wSs holds R.prog.main.scope cx0 R.prog.main.scope ((R.prog.main.body.drop 100).drop 55) = true := by kernel_rfl
theorem tabs : R.prog.tablesWhole = true := Own.Tabs.tables_of 100 55 rfl rfl rfl tab4 tab5 taba tabb tabc
end K03

set_option Elab.async false
set_option linter.all false
set_option maxRecDepth 100000
set_option maxHeartbeats 0
namespace K03.Mid
open PySem PySem.W Own PyProof.Rows L2 LamX
abbrev S (x : String) : PySem.Str := PySem.Str.ofString x
abbrev E (P : Params) (x : String) (t : Nat) (v : Value) : DictEntry := ⟨PyData.keyHash P (PySem.Str.ofString x), .str (PySem.Str.ofString x) t, v⟩
abbrev N (o : Obj) (l r : BT) : BT := .node o l r
abbrev L : BT := .nil
noncomputable def o0 (P : Params) : Obj := ⟨(.type "dict"), none, (.dict #[E P "__name__" 1 (.str (S "builtins") 160), E P "__doc__" 2 (.builtin "builtins.__doc__:str#opaque"), E P "__package__" 3 (.builtin "builtins.__package__:str#opaque"), E P "__loader__" 4 (.builtin "builtins.__loader__:shared#opaque"), E P "__spec__" 5 (.builtin "builtins.__spec__#opaque"), E P "__build_class__" 6 (.builtin "__build_class__"), E P "__import__" 7 (.builtin "__import__"), E P "abs" 8 (.builtin "abs"), E P "all" 9 (.builtin "all"), E P "any" 10 (.builtin "any"), E P "ascii" 11 (.builtin "ascii"), E P "bin" 12 (.builtin "bin"), E P "breakpoint" 13 (.builtin "breakpoint"), E P "callable" 14 (.builtin "callable"), E P "chr" 15 (.builtin "chr"), E P "compile" 16 (.builtin "compile"), E P "delattr" 17 (.builtin "delattr"), E P "dir" 18 (.builtin "dir"), E P "divmod" 19 (.builtin "divmod"), E P "eval" 20 (.builtin "eval"), E P "exec" 21 (.builtin "exec"), E P "format" 22 (.builtin "format"), E P "getattr" 23 (.builtin "getattr"), E P "globals" 24 (.builtin "globals"), E P "hasattr" 25 (.builtin "hasattr"), E P "hash" 26 (.builtin "hash"), E P "hex" 27 (.builtin "hex"), E P "id" 28 (.builtin "id"), E P "input" 29 (.builtin "input"), E P "isinstance" 30 (.builtin "isinstance"), E P "issubclass" 31 (.builtin "issubclass"), E P "iter" 32 (.builtin "iter"), E P "aiter" 33 (.builtin "aiter"), E P "len" 34 (.builtin "len"), E P "locals" 35 (.builtin "locals"), E P "max" 36 (.builtin "max"), E P "min" 37 (.builtin "min"), E P "next" 38 (.builtin "next"), E P "anext" 39 (.builtin "anext"), E P "oct" 40 (.builtin "oct"), E P "ord" 41 (.builtin "ord"), E P "pow" 42 (.builtin "pow"), E P "print" 43 (.builtin "print"), E P "repr" 44 (.builtin "repr"), E P "round" 45 (.builtin "round"), E P "setattr" 46 (.builtin "setattr"), E P "sorted" 47 (.builtin "sorted"), E P "sum" 48 (.builtin "sum"), E P "vars" 49 (.builtin "vars"), E P "None" 50 .none, E P "Ellipsis" 51 .ellipsis, E P "NotImplemented" 52 .notImplemented, E P "False" 53 (.bool false), E P "True" 54 (.bool true), E P "bool" 55 (.type "bool"), E P "memoryview" 56 (.type "memoryview"), E P "bytearray" 57 (.type "bytearray"), E P "bytes" 58 (.type "bytes"), E P "classmethod" 59 (.type "classmethod"), E P "complex" 60 (.type "complex"), E P "dict" 61 (.type "dict"), E P "enumerate" 62 (.type "enumerate"), E P "filter" 63 (.type "filter"), E P "float" 64 (.type "float"), E P "frozenset" 65 (.type "frozenset"), E P "property" 66 (.type "property"), E P "int" 67 (.type "int"), E P "list" 68 (.type "list"), E P "map" 69 (.type "map"), E P "object" 70 (.type "object"), E P "range" 71 (.type "range"), E P "reversed" 72 (.type "reversed"), E P "set" 73 (.type "set"), E P "slice" 74 (.type "slice"), E P "staticmethod" 75 (.type "staticmethod"), E P "str" 76 (.type "str"), E P "super" 77 (.type "super"), E P "tuple" 78 (.type "tuple"), E P "type" 79 (.type "type"), E P "zip" 80 (.type "zip"), E P "__debug__" 81 (.bool true), E P "BaseException" 82 (.type "BaseException"), E P "BaseExceptionGroup" 83 (.type "BaseExceptionGroup"), E P "Exception" 84 (.type "Exception"), E P "GeneratorExit" 85 (.type "GeneratorExit"), E P "KeyboardInterrupt" 86 (.type "KeyboardInterrupt"), E P "SystemExit" 87 (.type "SystemExit"), E P "ArithmeticError" 88 (.type "ArithmeticError"), E P "AssertionError" 89 (.type "AssertionError"), E P "AttributeError" 90 (.type "AttributeError"), E P "BufferError" 91 (.type "BufferError"), E P "EOFError" 92 (.type "EOFError"), E P "ImportError" 93 (.type "ImportError"), E P "LookupError" 94 (.type "LookupError"), E P "MemoryError" 95 (.type "MemoryError"), E P "NameError" 96 (.type "NameError"), E P "OSError" 97 (.type "OSError"), E P "ReferenceError" 98 (.type "ReferenceError"), E P "RuntimeError" 99 (.type "RuntimeError"), E P "StopAsyncIteration" 100 (.type "StopAsyncIteration"), E P "StopIteration" 101 (.type "StopIteration"), E P "SyntaxError" 102 (.type "SyntaxError"), E P "SystemError" 103 (.type "SystemError"), E P "TypeError" 104 (.type "TypeError"), E P "ValueError" 105 (.type "ValueError"), E P "Warning" 106 (.type "Warning"), E P "FloatingPointError" 107 (.type "FloatingPointError"), E P "OverflowError" 108 (.type "OverflowError"), E P "ZeroDivisionError" 109 (.type "ZeroDivisionError"), E P "BytesWarning" 110 (.type "BytesWarning"), E P "DeprecationWarning" 111 (.type "DeprecationWarning"), E P "EncodingWarning" 112 (.type "EncodingWarning"), E P "FutureWarning" 113 (.type "FutureWarning"), E P "ImportWarning" 114 (.type "ImportWarning"), E P "PendingDeprecationWarning" 115 (.type "PendingDeprecationWarning"), E P "ResourceWarning" 116 (.type "ResourceWarning"), E P "RuntimeWarning" 117 (.type "RuntimeWarning"), E P "SyntaxWarning" 118 (.type "SyntaxWarning"), E P "UnicodeWarning" 119 (.type "UnicodeWarning"), E P "UserWarning" 120 (.type "UserWarning"), E P "BlockingIOError" 121 (.type "BlockingIOError"), E P "ChildProcessError" 122 (.type "ChildProcessError"), E P "ConnectionError" 123 (.type "ConnectionError"), E P "FileExistsError" 124 (.type "FileExistsError"), E P "FileNotFoundError" 125 (.type "FileNotFoundError"), E P "InterruptedError" 126 (.type "InterruptedError"), E P "IsADirectoryError" 127 (.type "IsADirectoryError"), E P "NotADirectoryError" 128 (.type "NotADirectoryError"), E P "PermissionError" 129 (.type "PermissionError"), E P "ProcessLookupError" 130 (.type "ProcessLookupError"), E P "TimeoutError" 131 (.type "TimeoutError"), E P "IndentationError" 132 (.type "IndentationError"), E P "_IncompleteInputError" 133 (.type "_IncompleteInputError"), E P "IndexError" 134 (.type "IndexError"), E P "KeyError" 135 (.type "KeyError"), E P "ModuleNotFoundError" 136 (.type "ModuleNotFoundError"), E P "NotImplementedError" 137 (.type "NotImplementedError"), E P "PythonFinalizationError" 138 (.type "PythonFinalizationError"), E P "RecursionError" 139 (.type "RecursionError"), E P "UnboundLocalError" 140 (.type "UnboundLocalError"), E P "UnicodeError" 141 (.type "UnicodeError"), E P "BrokenPipeError" 142 (.type "BrokenPipeError"), E P "ConnectionAbortedError" 143 (.type "ConnectionAbortedError"), E P "ConnectionRefusedError" 144 (.type "ConnectionRefusedError"), E P "ConnectionResetError" 145 (.type "ConnectionResetError"), E P "TabError" 146 (.type "TabError"), E P "UnicodeDecodeError" 147 (.type "UnicodeDecodeError"), E P "UnicodeEncodeError" 148 (.type "UnicodeEncodeError"), E P "UnicodeTranslateError" 149 (.type "UnicodeTranslateError"), E P "ExceptionGroup" 150 (.type "ExceptionGroup"), E P "EnvironmentError" 151 (.type "OSError"), E P "IOError" 152 (.type "OSError"), E P "open" 153 (.builtin "open"), E P "quit" 154 (.builtin "builtins.quit#opaque"), E P "exit" 155 (.builtin "builtins.exit#opaque"), E P "copyright" 156 (.builtin "builtins.copyright#opaque"), E P "credits" 157 (.builtin "builtins.credits#opaque"), E P "license" 158 (.builtin "builtins.license#opaque"), E P "help" 159 (.builtin "builtins.help#opaque")] 159), #[]⟩
noncomputable def o1 (P : Params) : Obj := ⟨(.type "dict"), none, (.dict #[E P "builtins" 162 (.ref 4), E P "__main__" 163 (.ref 5), E P "itertools" 246 (.ref 13), E P "math" 365 (.ref 31)] 4), #[]⟩
noncomputable def o2 (P : Params) : Obj := ⟨.none, none, (.dict #[E P "import.loaded.itertools" 185 (.bool true), E P "class._frozen_importlib.BuiltinImporter" 187 (.ref 15), E P "watched.import" 208 (.ref 19), E P "class._frozen_importlib.ModuleSpec" 218 (.ref 23), E P "sys.modules.booked-epoch" 247 (.int (4) 0), E P "sys.modules.landed.itertools" 248 (.bool true), E P "import.later-laid.itertools" 279 (.bool true), E P "watched.library" 281 (.ref 28), E P "watched.library-objects" 0 (.str ⟨#[13, 31]⟩ 0), E P "watched.library-deep.itertools" 282 (.str ⟨#[4, 0, 0, 12, 4, 0, 0, 12, 4, 0, 0, 3, 4, 0, 0, 12, 8, 4, 100, 105, 99, 116, 2]⟩ 0), E P "import.loaded.math" 294 (.bool true), E P "class._frozen_importlib_external._LoaderBasics" 299 (.ref 34), E P "class._frozen_importlib_external.FileLoader" 315 (.ref 39), E P "class._frozen_importlib_external.ExtensionFileLoader" 336 (.ref 44), E P "import.later-laid.math" 442 (.bool true)] 15), #[]⟩
noncomputable def o3 (P : Params) : Obj := ⟨(.type "dict"), none, (.dict #[E P "__name__" 165 (.str (S "lastbell.given") 1239), E P "__doc__" 166 .none, E P "__package__" 167 .none, E P "__loader__" 168 (.builtin "__main__.__loader__#opaque"), E P "__spec__" 169 .none, E P "__annotations__" 170 (.ref 6), E P "__builtins__" 171 (.ref 4), E P "__file__" 173 (.str (S "/claim/cut.py") 172), E P "__cached__" 174 .none, E P "permutations" 288 (.type "itertools.permutations"), E P "gcd" 449 (.builtin "math.gcd"), E P "lcm" 452 (.builtin "math.lcm"), E P "_wall" 465 (.ref 60), E P "all_lots" 474 (.ref 67), E P "lots_among" 480 (.ref 72), E P "lots_of_greatest" 486 (.ref 77), E P "least_lot" 493 (.ref 84), E P "BellError" 513 (.ref 94), E P "BadHouse" 538 (.ref 114), E P "BadPlaces" 563 (.ref 133), E P "BadRoads" 588 (.ref 152), E P "BadDoors" 613 (.ref 171), E P "BadSteps" 638 (.ref 190), E P "BadTurn" 663 (.ref 209), E P "BadTurns" 688 (.ref 228), E P "BadPlan" 713 (.ref 247), E P "BadLot" 738 (.ref 266), E P "BadBell" 763 (.ref 285), E P "BadAmount" 788 (.ref 304), E P "BadMoments" 813 (.ref 323), E P "BadOrder" 838 (.ref 342), E P "BadWishes" 863 (.ref 361), E P "BadParts" 888 (.ref 380), E P "Never" 913 (.ref 399), E P "BadDoor" 938 (.ref 418), E P "SameDoor" 963 (.ref 437), E P "NotKept" 988 (.ref 456), E P "BadNumbers" 1013 (.ref 475), E P "BadPrices" 1038 (.ref 494), E P "OtherDoors" 1054 (.ref 506), E P "Lacks" 1081 (.ref 525), E P "is_integer" 1090 (.ref 534), E P "is_number" 1097 (.ref 541), E P "is_list" 1104 (.ref 548), E P "House" 1165 (.ref 591), E P "is_place" 1173 (.ref 602), E P "is_road" 1185 (.ref 609), E P "is_door" 1196 (.ref 616), E P "first_wrong_road" 1211 (.ref 623), E P "comes_to" 1224 (.ref 630), E P "first_wrong_door" 1238 (.ref 637), E P "need_house" 1247 (.ref 644)] 52), #[]⟩
noncomputable def o4 (P : Params) : Obj := ⟨(.type "module"), (some 0), .plain, #[]⟩
noncomputable def o5 (P : Params) : Obj := ⟨(.type "module"), (some 3), .plain, #[]⟩
noncomputable def o6 (P : Params) : Obj := ⟨(.type "dict"), none, (.dict #[] 0), #[]⟩
noncomputable def o7 (P : Params) : Obj := ⟨(.type "tuple"), none, (.seq #[] 0), #[]⟩
noncomputable def o8 (P : Params) : Obj := ⟨.none, none, (.fields #[]), #[]⟩
noncomputable def o9 (P : Params) : Obj := ⟨(.type "code"), none, (.fields #[(.str (S "<module>") 176), (.str (S "<module>") 177), (.str (S "/claim/cut.py") 178), (.int (1) 0), (.int (0) 0), (.int (0) 0), (.int (0) 0), (.int (0) 0), (.ref 7), (.bool false), (.int (175) 0), (.ref 8), .none, .none, .none, .none, (.int (179) 0), (.int (1) 0), (.str (S "/claim/cut.py") 180)]), #[]⟩
noncomputable def o10 (P : Params) : Obj := ⟨(.type "frame"), none, .plain, #[some (.ref 9), some (.ref 3), some (.ref 3), none, some (.str (S "__main__") 164), none, some (.ref 0)]⟩
noncomputable def o11 (P : Params) : Obj := ⟨(.type "tuple"), none, (.seq #[(.str (S "permutations") 182)] 0), #[]⟩
noncomputable def o12 (P : Params) : Obj := ⟨(.type "dict"), none, (.dict #[E P "__name__" 250 (.str (S "itertools") 249), E P "__doc__" 251 (.builtin "off-the-table:itertools.__doc__:shared#opaque"), E P "__package__" 253 (.str (S "") 252), E P "__loader__" 254 (.builtin "off-the-table:itertools.__loader__:shared#opaque"), E P "__spec__" 255 (.builtin "off-the-table:itertools.__spec__:shared#opaque"), E P "tee" 256 (.builtin "itertools.tee"), E P "accumulate" 257 (.type "itertools.accumulate"), E P "batched" 258 (.type "itertools.batched"), E P "chain" 259 (.type "itertools.chain"), E P "combinations" 260 (.type "itertools.combinations"), E P "compress" 261 (.type "itertools.compress"), E P "count" 262 (.type "itertools.count"), E P "combinations_with_replacement" 263 (.type "itertools.combinations_with_replacement"), E P "cycle" 264 (.type "itertools.cycle"), E P "dropwhile" 265 (.type "itertools.dropwhile"), E P "filterfalse" 266 (.type "itertools.filterfalse"), E P "groupby" 267 (.builtin "off-the-table:itertools.groupby:shared#opaque"), E P "_grouper" 268 (.builtin "off-the-table:itertools._grouper:shared#opaque"), E P "islice" 269 (.type "itertools.islice"), E P "pairwise" 270 (.type "itertools.pairwise"), E P "permutations" 271 (.type "itertools.permutations"), E P "product" 272 (.type "itertools.product"), E P "repeat" 273 (.type "itertools.repeat"), E P "starmap" 274 (.type "itertools.starmap"), E P "takewhile" 275 (.type "itertools.takewhile"), E P "_tee" 276 (.builtin "off-the-table:itertools._tee:shared#opaque"), E P "_tee_dataobject" 277 (.builtin "off-the-table:itertools._tee_dataobject:shared#opaque"), E P "zip_longest" 278 (.type "itertools.zip_longest")] 28), #[]⟩
noncomputable def o13 (P : Params) : Obj := ⟨(.type "module"), (some 12), .plain, #[]⟩
noncomputable def o14 (P : Params) : Obj := ⟨(.type "dict"), none, (.dict #[E P "__module__" 191 (.str (S "_frozen_importlib") 188), E P "__firstlineno__" 192 (.int (971) 189), E P "__doc__" 193 (.builtin "_frozen_importlib.BuiltinImporter.__doc__:str#opaque"), E P "_ORIGIN" 194 (.str (S "built-in") 190), E P "find_spec" 195 (.builtin "_frozen_importlib.BuiltinImporter.find_spec#opaque"), E P "create_module" 196 (.builtin "_frozen_importlib.BuiltinImporter.create_module#opaque"), E P "exec_module" 197 (.builtin "_frozen_importlib.BuiltinImporter.exec_module#opaque"), E P "get_code" 198 (.builtin "_frozen_importlib.BuiltinImporter.get_code#opaque"), E P "get_source" 199 (.builtin "_frozen_importlib.BuiltinImporter.get_source#opaque"), E P "is_package" 200 (.builtin "_frozen_importlib.BuiltinImporter.is_package#opaque"), E P "load_module" 201 (.builtin "_frozen_importlib.BuiltinImporter.load_module#opaque"), E P "__static_attributes__" 202 (.ref 16), E P "__dict__" 204 (.ref 17), E P "__weakref__" 206 (.ref 18)] 14), #[]⟩
noncomputable def o15 (P : Params) : Obj := ⟨(.type "type"), none, (.cls ⟨(S "BuiltinImporter"), [(.type "object")], [(.ref 15), (.type "object")], 14, (S "BuiltinImporter"), true, [], [], false, none, false⟩), #[]⟩
noncomputable def o16 (P : Params) : Obj := ⟨(.type "tuple"), none, (.seq #[] 0), #[]⟩
noncomputable def o17 (P : Params) : Obj := ⟨(.type "getset_descriptor"), none, (.fields #[(.str (S "__dict__") 203), (.ref 15), (.builtin "function.__dict__"), (.builtin "function.__dict__#set")]), #[]⟩
noncomputable def o18 (P : Params) : Obj := ⟨(.type "getset_descriptor"), none, (.fields #[(.str (S "__weakref__") 205), (.ref 15), (.builtin "ExceptionGroup.__weakref__"), .none]), #[]⟩
noncomputable def o19 (P : Params) : Obj := ⟨.none, none, (.seq #[(.int (14) 0), (.str ⟨#[6, 191, 10, 95, 95, 109, 111, 100, 117, 108, 101, 95, 95, 6, 188, 17, 95, 102, 114, 111, 122, 101, 110, 95, 105, 109, 112, 111, 114, 116, 108, 105, 98, 6, 192, 15, 95, 95, 102, 105, 114, 115, 116, 108, 105, 110, 101, 110, 111, 95, 95, 4, 189, 0, 971, 6, 193, 7, 95, 95, 100, 111, 99, 95, 95, 9, 52, 95, 102, 114, 111, 122, 101, 110, 95, 105, 109, 112, 111, 114, 116, 108, 105, 98, 46, 66, 117, 105, 108, 116, 105, 110, 73, 109, 112, 111, 114, 116, 101, 114, 46, 95, 95, 100, 111, 99, 95, 95, 58, 115, 116, 114, 35, 111, 112, 97, 113, 117, 101, 6, 194, 7, 95, 79, 82, 73, 71, 73, 78, 6, 190, 8, 98, 117, 105, 108, 116, 45, 105, 110, 6, 195, 9, 102, 105, 110, 100, 95, 115, 112, 101, 99, 9, 50, 95, 102, 114, 111, 122, 101, 110, 95, 105, 109, 112, 111, 114, 116, 108, 105, 98, 46, 66, 117, 105, 108, 116, 105, 110, 73, 109, 112, 111, 114, 116, 101, 114, 46, 102, 105, 110, 100, 95, 115, 112, 101, 99, 35, 111, 112, 97, 113, 117, 101, 6, 196, 13, 99, 114, 101, 97, 116, 101, 95, 109, 111, 100, 117, 108, 101, 9, 54, 95, 102, 114, 111, 122, 101, 110, 95, 105, 109, 112, 111, 114, 116, 108, 105, 98, 46, 66, 117, 105, 108, 116, 105, 110, 73, 109, 112, 111, 114, 116, 101, 114, 46, 99, 114, 101, 97, 116, 101, 95, 109, 111, 100, 117, 108, 101, 35, 111, 112, 97, 113, 117, 101, 6, 197, 11, 101, 120, 101, 99, 95, 109, 111, 100, 117, 108, 101, 9, 52, 95, 102, 114, 111, 122, 101, 110, 95, 105, 109, 112, 111, 114, 116, 108, 105, 98, 46, 66, 117, 105, 108, 116, 105, 110, 73, 109, 112, 111, 114, 116, 101, 114, 46, 101, 120, 101, 99, 95, 109, 111, 100, 117, 108, 101, 35, 111, 112, 97, 113, 117, 101, 6, 198, 8, 103, 101, 116, 95, 99, 111, 100, 101, 9, 49, 95, 102, 114, 111, 122, 101, 110, 95, 105, 109, 112, 111, 114, 116, 108, 105, 98, 46, 66, 117, 105, 108, 116, 105, 110, 73, 109, 112, 111, 114, 116, 101, 114, 46, 103, 101, 116, 95, 99, 111, 100, 101, 35, 111, 112, 97, 113, 117, 101, 6, 199, 10, 103, 101, 116, 95, 115, 111, 117, 114, 99, 101, 9, 51, 95, 102, 114, 111, 122, 101, 110, 95, 105, 109, 112, 111, 114, 116, 108, 105, 98, 46, 66, 117, 105, 108, 116, 105, 110, 73, 109, 112, 111, 114, 116, 101, 114, 46, 103, 101, 116, 95, 115, 111, 117, 114, 99, 101, 35, 111, 112, 97, 113, 117, 101, 6, 200, 10, 105, 115, 95, 112, 97, 99, 107, 97, 103, 101, 9, 51, 95, 102, 114, 111, 122, 101, 110, 95, 105, 109, 112, 111, 114, 116, 108, 105, 98, 46, 66, 117, 105, 108, 116, 105, 110, 73, 109, 112, 111, 114, 116, 101, 114, 46, 105, 115, 95, 112, 97, 99, 107, 97, 103, 101, 35, 111, 112, 97, 113, 117, 101, 6, 201, 11, 108, 111, 97, 100, 95, 109, 111, 100, 117, 108, 101, 9, 52, 95, 102, 114, 111, 122, 101, 110, 95, 105, 109, 112, 111, 114, 116, 108, 105, 98, 46, 66, 117, 105, 108, 116, 105, 110, 73, 109, 112, 111, 114, 116, 101, 114, 46, 108, 111, 97, 100, 95, 109, 111, 100, 117, 108, 101, 35, 111, 112, 97, 113, 117, 101, 6, 202, 21, 95, 95, 115, 116, 97, 116, 105, 99, 95, 97, 116, 116, 114, 105, 98, 117, 116, 101, 115, 95, 95, 4, 0, 0, 16, 6, 204, 8, 95, 95, 100, 105, 99, 116, 95, 95, 4, 0, 0, 17, 6, 206, 11, 95, 95, 119, 101, 97, 107, 114, 101, 102, 95, 95, 4, 0, 0, 18]⟩ 0), (.bool true), (.bool true), (.str (S "") 207), (.int (22) 0), (.str ⟨#[6, 229, 10, 95, 95, 109, 111, 100, 117, 108, 101, 95, 95, 6, 219, 17, 95, 102, 114, 111, 122, 101, 110, 95, 105, 109, 112, 111, 114, 116, 108, 105, 98, 6, 230, 15, 95, 95, 102, 105, 114, 115, 116, 108, 105, 110, 101, 110, 111, 95, 95, 4, 220, 0, 562, 6, 231, 7, 95, 95, 100, 111, 99, 95, 95, 9, 47, 95, 102, 114, 111, 122, 101, 110, 95, 105, 109, 112, 111, 114, 116, 108, 105, 98, 46, 77, 111, 100, 117, 108, 101, 83, 112, 101, 99, 46, 95, 95, 100, 111, 99, 95, 95, 58, 115, 116, 114, 35, 111, 112, 97, 113, 117, 101, 6, 232, 8, 95, 95, 105, 110, 105, 116, 95, 95, 9, 44, 95, 102, 114, 111, 122, 101, 110, 95, 105, 109, 112, 111, 114, 116, 108, 105, 98, 46, 77, 111, 100, 117, 108, 101, 83, 112, 101, 99, 46, 95, 95, 105, 110, 105, 116, 95, 95, 35, 111, 112, 97, 113, 117, 101, 6, 233, 8, 95, 95, 114, 101, 112, 114, 95, 95, 9, 44, 95, 102, 114, 111, 122, 101, 110, 95, 105, 109, 112, 111, 114, 116, 108, 105, 98, 46, 77, 111, 100, 117, 108, 101, 83, 112, 101, 99, 46, 95, 95, 114, 101, 112, 114, 95, 95, 35, 111, 112, 97, 113, 117, 101, 6, 234, 6, 95, 95, 101, 113, 95, 95, 9, 42, 95, 102, 114, 111, 122, 101, 110, 95, 105, 109, 112, 111, 114, 116, 108, 105, 98, 46, 77, 111, 100, 117, 108, 101, 83, 112, 101, 99, 46, 95, 95, 101, 113, 95, 95, 35, 111, 112, 97, 113, 117, 101, 6, 235, 6, 99, 97, 99, 104, 101, 100, 9, 42, 95, 102, 114, 111, 122, 101, 110, 95, 105, 109, 112, 111, 114, 116, 108, 105, 98, 46, 77, 111, 100, 117, 108, 101, 83, 112, 101, 99, 46, 99, 97, 99, 104, 101, 100, 35, 111, 112, 97, 113, 117, 101, 6, 236, 6, 112, 97, 114, 101, 110, 116, 9, 42, 95, 102, 114, 111, 122, 101, 110, 95, 105, 109, 112, 111, 114, 116, 108, 105, 98, 46, 77, 111, 100, 117, 108, 101, 83, 112, 101, 99, 46, 112, 97, 114, 101, 110, 116, 35, 111, 112, 97, 113, 117, 101, 6, 237, 12, 104, 97, 115, 95, 108, 111, 99, 97, 116, 105, 111, 110, 9, 48, 95, 102, 114, 111, 122, 101, 110, 95, 105, 109, 112, 111, 114, 116, 108, 105, 98, 46, 77, 111, 100, 117, 108, 101, 83, 112, 101, 99, 46, 104, 97, 115, 95, 108, 111, 99, 97, 116, 105, 111, 110, 35, 111, 112, 97, 113, 117, 101, 6, 238, 21, 95, 95, 115, 116, 97, 116, 105, 99, 95, 97, 116, 116, 114, 105, 98, 117, 116, 101, 115, 95, 95, 4, 0, 0, 24, 6, 240, 8, 95, 95, 100, 105, 99, 116, 95, 95, 4, 0, 0, 25, 6, 242, 11, 95, 95, 119, 101, 97, 107, 114, 101, 102, 95, 95, 4, 0, 0, 26, 6, 243, 8, 95, 95, 104, 97, 115, 104, 95, 95, 0]⟩ 0), (.bool true), (.bool true), (.str (S "") 244), (.int (33) 0), (.str ⟨#[6, 302, 10, 95, 95, 109, 111, 100, 117, 108, 101, 95, 95, 6, 300, 26, 95, 102, 114, 111, 122, 101, 110, 95, 105, 109, 112, 111, 114, 116, 108, 105, 98, 95, 101, 120, 116, 101, 114, 110, 97, 108, 6, 303, 15, 95, 95, 102, 105, 114, 115, 116, 108, 105, 110, 101, 110, 111, 95, 95, 4, 301, 0, 1001, 6, 304, 7, 95, 95, 100, 111, 99, 95, 95, 9, 59, 95, 102, 114, 111, 122, 101, 110, 95, 105, 109, 112, 111, 114, 116, 108, 105, 98, 95, 101, 120, 116, 101, 114, 110, 97, 108, 46, 95, 76, 111, 97, 100, 101, 114, 66, 97, 115, 105, 99, 115, 46, 95, 95, 100, 111, 99, 95, 95, 58, 115, 116, 114, 35, 111, 112, 97, 113, 117, 101, 6, 305, 10, 105, 115, 95, 112, 97, 99, 107, 97, 103, 101, 9, 58, 95, 102, 114, 111, 122, 101, 110, 95, 105, 109, 112, 111, 114, 116, 108, 105, 98, 95, 101, 120, 116, 101, 114, 110, 97, 108, 46, 95, 76, 111, 97, 100, 101, 114, 66, 97, 115, 105, 99, 115, 46, 105, 115, 95, 112, 97, 99, 107, 97, 103, 101, 35, 111, 112, 97, 113, 117, 101, 6, 306, 13, 99, 114, 101, 97, 116, 101, 95, 109, 111, 100, 117, 108, 101, 9, 61, 95, 102, 114, 111, 122, 101, 110, 95, 105, 109, 112, 111, 114, 116, 108, 105, 98, 95, 101, 120, 116, 101, 114, 110, 97, 108, 46, 95, 76, 111, 97, 100, 101, 114, 66, 97, 115, 105, 99, 115, 46, 99, 114, 101, 97, 116, 101, 95, 109, 111, 100, 117, 108, 101, 35, 111, 112, 97, 113, 117, 101, 6, 307, 11, 101, 120, 101, 99, 95, 109, 111, 100, 117, 108, 101, 9, 59, 95, 102, 114, 111, 122, 101, 110, 95, 105, 109, 112, 111, 114, 116, 108, 105, 98, 95, 101, 120, 116, 101, 114, 110, 97, 108, 46, 95, 76, 111, 97, 100, 101, 114, 66, 97, 115, 105, 99, 115, 46, 101, 120, 101, 99, 95, 109, 111, 100, 117, 108, 101, 35, 111, 112, 97, 113, 117, 101, 6, 308, 11, 108, 111, 97, 100, 95, 109, 111, 100, 117, 108, 101, 9, 59, 95, 102, 114, 111, 122, 101, 110, 95, 105, 109, 112, 111, 114, 116, 108, 105, 98, 95, 101, 120, 116, 101, 114, 110, 97, 108, 46, 95, 76, 111, 97, 100, 101, 114, 66, 97, 115, 105, 99, 115, 46, 108, 111, 97, 100, 95, 109, 111, 100, 117, 108, 101, 35, 111, 112, 97, 113, 117, 101, 6, 309, 21, 95, 95, 115, 116, 97, 116, 105, 99, 95, 97, 116, 116, 114, 105, 98, 117, 116, 101, 115, 95, 95, 4, 0, 0, 35, 6, 311, 8, 95, 95, 100, 105, 99, 116, 95, 95, 4, 0, 0, 36, 6, 313, 11, 95, 95, 119, 101, 97, 107, 114, 101, 102, 95, 95, 4, 0, 0, 37]⟩ 0), (.bool true), (.bool true), (.str (S "") 314), (.int (38) 0), (.str ⟨#[6, 320, 10, 95, 95, 109, 111, 100, 117, 108, 101, 95, 95, 6, 316, 26, 95, 102, 114, 111, 122, 101, 110, 95, 105, 109, 112, 111, 114, 116, 108, 105, 98, 95, 101, 120, 116, 101, 114, 110, 97, 108, 6, 321, 15, 95, 95, 102, 105, 114, 115, 116, 108, 105, 110, 101, 110, 111, 95, 95, 4, 317, 0, 1176, 6, 322, 7, 95, 95, 100, 111, 99, 95, 95, 9, 56, 95, 102, 114, 111, 122, 101, 110, 95, 105, 109, 112, 111, 114, 116, 108, 105, 98, 95, 101, 120, 116, 101, 114, 110, 97, 108, 46, 70, 105, 108, 101, 76, 111, 97, 100, 101, 114, 46, 95, 95, 100, 111, 99, 95, 95, 58, 115, 116, 114, 35, 111, 112, 97, 113, 117, 101, 6, 323, 8, 95, 95, 105, 110, 105, 116, 95, 95, 9, 53, 95, 102, 114, 111, 122, 101, 110, 95, 105, 109, 112, 111, 114, 116, 108, 105, 98, 95, 101, 120, 116, 101, 114, 110, 97, 108, 46, 70, 105, 108, 101, 76, 111, 97, 100, 101, 114, 46, 95, 95, 105, 110, 105, 116, 95, 95, 35, 111, 112, 97, 113, 117, 101, 6, 324, 6, 95, 95, 101, 113, 95, 95, 9, 51, 95, 102, 114, 111, 122, 101, 110, 95, 105, 109, 112, 111, 114, 116, 108, 105, 98, 95, 101, 120, 116, 101, 114, 110, 97, 108, 46, 70, 105, 108, 101, 76, 111, 97, 100, 101, 114, 46, 95, 95, 101, 113, 95, 95, 35, 111, 112, 97, 113, 117, 101, 6, 325, 8, 95, 95, 104, 97, 115, 104, 95, 95, 9, 53, 95, 102, 114, 111, 122, 101, 110, 95, 105, 109, 112, 111, 114, 116, 108, 105, 98, 95, 101, 120, 116, 101, 114, 110, 97, 108, 46, 70, 105, 108, 101, 76, 111, 97, 100, 101, 114, 46, 95, 95, 104, 97, 115, 104, 95, 95, 35, 111, 112, 97, 113, 117, 101, 6, 326, 11, 108, 111, 97, 100, 95, 109, 111, 100, 117, 108, 101, 9, 56, 95, 102, 114, 111, 122, 101, 110, 95, 105, 109, 112, 111, 114, 116, 108, 105, 98, 95, 101, 120, 116, 101, 114, 110, 97, 108, 46, 70, 105, 108, 101, 76, 111, 97, 100, 101, 114, 46, 108, 111, 97, 100, 95, 109, 111, 100, 117, 108, 101, 35, 111, 112, 97, 113, 117, 101, 6, 327, 12, 103, 101, 116, 95, 102, 105, 108, 101, 110, 97, 109, 101, 9, 57, 95, 102, 114, 111, 122, 101, 110, 95, 105, 109, 112, 111, 114, 116, 108, 105, 98, 95, 101, 120, 116, 101, 114, 110, 97, 108, 46, 70, 105, 108, 101, 76, 111, 97, 100, 101, 114, 46, 103, 101, 116, 95, 102, 105, 108, 101, 110, 97, 109, 101, 35, 111, 112, 97, 113, 117, 101, 6, 328, 8, 103, 101, 116, 95, 100, 97, 116, 97, 9, 53, 95, 102, 114, 111, 122, 101, 110, 95, 105, 109, 112, 111, 114, 116, 108, 105, 98, 95, 101, 120, 116, 101, 114, 110, 97, 108, 46, 70, 105, 108, 101, 76, 111, 97, 100, 101, 114, 46, 103, 101, 116, 95, 100, 97, 116, 97, 35, 111, 112, 97, 113, 117, 101, 6, 329, 19, 103, 101, 116, 95, 114, 101, 115, 111, 117, 114, 99, 101, 95, 114, 101, 97, 100, 101, 114, 9, 64, 95, 102, 114, 111, 122, 101, 110, 95, 105, 109, 112, 111, 114, 116, 108, 105, 98, 95, 101, 120, 116, 101, 114, 110, 97, 108, 46, 70, 105, 108, 101, 76, 111, 97, 100, 101, 114, 46, 103, 101, 116, 95, 114, 101, 115, 111, 117, 114, 99, 101, 95, 114, 101, 97, 100, 101, 114, 35, 111, 112, 97, 113, 117, 101, 6, 330, 21, 95, 95, 115, 116, 97, 116, 105, 99, 95, 97, 116, 116, 114, 105, 98, 117, 116, 101, 115, 95, 95, 4, 0, 0, 40, 6, 332, 8, 95, 95, 100, 105, 99, 116, 95, 95, 4, 0, 0, 41, 6, 334, 11, 95, 95, 119, 101, 97, 107, 114, 101, 102, 95, 95, 4, 0, 0, 42]⟩ 0), (.bool true), (.bool true), (.str (S "") 335), (.int (43) 0), (.str ⟨#[6, 341, 10, 95, 95, 109, 111, 100, 117, 108, 101, 95, 95, 6, 337, 26, 95, 102, 114, 111, 122, 101, 110, 95, 105, 109, 112, 111, 114, 116, 108, 105, 98, 95, 101, 120, 116, 101, 114, 110, 97, 108, 6, 342, 15, 95, 95, 102, 105, 114, 115, 116, 108, 105, 110, 101, 110, 111, 95, 95, 4, 338, 0, 1296, 6, 343, 7, 95, 95, 100, 111, 99, 95, 95, 9, 65, 95, 102, 114, 111, 122, 101, 110, 95, 105, 109, 112, 111, 114, 116, 108, 105, 98, 95, 101, 120, 116, 101, 114, 110, 97, 108, 46, 69, 120, 116, 101, 110, 115, 105, 111, 110, 70, 105, 108, 101, 76, 111, 97, 100, 101, 114, 46, 95, 95, 100, 111, 99, 95, 95, 58, 115, 116, 114, 35, 111, 112, 97, 113, 117, 101, 6, 344, 8, 95, 95, 105, 110, 105, 116, 95, 95, 9, 62, 95, 102, 114, 111, 122, 101, 110, 95, 105, 109, 112, 111, 114, 116, 108, 105, 98, 95, 101, 120, 116, 101, 114, 110, 97, 108, 46, 69, 120, 116, 101, 110, 115, 105, 111, 110, 70, 105, 108, 101, 76, 111, 97, 100, 101, 114, 46, 95, 95, 105, 110, 105, 116, 95, 95, 35, 111, 112, 97, 113, 117, 101, 6, 345, 6, 95, 95, 101, 113, 95, 95, 9, 60, 95, 102, 114, 111, 122, 101, 110, 95, 105, 109, 112, 111, 114, 116, 108, 105, 98, 95, 101, 120, 116, 101, 114, 110, 97, 108, 46, 69, 120, 116, 101, 110, 115, 105, 111, 110, 70, 105, 108, 101, 76, 111, 97, 100, 101, 114, 46, 95, 95, 101, 113, 95, 95, 35, 111, 112, 97, 113, 117, 101, 6, 346, 8, 95, 95, 104, 97, 115, 104, 95, 95, 9, 62, 95, 102, 114, 111, 122, 101, 110, 95, 105, 109, 112, 111, 114, 116, 108, 105, 98, 95, 101, 120, 116, 101, 114, 110, 97, 108, 46, 69, 120, 116, 101, 110, 115, 105, 111, 110, 70, 105, 108, 101, 76, 111, 97, 100, 101, 114, 46, 95, 95, 104, 97, 115, 104, 95, 95, 35, 111, 112, 97, 113, 117, 101, 6, 347, 13, 99, 114, 101, 97, 116, 101, 95, 109, 111, 100, 117, 108, 101, 9, 67, 95, 102, 114, 111, 122, 101, 110, 95, 105, 109, 112, 111, 114, 116, 108, 105, 98, 95, 101, 120, 116, 101, 114, 110, 97, 108, 46, 69, 120, 116, 101, 110, 115, 105, 111, 110, 70, 105, 108, 101, 76, 111, 97, 100, 101, 114, 46, 99, 114, 101, 97, 116, 101, 95, 109, 111, 100, 117, 108, 101, 35, 111, 112, 97, 113, 117, 101, 6, 348, 11, 101, 120, 101, 99, 95, 109, 111, 100, 117, 108, 101, 9, 65, 95, 102, 114, 111, 122, 101, 110, 95, 105, 109, 112, 111, 114, 116, 108, 105, 98, 95, 101, 120, 116, 101, 114, 110, 97, 108, 46, 69, 120, 116, 101, 110, 115, 105, 111, 110, 70, 105, 108, 101, 76, 111, 97, 100, 101, 114, 46, 101, 120, 101, 99, 95, 109, 111, 100, 117, 108, 101, 35, 111, 112, 97, 113, 117, 101, 6, 349, 10, 105, 115, 95, 112, 97, 99, 107, 97, 103, 101, 9, 64, 95, 102, 114, 111, 122, 101, 110, 95, 105, 109, 112, 111, 114, 116, 108, 105, 98, 95, 101, 120, 116, 101, 114, 110, 97, 108, 46, 69, 120, 116, 101, 110, 115, 105, 111, 110, 70, 105, 108, 101, 76, 111, 97, 100, 101, 114, 46, 105, 115, 95, 112, 97, 99, 107, 97, 103, 101, 35, 111, 112, 97, 113, 117, 101, 6, 350, 8, 103, 101, 116, 95, 99, 111, 100, 101, 9, 62, 95, 102, 114, 111, 122, 101, 110, 95, 105, 109, 112, 111, 114, 116, 108, 105, 98, 95, 101, 120, 116, 101, 114, 110, 97, 108, 46, 69, 120, 116, 101, 110, 115, 105, 111, 110, 70, 105, 108, 101, 76, 111, 97, 100, 101, 114, 46, 103, 101, 116, 95, 99, 111, 100, 101, 35, 111, 112, 97, 113, 117, 101, 6, 351, 10, 103, 101, 116, 95, 115, 111, 117, 114, 99, 101, 9, 64, 95, 102, 114, 111, 122, 101, 110, 95, 105, 109, 112, 111, 114, 116, 108, 105, 98, 95, 101, 120, 116, 101, 114, 110, 97, 108, 46, 69, 120, 116, 101, 110, 115, 105, 111, 110, 70, 105, 108, 101, 76, 111, 97, 100, 101, 114, 46, 103, 101, 116, 95, 115, 111, 117, 114, 99, 101, 35, 111, 112, 97, 113, 117, 101, 6, 352, 12, 103, 101, 116, 95, 102, 105, 108, 101, 110, 97, 109, 101, 9, 66, 95, 102, 114, 111, 122, 101, 110, 95, 105, 109, 112, 111, 114, 116, 108, 105, 98, 95, 101, 120, 116, 101, 114, 110, 97, 108, 46, 69, 120, 116, 101, 110, 115, 105, 111, 110, 70, 105, 108, 101, 76, 111, 97, 100, 101, 114, 46, 103, 101, 116, 95, 102, 105, 108, 101, 110, 97, 109, 101, 35, 111, 112, 97, 113, 117, 101, 6, 353, 21, 95, 95, 115, 116, 97, 116, 105, 99, 95, 97, 116, 116, 114, 105, 98, 117, 116, 101, 115, 95, 95, 4, 0, 0, 45]⟩ 0), (.bool true), (.bool true), (.str (S "") 354)] 4), #[]⟩
noncomputable def o20 (P : Params) : Obj := ⟨(.type "list"), none, (.seq #[] 0), #[]⟩
noncomputable def o21 (P : Params) : Obj := ⟨(.type "dict"), none, (.dict #[E P "name" 210 (.str (S "itertools") 209), E P "loader" 211 (.ref 15), E P "origin" 212 (.str (S "built-in") 186), E P "loader_state" 213 .none, E P "submodule_search_locations" 214 .none, E P "_uninitialized_submodules" 215 (.ref 20), E P "_set_fileattr" 216 (.bool false), E P "_cached" 217 .none, E P "_initializing" 245 (.bool false)] 9), #[]⟩
noncomputable def o22 (P : Params) : Obj := ⟨(.type "dict"), none, (.dict #[E P "__module__" 229 (.str (S "_frozen_importlib") 219), E P "__firstlineno__" 230 (.int (562) 220), E P "__doc__" 231 (.builtin "_frozen_importlib.ModuleSpec.__doc__:str#opaque"), E P "__init__" 232 (.builtin "_frozen_importlib.ModuleSpec.__init__#opaque"), E P "__repr__" 233 (.builtin "_frozen_importlib.ModuleSpec.__repr__#opaque"), E P "__eq__" 234 (.builtin "_frozen_importlib.ModuleSpec.__eq__#opaque"), E P "cached" 235 (.builtin "_frozen_importlib.ModuleSpec.cached#opaque"), E P "parent" 236 (.builtin "_frozen_importlib.ModuleSpec.parent#opaque"), E P "has_location" 237 (.builtin "_frozen_importlib.ModuleSpec.has_location#opaque"), E P "__static_attributes__" 238 (.ref 24), E P "__dict__" 240 (.ref 25), E P "__weakref__" 242 (.ref 26), E P "__hash__" 243 .none] 13), #[]⟩
noncomputable def o23 (P : Params) : Obj := ⟨(.type "type"), none, (.cls ⟨(S "ModuleSpec"), [(.type "object")], [(.ref 23), (.type "object")], 22, (S "ModuleSpec"), true, [], [], false, none, false⟩), #[]⟩
noncomputable def o24 (P : Params) : Obj := ⟨(.type "tuple"), none, (.seq #[(.str (S "_cached") 221), (.str (S "_set_fileattr") 222), (.str (S "_uninitialized_submodules") 223), (.str (S "loader") 224), (.str (S "loader_state") 225), (.str (S "name") 226), (.str (S "origin") 227), (.str (S "submodule_search_locations") 228)] 0), #[]⟩
noncomputable def o25 (P : Params) : Obj := ⟨(.type "getset_descriptor"), none, (.fields #[(.str (S "__dict__") 239), (.ref 23), (.builtin "function.__dict__"), (.builtin "function.__dict__#set")]), #[]⟩
noncomputable def o26 (P : Params) : Obj := ⟨(.type "getset_descriptor"), none, (.fields #[(.str (S "__weakref__") 241), (.ref 23), (.builtin "ExceptionGroup.__weakref__"), .none]), #[]⟩
noncomputable def o27 (P : Params) : Obj := ⟨(.ref 23), (some 21), .plain, #[]⟩
noncomputable def o28 (P : Params) : Obj := ⟨.none, none, (.seq #[(.int (12) 0), (.str ⟨#[6, 250, 8, 95, 95, 110, 97, 109, 101, 95, 95, 6, 249, 9, 105, 116, 101, 114, 116, 111, 111, 108, 115, 6, 251, 7, 95, 95, 100, 111, 99, 95, 95, 9, 28, 105, 116, 101, 114, 116, 111, 111, 108, 115, 46, 95, 95, 100, 111, 99, 95, 95, 58, 115, 116, 114, 35, 111, 112, 97, 113, 117, 101, 6, 253, 11, 95, 95, 112, 97, 99, 107, 97, 103, 101, 95, 95, 6, 252, 0, 6, 254, 10, 95, 95, 108, 111, 97, 100, 101, 114, 95, 95, 4, 0, 0, 15, 6, 255, 8, 95, 95, 115, 112, 101, 99, 95, 95, 4, 0, 0, 27, 6, 256, 3, 116, 101, 101, 9, 13, 105, 116, 101, 114, 116, 111, 111, 108, 115, 46, 116, 101, 101, 6, 257, 10, 97, 99, 99, 117, 109, 117, 108, 97, 116, 101, 8, 20, 105, 116, 101, 114, 116, 111, 111, 108, 115, 46, 97, 99, 99, 117, 109, 117, 108, 97, 116, 101, 6, 258, 7, 98, 97, 116, 99, 104, 101, 100, 8, 17, 105, 116, 101, 114, 116, 111, 111, 108, 115, 46, 98, 97, 116, 99, 104, 101, 100, 6, 259, 5, 99, 104, 97, 105, 110, 8, 15, 105, 116, 101, 114, 116, 111, 111, 108, 115, 46, 99, 104, 97, 105, 110, 6, 260, 12, 99, 111, 109, 98, 105, 110, 97, 116, 105, 111, 110, 115, 8, 22, 105, 116, 101, 114, 116, 111, 111, 108, 115, 46, 99, 111, 109, 98, 105, 110, 97, 116, 105, 111, 110, 115, 6, 261, 8, 99, 111, 109, 112, 114, 101, 115, 115, 8, 18, 105, 116, 101, 114, 116, 111, 111, 108, 115, 46, 99, 111, 109, 112, 114, 101, 115, 115, 6, 262, 5, 99, 111, 117, 110, 116, 8, 15, 105, 116, 101, 114, 116, 111, 111, 108, 115, 46, 99, 111, 117, 110, 116, 6, 263, 29, 99, 111, 109, 98, 105, 110, 97, 116, 105, 111, 110, 115, 95, 119, 105, 116, 104, 95, 114, 101, 112, 108, 97, 99, 101, 109, 101, 110, 116, 8, 39, 105, 116, 101, 114, 116, 111, 111, 108, 115, 46, 99, 111, 109, 98, 105, 110, 97, 116, 105, 111, 110, 115, 95, 119, 105, 116, 104, 95, 114, 101, 112, 108, 97, 99, 101, 109, 101, 110, 116, 6, 264, 5, 99, 121, 99, 108, 101, 8, 15, 105, 116, 101, 114, 116, 111, 111, 108, 115, 46, 99, 121, 99, 108, 101, 6, 265, 9, 100, 114, 111, 112, 119, 104, 105, 108, 101, 8, 19, 105, 116, 101, 114, 116, 111, 111, 108, 115, 46, 100, 114, 111, 112, 119, 104, 105, 108, 101, 6, 266, 11, 102, 105, 108, 116, 101, 114, 102, 97, 108, 115, 101, 8, 21, 105, 116, 101, 114, 116, 111, 111, 108, 115, 46, 102, 105, 108, 116, 101, 114, 102, 97, 108, 115, 101, 6, 267, 7, 103, 114, 111, 117, 112, 98, 121, 8, 17, 105, 116, 101, 114, 116, 111, 111, 108, 115, 46, 103, 114, 111, 117, 112, 98, 121, 6, 268, 8, 95, 103, 114, 111, 117, 112, 101, 114, 8, 18, 105, 116, 101, 114, 116, 111, 111, 108, 115, 46, 95, 103, 114, 111, 117, 112, 101, 114, 6, 269, 6, 105, 115, 108, 105, 99, 101, 8, 16, 105, 116, 101, 114, 116, 111, 111, 108, 115, 46, 105, 115, 108, 105, 99, 101, 6, 270, 8, 112, 97, 105, 114, 119, 105, 115, 101, 8, 18, 105, 116, 101, 114, 116, 111, 111, 108, 115, 46, 112, 97, 105, 114, 119, 105, 115, 101, 6, 271, 12, 112, 101, 114, 109, 117, 116, 97, 116, 105, 111, 110, 115, 8, 22, 105, 116, 101, 114, 116, 111, 111, 108, 115, 46, 112, 101, 114, 109, 117, 116, 97, 116, 105, 111, 110, 115, 6, 272, 7, 112, 114, 111, 100, 117, 99, 116, 8, 17, 105, 116, 101, 114, 116, 111, 111, 108, 115, 46, 112, 114, 111, 100, 117, 99, 116, 6, 273, 6, 114, 101, 112, 101, 97, 116, 8, 16, 105, 116, 101, 114, 116, 111, 111, 108, 115, 46, 114, 101, 112, 101, 97, 116, 6, 274, 7, 115, 116, 97, 114, 109, 97, 112, 8, 17, 105, 116, 101, 114, 116, 111, 111, 108, 115, 46, 115, 116, 97, 114, 109, 97, 112, 6, 275, 9, 116, 97, 107, 101, 119, 104, 105, 108, 101, 8, 19, 105, 116, 101, 114, 116, 111, 111, 108, 115, 46, 116, 97, 107, 101, 119, 104, 105, 108, 101, 6, 276, 4, 95, 116, 101, 101, 8, 14, 105, 116, 101, 114, 116, 111, 111, 108, 115, 46, 95, 116, 101, 101, 6, 277, 15, 95, 116, 101, 101, 95, 100, 97, 116, 97, 111, 98, 106, 101, 99, 116, 8, 25, 105, 116, 101, 114, 116, 111, 111, 108, 115, 46, 95, 116, 101, 101, 95, 100, 97, 116, 97, 111, 98, 106, 101, 99, 116, 6, 278, 11, 122, 105, 112, 95, 108, 111, 110, 103, 101, 115, 116, 8, 21, 105, 116, 101, 114, 116, 111, 111, 108, 115, 46, 122, 105, 112, 95, 108, 111, 110, 103, 101, 115, 116]⟩ 0), (.bool true), (.bool false), (.str (S "itertools") 280), (.int (30) 0), (.str ⟨#[6, 368, 8, 95, 95, 110, 97, 109, 101, 95, 95, 6, 367, 4, 109, 97, 116, 104, 6, 369, 7, 95, 95, 100, 111, 99, 95, 95, 9, 23, 109, 97, 116, 104, 46, 95, 95, 100, 111, 99, 95, 95, 58, 115, 116, 114, 35, 111, 112, 97, 113, 117, 101, 6, 371, 11, 95, 95, 112, 97, 99, 107, 97, 103, 101, 95, 95, 6, 370, 0, 6, 372, 10, 95, 95, 108, 111, 97, 100, 101, 114, 95, 95, 4, 0, 0, 46, 6, 373, 8, 95, 95, 115, 112, 101, 99, 95, 95, 4, 0, 0, 49, 6, 374, 4, 97, 99, 111, 115, 9, 9, 109, 97, 116, 104, 46, 97, 99, 111, 115, 6, 375, 5, 97, 99, 111, 115, 104, 9, 10, 109, 97, 116, 104, 46, 97, 99, 111, 115, 104, 6, 376, 4, 97, 115, 105, 110, 9, 9, 109, 97, 116, 104, 46, 97, 115, 105, 110, 6, 377, 5, 97, 115, 105, 110, 104, 9, 10, 109, 97, 116, 104, 46, 97, 115, 105, 110, 104, 6, 378, 4, 97, 116, 97, 110, 9, 9, 109, 97, 116, 104, 46, 97, 116, 97, 110, 6, 379, 5, 97, 116, 97, 110, 50, 9, 10, 109, 97, 116, 104, 46, 97, 116, 97, 110, 50, 6, 380, 5, 97, 116, 97, 110, 104, 9, 10, 109, 97, 116, 104, 46, 97, 116, 97, 110, 104, 6, 381, 4, 99, 98, 114, 116, 9, 9, 109, 97, 116, 104, 46, 99, 98, 114, 116, 6, 382, 4, 99, 101, 105, 108, 9, 9, 109, 97, 116, 104, 46, 99, 101, 105, 108, 6, 383, 8, 99, 111, 112, 121, 115, 105, 103, 110, 9, 13, 109, 97, 116, 104, 46, 99, 111, 112, 121, 115, 105, 103, 110, 6, 384, 3, 99, 111, 115, 9, 8, 109, 97, 116, 104, 46, 99, 111, 115, 6, 385, 4, 99, 111, 115, 104, 9, 9, 109, 97, 116, 104, 46, 99, 111, 115, 104, 6, 386, 7, 100, 101, 103, 114, 101, 101, 115, 9, 12, 109, 97, 116, 104, 46, 100, 101, 103, 114, 101, 101, 115, 6, 387, 4, 100, 105, 115, 116, 9, 9, 109, 97, 116, 104, 46, 100, 105, 115, 116, 6, 388, 3, 101, 114, 102, 9, 8, 109, 97, 116, 104, 46, 101, 114, 102, 6, 389, 4, 101, 114, 102, 99, 9, 9, 109, 97, 116, 104, 46, 101, 114, 102, 99, 6, 390, 3, 101, 120, 112, 9, 8, 109, 97, 116, 104, 46, 101, 120, 112, 6, 391, 4, 101, 120, 112, 50, 9, 9, 109, 97, 116, 104, 46, 101, 120, 112, 50, 6, 392, 5, 101, 120, 112, 109, 49, 9, 10, 109, 97, 116, 104, 46, 101, 120, 112, 109, 49, 6, 393, 4, 102, 97, 98, 115, 9, 9, 109, 97, 116, 104, 46, 102, 97, 98, 115, 6, 394, 9, 102, 97, 99, 116, 111, 114, 105, 97, 108, 9, 14, 109, 97, 116, 104, 46, 102, 97, 99, 116, 111, 114, 105, 97, 108, 6, 395, 5, 102, 108, 111, 111, 114, 9, 10, 109, 97, 116, 104, 46, 102, 108, 111, 111, 114, 6, 396, 3, 102, 109, 97, 9, 8, 109, 97, 116, 104, 46, 102, 109, 97, 6, 397, 4, 102, 109, 111, 100, 9, 9, 109, 97, 116, 104, 46, 102, 109, 111, 100, 6, 398, 5, 102, 114, 101, 120, 112, 9, 10, 109, 97, 116, 104, 46, 102, 114, 101, 120, 112, 6, 399, 4, 102, 115, 117, 109, 9, 9, 109, 97, 116, 104, 46, 102, 115, 117, 109, 6, 400, 5, 103, 97, 109, 109, 97, 9, 10, 109, 97, 116, 104, 46, 103, 97, 109, 109, 97, 6, 401, 3, 103, 99, 100, 9, 8, 109, 97, 116, 104, 46, 103, 99, 100, 6, 402, 5, 104, 121, 112, 111, 116, 9, 10, 109, 97, 116, 104, 46, 104, 121, 112, 111, 116, 6, 403, 7, 105, 115, 99, 108, 111, 115, 101, 9, 12, 109, 97, 116, 104, 46, 105, 115, 99, 108, 111, 115, 101, 6, 404, 8, 105, 115, 102, 105, 110, 105, 116, 101, 9, 13, 109, 97, 116, 104, 46, 105, 115, 102, 105, 110, 105, 116, 101, 6, 405, 5, 105, 115, 105, 110, 102, 9, 10, 109, 97, 116, 104, 46, 105, 115, 105, 110, 102, 6, 406, 5, 105, 115, 110, 97, 110, 9, 10, 109, 97, 116, 104, 46, 105, 115, 110, 97, 110, 6, 407, 5, 105, 115, 113, 114, 116, 9, 10, 109, 97, 116, 104, 46, 105, 115, 113, 114, 116, 6, 408, 3, 108, 99, 109, 9, 8, 109, 97, 116, 104, 46, 108, 99, 109, 6, 409, 5, 108, 100, 101, 120, 112, 9, 10, 109, 97, 116, 104, 46, 108, 100, 101, 120, 112, 6, 410, 6, 108, 103, 97, 109, 109, 97, 9, 11, 109, 97, 116, 104, 46, 108, 103, 97, 109, 109, 97, 6, 411, 3, 108, 111, 103, 9, 8, 109, 97, 116, 104, 46, 108, 111, 103, 6, 412, 5, 108, 111, 103, 49, 112, 9, 10, 109, 97, 116, 104, 46, 108, 111, 103, 49, 112, 6, 413, 5, 108, 111, 103, 49, 48, 9, 10, 109, 97, 116, 104, 46, 108, 111, 103, 49, 48, 6, 414, 4, 108, 111, 103, 50, 9, 9, 109, 97, 116, 104, 46, 108, 111, 103, 50, 6, 415, 4, 109, 111, 100, 102, 9, 9, 109, 97, 116, 104, 46, 109, 111, 100, 102, 6, 416, 3, 112, 111, 119, 9, 8, 109, 97, 116, 104, 46, 112, 111, 119, 6, 417, 7, 114, 97, 100, 105, 97, 110, 115, 9, 12, 109, 97, 116, 104, 46, 114, 97, 100, 105, 97, 110, 115, 6, 418, 9, 114, 101, 109, 97, 105, 110, 100, 101, 114, 9, 14, 109, 97, 116, 104, 46, 114, 101, 109, 97, 105, 110, 100, 101, 114, 6, 419, 3, 115, 105, 110, 9, 8, 109, 97, 116, 104, 46, 115, 105, 110, 6, 420, 4, 115, 105, 110, 104, 9, 9, 109, 97, 116, 104, 46, 115, 105, 110, 104, 6, 421, 4, 115, 113, 114, 116, 9, 9, 109, 97, 116, 104, 46, 115, 113, 114, 116, 6, 422, 3, 116, 97, 110, 9, 8, 109, 97, 116, 104, 46, 116, 97, 110, 6, 423, 4, 116, 97, 110, 104, 9, 9, 109, 97, 116, 104, 46, 116, 97, 110, 104, 6, 424, 7, 115, 117, 109, 112, 114, 111, 100, 9, 12, 109, 97, 116, 104, 46, 115, 117, 109, 112, 114, 111, 100, 6, 425, 5, 116, 114, 117, 110, 99, 9, 10, 109, 97, 116, 104, 46, 116, 114, 117, 110, 99, 6, 426, 4, 112, 114, 111, 100, 9, 9, 109, 97, 116, 104, 46, 112, 114, 111, 100, 6, 427, 4, 112, 101, 114, 109, 9, 9, 109, 97, 116, 104, 46, 112, 101, 114, 109, 6, 428, 4, 99, 111, 109, 98, 9, 9, 109, 97, 116, 104, 46, 99, 111, 109, 98, 6, 429, 9, 110, 101, 120, 116, 97, 102, 116, 101, 114, 9, 14, 109, 97, 116, 104, 46, 110, 101, 120, 116, 97, 102, 116, 101, 114, 6, 430, 3, 117, 108, 112, 9, 8, 109, 97, 116, 104, 46, 117, 108, 112, 6, 431, 8, 95, 95, 102, 105, 108, 101, 95, 95, 6, 295, 123, 47, 110, 105, 120, 47, 115, 116, 111, 114, 101, 47, 119, 106, 49, 102, 53, 54, 113, 107, 121, 52, 112, 109, 106, 99, 55, 108, 48, 114, 54, 98, 54, 108, 55, 119, 104, 110, 110, 119, 55, 104, 112, 54, 45, 112, 121, 116, 104, 111, 110, 51, 45, 51, 46, 49, 51, 46, 49, 53, 47, 108, 105, 98, 47, 112, 121, 116, 104, 111, 110, 51, 46, 49, 51, 47, 108, 105, 98, 45, 100, 121, 110, 108, 111, 97, 100, 47, 109, 97, 116, 104, 46, 99, 112, 121, 116, 104, 111, 110, 45, 51, 49, 51, 45, 120, 56, 54, 95, 54, 52, 45, 108, 105, 110, 117, 120, 45, 103, 110, 117, 46, 115, 111, 6, 433, 2, 112, 105, 5, 432, 4614256656552045848, 6, 435, 1, 101, 5, 434, 4613303445314885481, 6, 437, 3, 116, 97, 117, 5, 436, 4618760256179416344, 6, 439, 3, 105, 110, 102, 5, 438, 9218868437227405312, 6, 441, 3, 110, 97, 110, 5, 440, 9221120237041090560]⟩ 0), (.bool true), (.bool false), (.str (S "math") 443)] 1), #[]⟩
noncomputable def o29 (P : Params) : Obj := ⟨(.type "tuple"), none, (.seq #[(.str (S "gcd") 290), (.str (S "lcm") 291)] 0), #[]⟩
noncomputable def o30 (P : Params) : Obj := ⟨(.type "dict"), none, (.dict #[E P "__name__" 368 (.str (S "math") 367), E P "__doc__" 369 (.builtin "off-the-table:math.__doc__:shared#opaque"), E P "__package__" 371 (.str (S "") 370), E P "__loader__" 372 (.builtin "off-the-table:math.__loader__:shared#opaque"), E P "__spec__" 373 (.builtin "off-the-table:math.__spec__:shared#opaque"), E P "acos" 374 (.builtin "off-the-table:math.acos:shared#opaque"), E P "acosh" 375 (.builtin "off-the-table:math.acosh:shared#opaque"), E P "asin" 376 (.builtin "off-the-table:math.asin:shared#opaque"), E P "asinh" 377 (.builtin "off-the-table:math.asinh:shared#opaque"), E P "atan" 378 (.builtin "off-the-table:math.atan:shared#opaque"), E P "atan2" 379 (.builtin "off-the-table:math.atan2:shared#opaque"), E P "atanh" 380 (.builtin "off-the-table:math.atanh:shared#opaque"), E P "cbrt" 381 (.builtin "off-the-table:math.cbrt:shared#opaque"), E P "ceil" 382 (.builtin "math.ceil"), E P "copysign" 383 (.builtin "math.copysign"), E P "cos" 384 (.builtin "off-the-table:math.cos:shared#opaque"), E P "cosh" 385 (.builtin "off-the-table:math.cosh:shared#opaque"), E P "degrees" 386 (.builtin "math.degrees"), E P "dist" 387 (.builtin "math.dist"), E P "erf" 388 (.builtin "off-the-table:math.erf:shared#opaque"), E P "erfc" 389 (.builtin "off-the-table:math.erfc:shared#opaque"), E P "exp" 390 (.builtin "off-the-table:math.exp:shared#opaque"), E P "exp2" 391 (.builtin "off-the-table:math.exp2:shared#opaque"), E P "expm1" 392 (.builtin "off-the-table:math.expm1:shared#opaque"), E P "fabs" 393 (.builtin "math.fabs"), E P "factorial" 394 (.builtin "math.factorial"), E P "floor" 395 (.builtin "math.floor"), E P "fma" 396 (.builtin "math.fma"), E P "fmod" 397 (.builtin "math.fmod"), E P "frexp" 398 (.builtin "math.frexp"), E P "fsum" 399 (.builtin "math.fsum"), E P "gamma" 400 (.builtin "off-the-table:math.gamma:shared#opaque"), E P "gcd" 401 (.builtin "math.gcd"), E P "hypot" 402 (.builtin "math.hypot"), E P "isclose" 403 (.builtin "math.isclose"), E P "isfinite" 404 (.builtin "math.isfinite"), E P "isinf" 405 (.builtin "math.isinf"), E P "isnan" 406 (.builtin "math.isnan"), E P "isqrt" 407 (.builtin "math.isqrt"), E P "lcm" 408 (.builtin "math.lcm"), E P "ldexp" 409 (.builtin "math.ldexp"), E P "lgamma" 410 (.builtin "off-the-table:math.lgamma:shared#opaque"), E P "log" 411 (.builtin "off-the-table:math.log:shared#opaque"), E P "log1p" 412 (.builtin "off-the-table:math.log1p:shared#opaque"), E P "log10" 413 (.builtin "off-the-table:math.log10:shared#opaque"), E P "log2" 414 (.builtin "off-the-table:math.log2:shared#opaque"), E P "modf" 415 (.builtin "math.modf"), E P "pow" 416 (.builtin "off-the-table:math.pow:shared#opaque"), E P "radians" 417 (.builtin "math.radians"), E P "remainder" 418 (.builtin "math.remainder"), E P "sin" 419 (.builtin "off-the-table:math.sin:shared#opaque"), E P "sinh" 420 (.builtin "off-the-table:math.sinh:shared#opaque"), E P "sqrt" 421 (.builtin "math.sqrt"), E P "tan" 422 (.builtin "off-the-table:math.tan:shared#opaque"), E P "tanh" 423 (.builtin "off-the-table:math.tanh:shared#opaque"), E P "sumprod" 424 (.builtin "math.sumprod"), E P "trunc" 425 (.builtin "math.trunc"), E P "prod" 426 (.builtin "math.prod"), E P "perm" 427 (.builtin "math.perm"), E P "comb" 428 (.builtin "math.comb"), E P "nextafter" 429 (.builtin "math.nextafter"), E P "ulp" 430 (.builtin "math.ulp"), E P "__file__" 431 (.str (S "/nix/store/wj1f56qky4pmjc7l0r6b6l7whnnw7hp6-python3-3.13.15/lib/python3.13/lib-dynload/math.cpython-313-x86_64-linux-gnu.so") 295), E P "pi" 433 (.float 4614256656552045848 432), E P "e" 435 (.float 4613303445314885481 434), E P "tau" 437 (.float 4618760256179416344 436), E P "inf" 439 (.float 9218868437227405312 438), E P "nan" 441 (.float 9221120237041090560 440)] 68), #[]⟩
noncomputable def o31 (P : Params) : Obj := ⟨(.type "module"), (some 30), .plain, #[]⟩
noncomputable def o32 (P : Params) : Obj := ⟨(.type "dict"), none, (.dict #[E P "name" 297 (.str (S "math") 296), E P "path" 298 (.str (S "/nix/store/wj1f56qky4pmjc7l0r6b6l7whnnw7hp6-python3-3.13.15/lib/python3.13/lib-dynload/math.cpython-313-x86_64-linux-gnu.so") 295)] 2), #[]⟩
noncomputable def o33 (P : Params) : Obj := ⟨(.type "dict"), none, (.dict #[E P "__module__" 302 (.str (S "_frozen_importlib_external") 300), E P "__firstlineno__" 303 (.int (1001) 301), E P "__doc__" 304 (.builtin "_frozen_importlib_external._LoaderBasics.__doc__:str#opaque"), E P "is_package" 305 (.builtin "_frozen_importlib_external._LoaderBasics.is_package#opaque"), E P "create_module" 306 (.builtin "_frozen_importlib_external._LoaderBasics.create_module#opaque"), E P "exec_module" 307 (.builtin "_frozen_importlib_external._LoaderBasics.exec_module#opaque"), E P "load_module" 308 (.builtin "_frozen_importlib_external._LoaderBasics.load_module#opaque"), E P "__static_attributes__" 309 (.ref 35), E P "__dict__" 311 (.ref 36), E P "__weakref__" 313 (.ref 37)] 10), #[]⟩
noncomputable def o34 (P : Params) : Obj := ⟨(.type "type"), none, (.cls ⟨(S "_LoaderBasics"), [(.type "object")], [(.ref 34), (.type "object")], 33, (S "_LoaderBasics"), true, [], [(.ref 44)], false, none, false⟩), #[]⟩
noncomputable def o35 (P : Params) : Obj := ⟨(.type "tuple"), none, (.seq #[] 0), #[]⟩
noncomputable def o36 (P : Params) : Obj := ⟨(.type "getset_descriptor"), none, (.fields #[(.str (S "__dict__") 310), (.ref 34), (.builtin "function.__dict__"), (.builtin "function.__dict__#set")]), #[]⟩
noncomputable def o37 (P : Params) : Obj := ⟨(.type "getset_descriptor"), none, (.fields #[(.str (S "__weakref__") 312), (.ref 34), (.builtin "ExceptionGroup.__weakref__"), .none]), #[]⟩
noncomputable def o38 (P : Params) : Obj := ⟨(.type "dict"), none, (.dict #[E P "__module__" 320 (.str (S "_frozen_importlib_external") 316), E P "__firstlineno__" 321 (.int (1176) 317), E P "__doc__" 322 (.builtin "_frozen_importlib_external.FileLoader.__doc__:str#opaque"), E P "__init__" 323 (.builtin "_frozen_importlib_external.FileLoader.__init__#opaque"), E P "__eq__" 324 (.builtin "_frozen_importlib_external.FileLoader.__eq__#opaque"), E P "__hash__" 325 (.builtin "_frozen_importlib_external.FileLoader.__hash__#opaque"), E P "load_module" 326 (.builtin "_frozen_importlib_external.FileLoader.load_module#opaque"), E P "get_filename" 327 (.builtin "_frozen_importlib_external.FileLoader.get_filename#opaque"), E P "get_data" 328 (.builtin "_frozen_importlib_external.FileLoader.get_data#opaque"), E P "get_resource_reader" 329 (.builtin "_frozen_importlib_external.FileLoader.get_resource_reader#opaque"), E P "__static_attributes__" 330 (.ref 40), E P "__dict__" 332 (.ref 41), E P "__weakref__" 334 (.ref 42)] 13), #[]⟩
noncomputable def o39 (P : Params) : Obj := ⟨(.type "type"), none, (.cls ⟨(S "FileLoader"), [(.type "object")], [(.ref 39), (.type "object")], 38, (S "FileLoader"), true, [], [(.ref 44)], false, none, false⟩), #[]⟩
noncomputable def o40 (P : Params) : Obj := ⟨(.type "tuple"), none, (.seq #[(.str (S "name") 318), (.str (S "path") 319)] 0), #[]⟩
noncomputable def o41 (P : Params) : Obj := ⟨(.type "getset_descriptor"), none, (.fields #[(.str (S "__dict__") 331), (.ref 39), (.builtin "function.__dict__"), (.builtin "function.__dict__#set")]), #[]⟩
noncomputable def o42 (P : Params) : Obj := ⟨(.type "getset_descriptor"), none, (.fields #[(.str (S "__weakref__") 333), (.ref 39), (.builtin "ExceptionGroup.__weakref__"), .none]), #[]⟩
noncomputable def o43 (P : Params) : Obj := ⟨(.type "dict"), none, (.dict #[E P "__module__" 341 (.str (S "_frozen_importlib_external") 337), E P "__firstlineno__" 342 (.int (1296) 338), E P "__doc__" 343 (.builtin "_frozen_importlib_external.ExtensionFileLoader.__doc__:str#opaque"), E P "__init__" 344 (.builtin "_frozen_importlib_external.ExtensionFileLoader.__init__#opaque"), E P "__eq__" 345 (.builtin "_frozen_importlib_external.ExtensionFileLoader.__eq__#opaque"), E P "__hash__" 346 (.builtin "_frozen_importlib_external.ExtensionFileLoader.__hash__#opaque"), E P "create_module" 347 (.builtin "_frozen_importlib_external.ExtensionFileLoader.create_module#opaque"), E P "exec_module" 348 (.builtin "_frozen_importlib_external.ExtensionFileLoader.exec_module#opaque"), E P "is_package" 349 (.builtin "_frozen_importlib_external.ExtensionFileLoader.is_package#opaque"), E P "get_code" 350 (.builtin "_frozen_importlib_external.ExtensionFileLoader.get_code#opaque"), E P "get_source" 351 (.builtin "_frozen_importlib_external.ExtensionFileLoader.get_source#opaque"), E P "get_filename" 352 (.builtin "_frozen_importlib_external.ExtensionFileLoader.get_filename#opaque"), E P "__static_attributes__" 353 (.ref 45)] 13), #[]⟩
noncomputable def o44 (P : Params) : Obj := ⟨(.type "type"), none, (.cls ⟨(S "ExtensionFileLoader"), [(.ref 39), (.ref 34)], [(.ref 44), (.ref 39), (.ref 34), (.type "object")], 43, (S "ExtensionFileLoader"), true, [], [], false, none, false⟩), #[]⟩
noncomputable def o45 (P : Params) : Obj := ⟨(.type "tuple"), none, (.seq #[(.str (S "name") 339), (.str (S "path") 340)] 0), #[]⟩
noncomputable def o46 (P : Params) : Obj := ⟨(.ref 44), (some 32), .plain, #[]⟩
noncomputable def o47 (P : Params) : Obj := ⟨(.type "list"), none, (.seq #[] 0), #[]⟩
noncomputable def o48 (P : Params) : Obj := ⟨(.type "dict"), none, (.dict #[E P "name" 356 (.str (S "math") 355), E P "loader" 357 (.ref 46), E P "origin" 358 (.str (S "/nix/store/wj1f56qky4pmjc7l0r6b6l7whnnw7hp6-python3-3.13.15/lib/python3.13/lib-dynload/math.cpython-313-x86_64-linux-gnu.so") 295), E P "loader_state" 359 .none, E P "submodule_search_locations" 360 .none, E P "_uninitialized_submodules" 361 (.ref 47), E P "_set_fileattr" 362 (.bool true), E P "_cached" 363 .none, E P "_initializing" 364 (.bool false)] 9), #[]⟩
noncomputable def o49 (P : Params) : Obj := ⟨(.ref 23), (some 48), .plain, #[]⟩
noncomputable def o50 (P : Params) : Obj := ⟨(.type "tuple"), none, (.seq #[] 0), #[]⟩
noncomputable def o51 (P : Params) : Obj := ⟨.none, none, (.fields #[(.int (3) 0), (.int (0) 0), (.ref 59), (.int (7) 0), (.int (0) 0), (.ref 66), (.int (9) 0), (.int (0) 0), (.ref 71), (.int (14) 0), (.int (0) 0), (.ref 76), (.int (19) 0), (.int (0) 0), (.ref 83), (.int (22) 0), (.int (0) 0), (.ref 90), (.int (24) 0), (.int (0) 0), (.ref 103), (.int (28) 0), (.int (0) 0), (.ref 122), (.int (32) 0), (.int (0) 0), (.ref 141), (.int (36) 0), (.int (0) 0), (.ref 160), (.int (40) 0), (.int (0) 0), (.ref 179), (.int (44) 0), (.int (0) 0), (.ref 198), (.int (48) 0), (.int (0) 0), (.ref 217), (.int (52) 0), (.int (0) 0), (.ref 236), (.int (56) 0), (.int (0) 0), (.ref 255), (.int (60) 0), (.int (0) 0), (.ref 274), (.int (64) 0), (.int (0) 0), (.ref 293), (.int (68) 0), (.int (0) 0), (.ref 312), (.int (72) 0), (.int (0) 0), (.ref 331), (.int (76) 0), (.int (0) 0), (.ref 350), (.int (80) 0), (.int (0) 0), (.ref 369), (.int (84) 0), (.int (0) 0), (.ref 388), (.int (88) 0), (.int (0) 0), (.ref 407), (.int (92) 0), (.int (0) 0), (.ref 426), (.int (96) 0), (.int (0) 0), (.ref 445), (.int (100) 0), (.int (0) 0), (.ref 464), (.int (104) 0), (.int (0) 0), (.ref 483), (.int (108) 0), (.int (0) 0), (.ref 502), (.int (110) 0), (.int (0) 0), (.ref 514), (.int (116) 0), (.int (0) 0), (.ref 533), (.int (118) 0), (.int (0) 0), (.ref 540), (.int (120) 0), (.int (0) 0), (.ref 547), (.int (123) 0), (.int (0) 0), (.ref 554), (.int (149) 0), (.int (0) 0), (.ref 601), (.int (151) 0), (.int (0) 0), (.ref 608), (.int (158) 0), (.int (0) 0), (.ref 615), (.int (165) 0), (.int (0) 0), (.ref 622), (.int (178) 0), (.int (0) 0), (.ref 629), (.int (190) 0), (.int (0) 0), (.ref 636), (.int (202) 0), (.int (0) 0), (.ref 643)]), #[]⟩
noncomputable def o52 (P : Params) : Obj := ⟨(.type "code"), none, (.fields #[(.str (S "<module>") 454), (.str (S "<module>") 455), (.str (S "/claim/cut.py") 456), (.int (1) 0), (.int (0) 0), (.int (0) 0), (.int (0) 0), (.int (0) 0), (.ref 50), (.bool false), (.int (453) 0), (.ref 51), .none, .none, .none, .none, (.int (457) 0), (.int (1) 0), (.str (S "/claim/cut.py") 458)]), #[]⟩
noncomputable def o53 (P : Params) : Obj := ⟨(.type "frame"), none, .plain, #[some (.ref 52), some (.ref 3), some (.ref 3), none, some (.str (S "__main__") 164), none, some (.ref 0)]⟩
noncomputable def o54 (P : Params) : Obj := ⟨(.type "tuple"), none, (.seq #[] 0), #[]⟩
noncomputable def o55 (P : Params) : Obj := ⟨.none, none, (.fields #[]), #[]⟩
noncomputable def o56 (P : Params) : Obj := ⟨(.type "tuple"), none, (.seq #[(.str (S "k") 462)] 0), #[]⟩
noncomputable def o57 (P : Params) : Obj := ⟨(.type "tuple"), none, (.seq #[] 0), #[]⟩
noncomputable def o58 (P : Params) : Obj := ⟨.none, none, (.func ⟨(S "_wall"), (S "_wall"), defArgs (topS 2), .stmts (defBody (topS 2)), defScope (topS 2), 0, [], .none, .none, .none, .none, none, .none, .none, 0⟩), #[]⟩
noncomputable def o59 (P : Params) : Obj := ⟨(.type "code"), none, (.fields #[(.str (S "_wall") 459), (.str (S "_wall") 460), (.str (S "/claim/cut.py") 461), (.int (3) 0), (.int (1) 0), (.int (0) 0), (.int (0) 0), (.int (3) 0), (.ref 54), (.bool true), (.int (453) 0), (.ref 55), .none, (.ref 56), (.ref 57), (.ref 58), (.int (463) 0), (.int (3) 0), (.str (S "/claim/cut.py") 464)]), #[]⟩
noncomputable def o60 (P : Params) : Obj := ⟨(.type "function"), none, (.func ⟨(S "_wall"), (S "_wall"), defArgs (topS 2), .stmts (defBody (topS 2)), defScope (topS 2), 3, [], .none, .none, .none, (.str (S "__main__") 164), none, (.ref 59), .none, 0⟩), #[]⟩
noncomputable def o61 (P : Params) : Obj := ⟨(.type "tuple"), none, (.seq #[] 0), #[]⟩
noncomputable def o62 (P : Params) : Obj := ⟨.none, none, (.fields #[]), #[]⟩
noncomputable def o63 (P : Params) : Obj := ⟨(.type "tuple"), none, (.seq #[(.str (S "house") 471)] 0), #[]⟩
noncomputable def o64 (P : Params) : Obj := ⟨(.type "tuple"), none, (.seq #[] 0), #[]⟩
noncomputable def o65 (P : Params) : Obj := ⟨.none, none, (.func ⟨(S "all_lots"), (S "all_lots"), defArgs (topS 4), .stmts (defBody (topS 4)), defScope (topS 4), 0, [], .none, .none, .none, .none, none, .none, .none, 0⟩), #[]⟩
noncomputable def o66 (P : Params) : Obj := ⟨(.type "code"), none, (.fields #[(.str (S "all_lots") 468), (.str (S "all_lots") 469), (.str (S "/claim/cut.py") 470), (.int (7) 0), (.int (1) 0), (.int (0) 0), (.int (0) 0), (.int (3) 0), (.ref 61), (.bool true), (.int (453) 0), (.ref 62), .none, (.ref 63), (.ref 64), (.ref 65), (.int (472) 0), (.int (7) 0), (.str (S "/claim/cut.py") 473)]), #[]⟩
noncomputable def o67 (P : Params) : Obj := ⟨(.type "function"), none, (.func ⟨(S "all_lots"), (S "all_lots"), defArgs (topS 4), .stmts (defBody (topS 4)), defScope (topS 4), 3, [], .none, .none, .none, (.str (S "lastbell.alllots") 466), none, (.ref 66), .none, 0⟩), #[]⟩
noncomputable def o68 (P : Params) : Obj := ⟨(.type "tuple"), none, (.seq #[] 0), #[]⟩
noncomputable def o69 (P : Params) : Obj := ⟨.none, none, (.fields #[]), #[]⟩
noncomputable def o70 (P : Params) : Obj := ⟨.none, none, (.func ⟨(S "lots_among"), (S "lots_among"), defArgs (topS 5), .stmts (defBody (topS 5)), defScope (topS 5), 0, [], .none, .none, .none, .none, none, .none, .none, 0⟩), #[]⟩
noncomputable def o71 (P : Params) : Obj := ⟨(.type "code"), none, (.fields #[(.str (S "lots_among") 475), (.str (S "lots_among") 476), (.str (S "/claim/cut.py") 477), (.int (9) 0), (.int (1) 0), (.int (0) 0), (.int (0) 0), (.int (3) 0), (.ref 68), (.bool true), (.int (453) 0), (.ref 69), .none, .none, .none, (.ref 70), (.int (478) 0), (.int (9) 0), (.str (S "/claim/cut.py") 479)]), #[]⟩
noncomputable def o72 (P : Params) : Obj := ⟨(.type "function"), none, (.func ⟨(S "lots_among"), (S "lots_among"), defArgs (topS 5), .stmts (defBody (topS 5)), defScope (topS 5), 3, [], .none, .none, .none, (.str (S "lastbell.alllots") 466), none, (.ref 71), .none, 0⟩), #[]⟩
noncomputable def o73 (P : Params) : Obj := ⟨(.type "tuple"), none, (.seq #[] 0), #[]⟩
noncomputable def o74 (P : Params) : Obj := ⟨.none, none, (.fields #[]), #[]⟩
noncomputable def o75 (P : Params) : Obj := ⟨.none, none, (.func ⟨(S "lots_of_greatest"), (S "lots_of_greatest"), defArgs (topS 6), .stmts (defBody (topS 6)), defScope (topS 6), 0, [], .none, .none, .none, .none, none, .none, .none, 0⟩), #[]⟩
noncomputable def o76 (P : Params) : Obj := ⟨(.type "code"), none, (.fields #[(.str (S "lots_of_greatest") 481), (.str (S "lots_of_greatest") 482), (.str (S "/claim/cut.py") 483), (.int (14) 0), (.int (1) 0), (.int (0) 0), (.int (0) 0), (.int (3) 0), (.ref 73), (.bool true), (.int (453) 0), (.ref 74), .none, .none, .none, (.ref 75), (.int (484) 0), (.int (14) 0), (.str (S "/claim/cut.py") 485)]), #[]⟩
noncomputable def o77 (P : Params) : Obj := ⟨(.type "function"), none, (.func ⟨(S "lots_of_greatest"), (S "lots_of_greatest"), defArgs (topS 6), .stmts (defBody (topS 6)), defScope (topS 6), 3, [], .none, .none, .none, (.str (S "lastbell.alllots") 466), none, (.ref 76), .none, 0⟩), #[]⟩
noncomputable def o78 (P : Params) : Obj := ⟨(.type "tuple"), none, (.seq #[] 0), #[]⟩
noncomputable def o79 (P : Params) : Obj := ⟨.none, none, (.fields #[]), #[]⟩
noncomputable def o80 (P : Params) : Obj := ⟨(.type "tuple"), none, (.seq #[(.str (S "lots") 490)] 0), #[]⟩
noncomputable def o81 (P : Params) : Obj := ⟨(.type "tuple"), none, (.seq #[] 0), #[]⟩
noncomputable def o82 (P : Params) : Obj := ⟨.none, none, (.func ⟨(S "least_lot"), (S "least_lot"), defArgs (topS 7), .stmts (defBody (topS 7)), defScope (topS 7), 0, [], .none, .none, .none, .none, none, .none, .none, 0⟩), #[]⟩
noncomputable def o83 (P : Params) : Obj := ⟨(.type "code"), none, (.fields #[(.str (S "least_lot") 487), (.str (S "least_lot") 488), (.str (S "/claim/cut.py") 489), (.int (19) 0), (.int (1) 0), (.int (0) 0), (.int (0) 0), (.int (3) 0), (.ref 78), (.bool true), (.int (453) 0), (.ref 79), .none, (.ref 80), (.ref 81), (.ref 82), (.int (491) 0), (.int (19) 0), (.str (S "/claim/cut.py") 492)]), #[]⟩
noncomputable def o84 (P : Params) : Obj := ⟨(.type "function"), none, (.func ⟨(S "least_lot"), (S "least_lot"), defArgs (topS 7), .stmts (defBody (topS 7)), defScope (topS 7), 3, [], .none, .none, .none, (.str (S "lastbell.alllots") 466), none, (.ref 83), .none, 0⟩), #[]⟩
noncomputable def o85 (P : Params) : Obj := ⟨(.type "tuple"), none, (.seq #[(.type "ValueError")] 0), #[]⟩
noncomputable def o86 (P : Params) : Obj := ⟨(.type "builtin_function_or_method"), none, (.fields #[(.builtin "type.__prepare__"), (.type "type")]), #[]⟩
noncomputable def o87 (P : Params) : Obj := ⟨(.type "dict"), none, (.dict #[E P "__module__" 503 (.str (S "lastbell.errors") 494), E P "__qualname__" 505 (.str (S "BellError") 504), E P "__firstlineno__" 507 (.int (22) 506), E P "__static_attributes__" 508 (.ref 92)] 4), #[]⟩
noncomputable def o88 (P : Params) : Obj := ⟨(.type "tuple"), none, (.seq #[] 0), #[]⟩
noncomputable def o89 (P : Params) : Obj := ⟨.none, none, (.fields #[]), #[]⟩
noncomputable def o90 (P : Params) : Obj := ⟨(.type "code"), none, (.fields #[(.str (S "BellError") 498), (.str (S "BellError") 499), (.str (S "/claim/cut.py") 500), (.int (22) 0), (.int (0) 0), (.int (0) 0), (.int (0) 0), (.int (0) 0), (.ref 88), (.bool false), (.int (453) 0), (.ref 89), .none, .none, .none, .none, (.int (501) 0), (.int (22) 0), (.str (S "/claim/cut.py") 502)]), #[]⟩
noncomputable def o91 (P : Params) : Obj := ⟨(.type "frame"), none, .plain, #[some (.ref 90), some (.ref 3), some (.ref 87), none, some (.str (S "lastbell.errors") 494), none, some (.ref 0)]⟩
noncomputable def o92 (P : Params) : Obj := ⟨(.type "tuple"), none, (.seq #[] 0), #[]⟩
noncomputable def o93 (P : Params) : Obj := ⟨(.type "dict"), none, (.dict #[E P "__module__" 503 (.str (S "lastbell.errors") 494), E P "__firstlineno__" 507 (.int (22) 506), E P "__static_attributes__" 508 (.ref 92), E P "__weakref__" 510 (.ref 95), E P "__doc__" 511 .none] 3), #[]⟩
noncomputable def o94 (P : Params) : Obj := ⟨(.type "type"), none, (.cls ⟨(S "BellError"), [(.type "ValueError")], [(.ref 94), (.type "ValueError"), (.type "Exception"), (.type "BaseException"), (.type "object")], 93, (S "BellError"), true, [], [(.ref 114), (.ref 133), (.ref 152), (.ref 171), (.ref 190), (.ref 209), (.ref 228), (.ref 247), (.ref 266), (.ref 285), (.ref 304), (.ref 323), (.ref 342), (.ref 361), (.ref 380), (.ref 399), (.ref 418), (.ref 437), (.ref 456), (.ref 475), (.ref 494), (.ref 506), (.ref 525)], false, none, false⟩), #[some (.ref 85), none, some (.str (S "BellError") 496), some (.str (S "BellError") 504), some (.builtin "ValueError.__new__"), some (.bool true)]⟩
noncomputable def o95 (P : Params) : Obj := ⟨(.type "getset_descriptor"), none, (.fields #[(.str (S "__weakref__") 509), (.ref 94), (.builtin "ExceptionGroup.__weakref__"), .none]), #[]⟩
noncomputable def o96 (P : Params) : Obj := ⟨(.type "super"), none, (.fields #[(.ref 94), (.ref 94), (.ref 94)]), #[]⟩
noncomputable def o97 (P : Params) : Obj := ⟨(.type "builtin_function_or_method"), none, (.fields #[(.builtin "object.__init_subclass__"), (.ref 94)]), #[]⟩
noncomputable def o98 (P : Params) : Obj := ⟨(.type "tuple"), none, (.seq #[(.ref 94)] 0), #[]⟩
noncomputable def o99 (P : Params) : Obj := ⟨(.type "builtin_function_or_method"), none, (.fields #[(.builtin "type.__prepare__"), (.type "type")]), #[]⟩
noncomputable def o100 (P : Params) : Obj := ⟨(.type "dict"), none, (.dict #[E P "__module__" 521 (.str (S "lastbell.errors") 494), E P "__qualname__" 523 (.str (S "BadHouse") 522), E P "__firstlineno__" 525 (.int (24) 524), E P "__init__" 533 (.ref 111), E P "__static_attributes__" 535 (.ref 112)] 5), #[]⟩
noncomputable def o101 (P : Params) : Obj := ⟨(.type "tuple"), none, (.seq #[] 0), #[]⟩
noncomputable def o102 (P : Params) : Obj := ⟨.none, none, (.fields #[(.int (26) 0), (.int (4) 0), (.ref 110)]), #[]⟩
noncomputable def o103 (P : Params) : Obj := ⟨(.type "code"), none, (.fields #[(.str (S "BadHouse") 516), (.str (S "BadHouse") 517), (.str (S "/claim/cut.py") 518), (.int (24) 0), (.int (0) 0), (.int (0) 0), (.int (0) 0), (.int (0) 0), (.ref 101), (.bool false), (.int (453) 0), (.ref 102), .none, .none, .none, .none, (.int (519) 0), (.int (24) 0), (.str (S "/claim/cut.py") 520)]), #[]⟩
noncomputable def o104 (P : Params) : Obj := ⟨(.type "frame"), none, .plain, #[some (.ref 103), some (.ref 3), some (.ref 100), none, some (.str (S "lastbell.errors") 494), none, some (.ref 0)]⟩
noncomputable def o105 (P : Params) : Obj := ⟨(.type "tuple"), none, (.seq #[] 0), #[]⟩
noncomputable def o106 (P : Params) : Obj := ⟨.none, none, (.fields #[]), #[]⟩
noncomputable def o107 (P : Params) : Obj := ⟨(.type "tuple"), none, (.seq #[(.str (S "self") 529), (.str (S "thing") 530)] 0), #[]⟩
noncomputable def o108 (P : Params) : Obj := ⟨(.type "tuple"), none, (.seq #[] 0), #[]⟩
noncomputable def o109 (P : Params) : Obj := ⟨.none, none, (.func ⟨(S "__init__"), (S "BadHouse.__init__"), defArgs (inClass (topS 10) 0), .stmts (defBody (inClass (topS 10) 0)), defScope (inClass (topS 10) 0), 0, [], .none, .none, .none, .none, none, .none, .none, 0⟩), #[]⟩
noncomputable def o110 (P : Params) : Obj := ⟨(.type "code"), none, (.fields #[(.str (S "__init__") 526), (.str (S "BadHouse.__init__") 527), (.str (S "/claim/cut.py") 528), (.int (26) 0), (.int (2) 0), (.int (0) 0), (.int (0) 0), (.int (3) 0), (.ref 105), (.bool true), (.int (453) 0), (.ref 106), .none, (.ref 107), (.ref 108), (.ref 109), (.int (531) 0), (.int (26) 0), (.str (S "/claim/cut.py") 532)]), #[]⟩
noncomputable def o111 (P : Params) : Obj := ⟨(.type "function"), none, (.func ⟨(S "__init__"), (S "BadHouse.__init__"), defArgs (inClass (topS 10) 0), .stmts (defBody (inClass (topS 10) 0)), defScope (inClass (topS 10) 0), 3, [], .none, .none, .none, (.str (S "lastbell.errors") 494), none, (.ref 110), .none, 0⟩), #[]⟩
noncomputable def o112 (P : Params) : Obj := ⟨(.type "tuple"), none, (.seq #[(.str (S "thing") 534)] 0), #[]⟩
noncomputable def o113 (P : Params) : Obj := ⟨(.type "dict"), none, (.dict #[E P "__module__" 521 (.str (S "lastbell.errors") 494), E P "__firstlineno__" 525 (.int (24) 524), E P "__init__" 533 (.ref 111), E P "__static_attributes__" 535 (.ref 112), E P "__doc__" 536 .none] 2), #[]⟩
noncomputable def o114 (P : Params) : Obj := ⟨(.type "type"), none, (.cls ⟨(S "BadHouse"), [(.ref 94)], [(.ref 114), (.ref 94), (.type "ValueError"), (.type "Exception"), (.type "BaseException"), (.type "object")], 113, (S "BadHouse"), true, [], [], false, none, false⟩), #[some (.ref 98), none, some (.str (S "BadHouse") 514), some (.str (S "BadHouse") 522), some (.builtin "ValueError.__new__"), some (.bool true)]⟩
noncomputable def o115 (P : Params) : Obj := ⟨(.type "super"), none, (.fields #[(.ref 114), (.ref 114), (.ref 114)]), #[]⟩
noncomputable def o116 (P : Params) : Obj := ⟨(.type "builtin_function_or_method"), none, (.fields #[(.builtin "object.__init_subclass__"), (.ref 114)]), #[]⟩
noncomputable def o117 (P : Params) : Obj := ⟨(.type "tuple"), none, (.seq #[(.ref 94)] 0), #[]⟩
noncomputable def o118 (P : Params) : Obj := ⟨(.type "builtin_function_or_method"), none, (.fields #[(.builtin "type.__prepare__"), (.type "type")]), #[]⟩
noncomputable def o119 (P : Params) : Obj := ⟨(.type "dict"), none, (.dict #[E P "__module__" 546 (.str (S "lastbell.errors") 494), E P "__qualname__" 548 (.str (S "BadPlaces") 547), E P "__firstlineno__" 550 (.int (28) 549), E P "__init__" 558 (.ref 130), E P "__static_attributes__" 560 (.ref 131)] 5), #[]⟩
noncomputable def o120 (P : Params) : Obj := ⟨(.type "tuple"), none, (.seq #[] 0), #[]⟩
noncomputable def o121 (P : Params) : Obj := ⟨.none, none, (.fields #[(.int (30) 0), (.int (4) 0), (.ref 129)]), #[]⟩
noncomputable def o122 (P : Params) : Obj := ⟨(.type "code"), none, (.fields #[(.str (S "BadPlaces") 541), (.str (S "BadPlaces") 542), (.str (S "/claim/cut.py") 543), (.int (28) 0), (.int (0) 0), (.int (0) 0), (.int (0) 0), (.int (0) 0), (.ref 120), (.bool false), (.int (453) 0), (.ref 121), .none, .none, .none, .none, (.int (544) 0), (.int (28) 0), (.str (S "/claim/cut.py") 545)]), #[]⟩
noncomputable def o123 (P : Params) : Obj := ⟨(.type "frame"), none, .plain, #[some (.ref 122), some (.ref 3), some (.ref 119), none, some (.str (S "lastbell.errors") 494), none, some (.ref 0)]⟩
noncomputable def o124 (P : Params) : Obj := ⟨(.type "tuple"), none, (.seq #[] 0), #[]⟩
noncomputable def o125 (P : Params) : Obj := ⟨.none, none, (.fields #[]), #[]⟩
noncomputable def o126 (P : Params) : Obj := ⟨(.type "tuple"), none, (.seq #[(.str (S "self") 554), (.str (S "places") 555)] 0), #[]⟩
noncomputable def o127 (P : Params) : Obj := ⟨(.type "tuple"), none, (.seq #[] 0), #[]⟩
noncomputable def o128 (P : Params) : Obj := ⟨.none, none, (.func ⟨(S "__init__"), (S "BadPlaces.__init__"), defArgs (inClass (topS 11) 0), .stmts (defBody (inClass (topS 11) 0)), defScope (inClass (topS 11) 0), 0, [], .none, .none, .none, .none, none, .none, .none, 0⟩), #[]⟩
noncomputable def o129 (P : Params) : Obj := ⟨(.type "code"), none, (.fields #[(.str (S "__init__") 551), (.str (S "BadPlaces.__init__") 552), (.str (S "/claim/cut.py") 553), (.int (30) 0), (.int (2) 0), (.int (0) 0), (.int (0) 0), (.int (3) 0), (.ref 124), (.bool true), (.int (453) 0), (.ref 125), .none, (.ref 126), (.ref 127), (.ref 128), (.int (556) 0), (.int (30) 0), (.str (S "/claim/cut.py") 557)]), #[]⟩
noncomputable def o130 (P : Params) : Obj := ⟨(.type "function"), none, (.func ⟨(S "__init__"), (S "BadPlaces.__init__"), defArgs (inClass (topS 11) 0), .stmts (defBody (inClass (topS 11) 0)), defScope (inClass (topS 11) 0), 3, [], .none, .none, .none, (.str (S "lastbell.errors") 494), none, (.ref 129), .none, 0⟩), #[]⟩
noncomputable def o131 (P : Params) : Obj := ⟨(.type "tuple"), none, (.seq #[(.str (S "places") 559)] 0), #[]⟩
noncomputable def o132 (P : Params) : Obj := ⟨(.type "dict"), none, (.dict #[E P "__module__" 546 (.str (S "lastbell.errors") 494), E P "__firstlineno__" 550 (.int (28) 549), E P "__init__" 558 (.ref 130), E P "__static_attributes__" 560 (.ref 131), E P "__doc__" 561 .none] 2), #[]⟩
noncomputable def o133 (P : Params) : Obj := ⟨(.type "type"), none, (.cls ⟨(S "BadPlaces"), [(.ref 94)], [(.ref 133), (.ref 94), (.type "ValueError"), (.type "Exception"), (.type "BaseException"), (.type "object")], 132, (S "BadPlaces"), true, [], [], false, none, false⟩), #[some (.ref 117), none, some (.str (S "BadPlaces") 539), some (.str (S "BadPlaces") 547), some (.builtin "ValueError.__new__"), some (.bool true)]⟩
noncomputable def o134 (P : Params) : Obj := ⟨(.type "super"), none, (.fields #[(.ref 133), (.ref 133), (.ref 133)]), #[]⟩
noncomputable def o135 (P : Params) : Obj := ⟨(.type "builtin_function_or_method"), none, (.fields #[(.builtin "object.__init_subclass__"), (.ref 133)]), #[]⟩
noncomputable def o136 (P : Params) : Obj := ⟨(.type "tuple"), none, (.seq #[(.ref 94)] 0), #[]⟩
noncomputable def o137 (P : Params) : Obj := ⟨(.type "builtin_function_or_method"), none, (.fields #[(.builtin "type.__prepare__"), (.type "type")]), #[]⟩
noncomputable def o138 (P : Params) : Obj := ⟨(.type "dict"), none, (.dict #[E P "__module__" 571 (.str (S "lastbell.errors") 494), E P "__qualname__" 573 (.str (S "BadRoads") 572), E P "__firstlineno__" 575 (.int (32) 574), E P "__init__" 583 (.ref 149), E P "__static_attributes__" 585 (.ref 150)] 5), #[]⟩
noncomputable def o139 (P : Params) : Obj := ⟨(.type "tuple"), none, (.seq #[] 0), #[]⟩
noncomputable def o140 (P : Params) : Obj := ⟨.none, none, (.fields #[(.int (34) 0), (.int (4) 0), (.ref 148)]), #[]⟩
noncomputable def o141 (P : Params) : Obj := ⟨(.type "code"), none, (.fields #[(.str (S "BadRoads") 566), (.str (S "BadRoads") 567), (.str (S "/claim/cut.py") 568), (.int (32) 0), (.int (0) 0), (.int (0) 0), (.int (0) 0), (.int (0) 0), (.ref 139), (.bool false), (.int (453) 0), (.ref 140), .none, .none, .none, .none, (.int (569) 0), (.int (32) 0), (.str (S "/claim/cut.py") 570)]), #[]⟩
noncomputable def o142 (P : Params) : Obj := ⟨(.type "frame"), none, .plain, #[some (.ref 141), some (.ref 3), some (.ref 138), none, some (.str (S "lastbell.errors") 494), none, some (.ref 0)]⟩
noncomputable def o143 (P : Params) : Obj := ⟨(.type "tuple"), none, (.seq #[] 0), #[]⟩
noncomputable def o144 (P : Params) : Obj := ⟨.none, none, (.fields #[]), #[]⟩
noncomputable def o145 (P : Params) : Obj := ⟨(.type "tuple"), none, (.seq #[(.str (S "self") 579), (.str (S "index") 580)] 0), #[]⟩
noncomputable def o146 (P : Params) : Obj := ⟨(.type "tuple"), none, (.seq #[] 0), #[]⟩
noncomputable def o147 (P : Params) : Obj := ⟨.none, none, (.func ⟨(S "__init__"), (S "BadRoads.__init__"), defArgs (inClass (topS 12) 0), .stmts (defBody (inClass (topS 12) 0)), defScope (inClass (topS 12) 0), 0, [], .none, .none, .none, .none, none, .none, .none, 0⟩), #[]⟩
noncomputable def o148 (P : Params) : Obj := ⟨(.type "code"), none, (.fields #[(.str (S "__init__") 576), (.str (S "BadRoads.__init__") 577), (.str (S "/claim/cut.py") 578), (.int (34) 0), (.int (2) 0), (.int (0) 0), (.int (0) 0), (.int (3) 0), (.ref 143), (.bool true), (.int (453) 0), (.ref 144), .none, (.ref 145), (.ref 146), (.ref 147), (.int (581) 0), (.int (34) 0), (.str (S "/claim/cut.py") 582)]), #[]⟩
noncomputable def o149 (P : Params) : Obj := ⟨(.type "function"), none, (.func ⟨(S "__init__"), (S "BadRoads.__init__"), defArgs (inClass (topS 12) 0), .stmts (defBody (inClass (topS 12) 0)), defScope (inClass (topS 12) 0), 3, [], .none, .none, .none, (.str (S "lastbell.errors") 494), none, (.ref 148), .none, 0⟩), #[]⟩
noncomputable def o150 (P : Params) : Obj := ⟨(.type "tuple"), none, (.seq #[(.str (S "index") 584)] 0), #[]⟩
noncomputable def o151 (P : Params) : Obj := ⟨(.type "dict"), none, (.dict #[E P "__module__" 571 (.str (S "lastbell.errors") 494), E P "__firstlineno__" 575 (.int (32) 574), E P "__init__" 583 (.ref 149), E P "__static_attributes__" 585 (.ref 150), E P "__doc__" 586 .none] 2), #[]⟩
noncomputable def o152 (P : Params) : Obj := ⟨(.type "type"), none, (.cls ⟨(S "BadRoads"), [(.ref 94)], [(.ref 152), (.ref 94), (.type "ValueError"), (.type "Exception"), (.type "BaseException"), (.type "object")], 151, (S "BadRoads"), true, [], [], false, none, false⟩), #[some (.ref 136), none, some (.str (S "BadRoads") 564), some (.str (S "BadRoads") 572), some (.builtin "ValueError.__new__"), some (.bool true)]⟩
noncomputable def o153 (P : Params) : Obj := ⟨(.type "super"), none, (.fields #[(.ref 152), (.ref 152), (.ref 152)]), #[]⟩
noncomputable def o154 (P : Params) : Obj := ⟨(.type "builtin_function_or_method"), none, (.fields #[(.builtin "object.__init_subclass__"), (.ref 152)]), #[]⟩
noncomputable def o155 (P : Params) : Obj := ⟨(.type "tuple"), none, (.seq #[(.ref 94)] 0), #[]⟩
noncomputable def o156 (P : Params) : Obj := ⟨(.type "builtin_function_or_method"), none, (.fields #[(.builtin "type.__prepare__"), (.type "type")]), #[]⟩
noncomputable def o157 (P : Params) : Obj := ⟨(.type "dict"), none, (.dict #[E P "__module__" 596 (.str (S "lastbell.errors") 494), E P "__qualname__" 598 (.str (S "BadDoors") 597), E P "__firstlineno__" 600 (.int (36) 599), E P "__init__" 608 (.ref 168), E P "__static_attributes__" 610 (.ref 169)] 5), #[]⟩
noncomputable def o158 (P : Params) : Obj := ⟨(.type "tuple"), none, (.seq #[] 0), #[]⟩
noncomputable def o159 (P : Params) : Obj := ⟨.none, none, (.fields #[(.int (38) 0), (.int (4) 0), (.ref 167)]), #[]⟩
noncomputable def o160 (P : Params) : Obj := ⟨(.type "code"), none, (.fields #[(.str (S "BadDoors") 591), (.str (S "BadDoors") 592), (.str (S "/claim/cut.py") 593), (.int (36) 0), (.int (0) 0), (.int (0) 0), (.int (0) 0), (.int (0) 0), (.ref 158), (.bool false), (.int (453) 0), (.ref 159), .none, .none, .none, .none, (.int (594) 0), (.int (36) 0), (.str (S "/claim/cut.py") 595)]), #[]⟩
noncomputable def o161 (P : Params) : Obj := ⟨(.type "frame"), none, .plain, #[some (.ref 160), some (.ref 3), some (.ref 157), none, some (.str (S "lastbell.errors") 494), none, some (.ref 0)]⟩
noncomputable def o162 (P : Params) : Obj := ⟨(.type "tuple"), none, (.seq #[] 0), #[]⟩
noncomputable def o163 (P : Params) : Obj := ⟨.none, none, (.fields #[]), #[]⟩
noncomputable def o164 (P : Params) : Obj := ⟨(.type "tuple"), none, (.seq #[(.str (S "self") 604), (.str (S "index") 605)] 0), #[]⟩
noncomputable def o165 (P : Params) : Obj := ⟨(.type "tuple"), none, (.seq #[] 0), #[]⟩
noncomputable def o166 (P : Params) : Obj := ⟨.none, none, (.func ⟨(S "__init__"), (S "BadDoors.__init__"), defArgs (inClass (topS 13) 0), .stmts (defBody (inClass (topS 13) 0)), defScope (inClass (topS 13) 0), 0, [], .none, .none, .none, .none, none, .none, .none, 0⟩), #[]⟩
noncomputable def o167 (P : Params) : Obj := ⟨(.type "code"), none, (.fields #[(.str (S "__init__") 601), (.str (S "BadDoors.__init__") 602), (.str (S "/claim/cut.py") 603), (.int (38) 0), (.int (2) 0), (.int (0) 0), (.int (0) 0), (.int (3) 0), (.ref 162), (.bool true), (.int (453) 0), (.ref 163), .none, (.ref 164), (.ref 165), (.ref 166), (.int (606) 0), (.int (38) 0), (.str (S "/claim/cut.py") 607)]), #[]⟩
noncomputable def o168 (P : Params) : Obj := ⟨(.type "function"), none, (.func ⟨(S "__init__"), (S "BadDoors.__init__"), defArgs (inClass (topS 13) 0), .stmts (defBody (inClass (topS 13) 0)), defScope (inClass (topS 13) 0), 3, [], .none, .none, .none, (.str (S "lastbell.errors") 494), none, (.ref 167), .none, 0⟩), #[]⟩
noncomputable def o169 (P : Params) : Obj := ⟨(.type "tuple"), none, (.seq #[(.str (S "index") 609)] 0), #[]⟩
noncomputable def o170 (P : Params) : Obj := ⟨(.type "dict"), none, (.dict #[E P "__module__" 596 (.str (S "lastbell.errors") 494), E P "__firstlineno__" 600 (.int (36) 599), E P "__init__" 608 (.ref 168), E P "__static_attributes__" 610 (.ref 169), E P "__doc__" 611 .none] 2), #[]⟩
noncomputable def o171 (P : Params) : Obj := ⟨(.type "type"), none, (.cls ⟨(S "BadDoors"), [(.ref 94)], [(.ref 171), (.ref 94), (.type "ValueError"), (.type "Exception"), (.type "BaseException"), (.type "object")], 170, (S "BadDoors"), true, [], [], false, none, false⟩), #[some (.ref 155), none, some (.str (S "BadDoors") 589), some (.str (S "BadDoors") 597), some (.builtin "ValueError.__new__"), some (.bool true)]⟩
noncomputable def o172 (P : Params) : Obj := ⟨(.type "super"), none, (.fields #[(.ref 171), (.ref 171), (.ref 171)]), #[]⟩
noncomputable def o173 (P : Params) : Obj := ⟨(.type "builtin_function_or_method"), none, (.fields #[(.builtin "object.__init_subclass__"), (.ref 171)]), #[]⟩
noncomputable def o174 (P : Params) : Obj := ⟨(.type "tuple"), none, (.seq #[(.ref 94)] 0), #[]⟩
noncomputable def o175 (P : Params) : Obj := ⟨(.type "builtin_function_or_method"), none, (.fields #[(.builtin "type.__prepare__"), (.type "type")]), #[]⟩
noncomputable def o176 (P : Params) : Obj := ⟨(.type "dict"), none, (.dict #[E P "__module__" 621 (.str (S "lastbell.errors") 494), E P "__qualname__" 623 (.str (S "BadSteps") 622), E P "__firstlineno__" 625 (.int (40) 624), E P "__init__" 633 (.ref 187), E P "__static_attributes__" 635 (.ref 188)] 5), #[]⟩
noncomputable def o177 (P : Params) : Obj := ⟨(.type "tuple"), none, (.seq #[] 0), #[]⟩
noncomputable def o178 (P : Params) : Obj := ⟨.none, none, (.fields #[(.int (42) 0), (.int (4) 0), (.ref 186)]), #[]⟩
noncomputable def o179 (P : Params) : Obj := ⟨(.type "code"), none, (.fields #[(.str (S "BadSteps") 616), (.str (S "BadSteps") 617), (.str (S "/claim/cut.py") 618), (.int (40) 0), (.int (0) 0), (.int (0) 0), (.int (0) 0), (.int (0) 0), (.ref 177), (.bool false), (.int (453) 0), (.ref 178), .none, .none, .none, .none, (.int (619) 0), (.int (40) 0), (.str (S "/claim/cut.py") 620)]), #[]⟩
noncomputable def o180 (P : Params) : Obj := ⟨(.type "frame"), none, .plain, #[some (.ref 179), some (.ref 3), some (.ref 176), none, some (.str (S "lastbell.errors") 494), none, some (.ref 0)]⟩
noncomputable def o181 (P : Params) : Obj := ⟨(.type "tuple"), none, (.seq #[] 0), #[]⟩
noncomputable def o182 (P : Params) : Obj := ⟨.none, none, (.fields #[]), #[]⟩
noncomputable def o183 (P : Params) : Obj := ⟨(.type "tuple"), none, (.seq #[(.str (S "self") 629), (.str (S "steps") 630)] 0), #[]⟩
noncomputable def o184 (P : Params) : Obj := ⟨(.type "tuple"), none, (.seq #[] 0), #[]⟩
noncomputable def o185 (P : Params) : Obj := ⟨.none, none, (.func ⟨(S "__init__"), (S "BadSteps.__init__"), defArgs (inClass (topS 14) 0), .stmts (defBody (inClass (topS 14) 0)), defScope (inClass (topS 14) 0), 0, [], .none, .none, .none, .none, none, .none, .none, 0⟩), #[]⟩
noncomputable def o186 (P : Params) : Obj := ⟨(.type "code"), none, (.fields #[(.str (S "__init__") 626), (.str (S "BadSteps.__init__") 627), (.str (S "/claim/cut.py") 628), (.int (42) 0), (.int (2) 0), (.int (0) 0), (.int (0) 0), (.int (3) 0), (.ref 181), (.bool true), (.int (453) 0), (.ref 182), .none, (.ref 183), (.ref 184), (.ref 185), (.int (631) 0), (.int (42) 0), (.str (S "/claim/cut.py") 632)]), #[]⟩
noncomputable def o187 (P : Params) : Obj := ⟨(.type "function"), none, (.func ⟨(S "__init__"), (S "BadSteps.__init__"), defArgs (inClass (topS 14) 0), .stmts (defBody (inClass (topS 14) 0)), defScope (inClass (topS 14) 0), 3, [], .none, .none, .none, (.str (S "lastbell.errors") 494), none, (.ref 186), .none, 0⟩), #[]⟩
noncomputable def o188 (P : Params) : Obj := ⟨(.type "tuple"), none, (.seq #[(.str (S "steps") 634)] 0), #[]⟩
noncomputable def o189 (P : Params) : Obj := ⟨(.type "dict"), none, (.dict #[E P "__module__" 621 (.str (S "lastbell.errors") 494), E P "__firstlineno__" 625 (.int (40) 624), E P "__init__" 633 (.ref 187), E P "__static_attributes__" 635 (.ref 188), E P "__doc__" 636 .none] 2), #[]⟩
noncomputable def o190 (P : Params) : Obj := ⟨(.type "type"), none, (.cls ⟨(S "BadSteps"), [(.ref 94)], [(.ref 190), (.ref 94), (.type "ValueError"), (.type "Exception"), (.type "BaseException"), (.type "object")], 189, (S "BadSteps"), true, [], [], false, none, false⟩), #[some (.ref 174), none, some (.str (S "BadSteps") 614), some (.str (S "BadSteps") 622), some (.builtin "ValueError.__new__"), some (.bool true)]⟩
noncomputable def o191 (P : Params) : Obj := ⟨(.type "super"), none, (.fields #[(.ref 190), (.ref 190), (.ref 190)]), #[]⟩
noncomputable def o192 (P : Params) : Obj := ⟨(.type "builtin_function_or_method"), none, (.fields #[(.builtin "object.__init_subclass__"), (.ref 190)]), #[]⟩
noncomputable def o193 (P : Params) : Obj := ⟨(.type "tuple"), none, (.seq #[(.ref 94)] 0), #[]⟩
noncomputable def o194 (P : Params) : Obj := ⟨(.type "builtin_function_or_method"), none, (.fields #[(.builtin "type.__prepare__"), (.type "type")]), #[]⟩
noncomputable def o195 (P : Params) : Obj := ⟨(.type "dict"), none, (.dict #[E P "__module__" 646 (.str (S "lastbell.errors") 494), E P "__qualname__" 648 (.str (S "BadTurn") 647), E P "__firstlineno__" 650 (.int (44) 649), E P "__init__" 658 (.ref 206), E P "__static_attributes__" 660 (.ref 207)] 5), #[]⟩
noncomputable def o196 (P : Params) : Obj := ⟨(.type "tuple"), none, (.seq #[] 0), #[]⟩
noncomputable def o197 (P : Params) : Obj := ⟨.none, none, (.fields #[(.int (46) 0), (.int (4) 0), (.ref 205)]), #[]⟩
noncomputable def o198 (P : Params) : Obj := ⟨(.type "code"), none, (.fields #[(.str (S "BadTurn") 641), (.str (S "BadTurn") 642), (.str (S "/claim/cut.py") 643), (.int (44) 0), (.int (0) 0), (.int (0) 0), (.int (0) 0), (.int (0) 0), (.ref 196), (.bool false), (.int (453) 0), (.ref 197), .none, .none, .none, .none, (.int (644) 0), (.int (44) 0), (.str (S "/claim/cut.py") 645)]), #[]⟩
noncomputable def o199 (P : Params) : Obj := ⟨(.type "frame"), none, .plain, #[some (.ref 198), some (.ref 3), some (.ref 195), none, some (.str (S "lastbell.errors") 494), none, some (.ref 0)]⟩
noncomputable def o200 (P : Params) : Obj := ⟨(.type "tuple"), none, (.seq #[] 0), #[]⟩
noncomputable def o201 (P : Params) : Obj := ⟨.none, none, (.fields #[]), #[]⟩
noncomputable def o202 (P : Params) : Obj := ⟨(.type "tuple"), none, (.seq #[(.str (S "self") 654), (.str (S "turn") 655)] 0), #[]⟩
noncomputable def o203 (P : Params) : Obj := ⟨(.type "tuple"), none, (.seq #[] 0), #[]⟩
noncomputable def o204 (P : Params) : Obj := ⟨.none, none, (.func ⟨(S "__init__"), (S "BadTurn.__init__"), defArgs (inClass (topS 15) 0), .stmts (defBody (inClass (topS 15) 0)), defScope (inClass (topS 15) 0), 0, [], .none, .none, .none, .none, none, .none, .none, 0⟩), #[]⟩
noncomputable def o205 (P : Params) : Obj := ⟨(.type "code"), none, (.fields #[(.str (S "__init__") 651), (.str (S "BadTurn.__init__") 652), (.str (S "/claim/cut.py") 653), (.int (46) 0), (.int (2) 0), (.int (0) 0), (.int (0) 0), (.int (3) 0), (.ref 200), (.bool true), (.int (453) 0), (.ref 201), .none, (.ref 202), (.ref 203), (.ref 204), (.int (656) 0), (.int (46) 0), (.str (S "/claim/cut.py") 657)]), #[]⟩
noncomputable def o206 (P : Params) : Obj := ⟨(.type "function"), none, (.func ⟨(S "__init__"), (S "BadTurn.__init__"), defArgs (inClass (topS 15) 0), .stmts (defBody (inClass (topS 15) 0)), defScope (inClass (topS 15) 0), 3, [], .none, .none, .none, (.str (S "lastbell.errors") 494), none, (.ref 205), .none, 0⟩), #[]⟩
noncomputable def o207 (P : Params) : Obj := ⟨(.type "tuple"), none, (.seq #[(.str (S "turn") 659)] 0), #[]⟩
noncomputable def o208 (P : Params) : Obj := ⟨(.type "dict"), none, (.dict #[E P "__module__" 646 (.str (S "lastbell.errors") 494), E P "__firstlineno__" 650 (.int (44) 649), E P "__init__" 658 (.ref 206), E P "__static_attributes__" 660 (.ref 207), E P "__doc__" 661 .none] 2), #[]⟩
noncomputable def o209 (P : Params) : Obj := ⟨(.type "type"), none, (.cls ⟨(S "BadTurn"), [(.ref 94)], [(.ref 209), (.ref 94), (.type "ValueError"), (.type "Exception"), (.type "BaseException"), (.type "object")], 208, (S "BadTurn"), true, [], [], false, none, false⟩), #[some (.ref 193), none, some (.str (S "BadTurn") 639), some (.str (S "BadTurn") 647), some (.builtin "ValueError.__new__"), some (.bool true)]⟩
noncomputable def o210 (P : Params) : Obj := ⟨(.type "super"), none, (.fields #[(.ref 209), (.ref 209), (.ref 209)]), #[]⟩
noncomputable def o211 (P : Params) : Obj := ⟨(.type "builtin_function_or_method"), none, (.fields #[(.builtin "object.__init_subclass__"), (.ref 209)]), #[]⟩
noncomputable def o212 (P : Params) : Obj := ⟨(.type "tuple"), none, (.seq #[(.ref 94)] 0), #[]⟩
noncomputable def o213 (P : Params) : Obj := ⟨(.type "builtin_function_or_method"), none, (.fields #[(.builtin "type.__prepare__"), (.type "type")]), #[]⟩
noncomputable def o214 (P : Params) : Obj := ⟨(.type "dict"), none, (.dict #[E P "__module__" 671 (.str (S "lastbell.errors") 494), E P "__qualname__" 673 (.str (S "BadTurns") 672), E P "__firstlineno__" 675 (.int (48) 674), E P "__init__" 683 (.ref 225), E P "__static_attributes__" 685 (.ref 226)] 5), #[]⟩
noncomputable def o215 (P : Params) : Obj := ⟨(.type "tuple"), none, (.seq #[] 0), #[]⟩
noncomputable def o216 (P : Params) : Obj := ⟨.none, none, (.fields #[(.int (50) 0), (.int (4) 0), (.ref 224)]), #[]⟩
noncomputable def o217 (P : Params) : Obj := ⟨(.type "code"), none, (.fields #[(.str (S "BadTurns") 666), (.str (S "BadTurns") 667), (.str (S "/claim/cut.py") 668), (.int (48) 0), (.int (0) 0), (.int (0) 0), (.int (0) 0), (.int (0) 0), (.ref 215), (.bool false), (.int (453) 0), (.ref 216), .none, .none, .none, .none, (.int (669) 0), (.int (48) 0), (.str (S "/claim/cut.py") 670)]), #[]⟩
noncomputable def o218 (P : Params) : Obj := ⟨(.type "frame"), none, .plain, #[some (.ref 217), some (.ref 3), some (.ref 214), none, some (.str (S "lastbell.errors") 494), none, some (.ref 0)]⟩
noncomputable def o219 (P : Params) : Obj := ⟨(.type "tuple"), none, (.seq #[] 0), #[]⟩
noncomputable def o220 (P : Params) : Obj := ⟨.none, none, (.fields #[]), #[]⟩
noncomputable def o221 (P : Params) : Obj := ⟨(.type "tuple"), none, (.seq #[(.str (S "self") 679), (.str (S "turns") 680)] 0), #[]⟩
noncomputable def o222 (P : Params) : Obj := ⟨(.type "tuple"), none, (.seq #[] 0), #[]⟩
noncomputable def o223 (P : Params) : Obj := ⟨.none, none, (.func ⟨(S "__init__"), (S "BadTurns.__init__"), defArgs (inClass (topS 16) 0), .stmts (defBody (inClass (topS 16) 0)), defScope (inClass (topS 16) 0), 0, [], .none, .none, .none, .none, none, .none, .none, 0⟩), #[]⟩
noncomputable def o224 (P : Params) : Obj := ⟨(.type "code"), none, (.fields #[(.str (S "__init__") 676), (.str (S "BadTurns.__init__") 677), (.str (S "/claim/cut.py") 678), (.int (50) 0), (.int (2) 0), (.int (0) 0), (.int (0) 0), (.int (3) 0), (.ref 219), (.bool true), (.int (453) 0), (.ref 220), .none, (.ref 221), (.ref 222), (.ref 223), (.int (681) 0), (.int (50) 0), (.str (S "/claim/cut.py") 682)]), #[]⟩
noncomputable def o225 (P : Params) : Obj := ⟨(.type "function"), none, (.func ⟨(S "__init__"), (S "BadTurns.__init__"), defArgs (inClass (topS 16) 0), .stmts (defBody (inClass (topS 16) 0)), defScope (inClass (topS 16) 0), 3, [], .none, .none, .none, (.str (S "lastbell.errors") 494), none, (.ref 224), .none, 0⟩), #[]⟩
noncomputable def o226 (P : Params) : Obj := ⟨(.type "tuple"), none, (.seq #[(.str (S "turns") 684)] 0), #[]⟩
noncomputable def o227 (P : Params) : Obj := ⟨(.type "dict"), none, (.dict #[E P "__module__" 671 (.str (S "lastbell.errors") 494), E P "__firstlineno__" 675 (.int (48) 674), E P "__init__" 683 (.ref 225), E P "__static_attributes__" 685 (.ref 226), E P "__doc__" 686 .none] 2), #[]⟩
noncomputable def o228 (P : Params) : Obj := ⟨(.type "type"), none, (.cls ⟨(S "BadTurns"), [(.ref 94)], [(.ref 228), (.ref 94), (.type "ValueError"), (.type "Exception"), (.type "BaseException"), (.type "object")], 227, (S "BadTurns"), true, [], [], false, none, false⟩), #[some (.ref 212), none, some (.str (S "BadTurns") 664), some (.str (S "BadTurns") 672), some (.builtin "ValueError.__new__"), some (.bool true)]⟩
noncomputable def o229 (P : Params) : Obj := ⟨(.type "super"), none, (.fields #[(.ref 228), (.ref 228), (.ref 228)]), #[]⟩
noncomputable def o230 (P : Params) : Obj := ⟨(.type "builtin_function_or_method"), none, (.fields #[(.builtin "object.__init_subclass__"), (.ref 228)]), #[]⟩
noncomputable def o231 (P : Params) : Obj := ⟨(.type "tuple"), none, (.seq #[(.ref 94)] 0), #[]⟩
noncomputable def o232 (P : Params) : Obj := ⟨(.type "builtin_function_or_method"), none, (.fields #[(.builtin "type.__prepare__"), (.type "type")]), #[]⟩
noncomputable def o233 (P : Params) : Obj := ⟨(.type "dict"), none, (.dict #[E P "__module__" 696 (.str (S "lastbell.errors") 494), E P "__qualname__" 698 (.str (S "BadPlan") 697), E P "__firstlineno__" 700 (.int (52) 699), E P "__init__" 708 (.ref 244), E P "__static_attributes__" 710 (.ref 245)] 5), #[]⟩
noncomputable def o234 (P : Params) : Obj := ⟨(.type "tuple"), none, (.seq #[] 0), #[]⟩
noncomputable def o235 (P : Params) : Obj := ⟨.none, none, (.fields #[(.int (54) 0), (.int (4) 0), (.ref 243)]), #[]⟩
noncomputable def o236 (P : Params) : Obj := ⟨(.type "code"), none, (.fields #[(.str (S "BadPlan") 691), (.str (S "BadPlan") 692), (.str (S "/claim/cut.py") 693), (.int (52) 0), (.int (0) 0), (.int (0) 0), (.int (0) 0), (.int (0) 0), (.ref 234), (.bool false), (.int (453) 0), (.ref 235), .none, .none, .none, .none, (.int (694) 0), (.int (52) 0), (.str (S "/claim/cut.py") 695)]), #[]⟩
noncomputable def o237 (P : Params) : Obj := ⟨(.type "frame"), none, .plain, #[some (.ref 236), some (.ref 3), some (.ref 233), none, some (.str (S "lastbell.errors") 494), none, some (.ref 0)]⟩
noncomputable def o238 (P : Params) : Obj := ⟨(.type "tuple"), none, (.seq #[] 0), #[]⟩
noncomputable def o239 (P : Params) : Obj := ⟨.none, none, (.fields #[]), #[]⟩
noncomputable def o240 (P : Params) : Obj := ⟨(.type "tuple"), none, (.seq #[(.str (S "self") 704), (.str (S "plan") 705)] 0), #[]⟩
noncomputable def o241 (P : Params) : Obj := ⟨(.type "tuple"), none, (.seq #[] 0), #[]⟩
noncomputable def o242 (P : Params) : Obj := ⟨.none, none, (.func ⟨(S "__init__"), (S "BadPlan.__init__"), defArgs (inClass (topS 17) 0), .stmts (defBody (inClass (topS 17) 0)), defScope (inClass (topS 17) 0), 0, [], .none, .none, .none, .none, none, .none, .none, 0⟩), #[]⟩
noncomputable def o243 (P : Params) : Obj := ⟨(.type "code"), none, (.fields #[(.str (S "__init__") 701), (.str (S "BadPlan.__init__") 702), (.str (S "/claim/cut.py") 703), (.int (54) 0), (.int (2) 0), (.int (0) 0), (.int (0) 0), (.int (3) 0), (.ref 238), (.bool true), (.int (453) 0), (.ref 239), .none, (.ref 240), (.ref 241), (.ref 242), (.int (706) 0), (.int (54) 0), (.str (S "/claim/cut.py") 707)]), #[]⟩
noncomputable def o244 (P : Params) : Obj := ⟨(.type "function"), none, (.func ⟨(S "__init__"), (S "BadPlan.__init__"), defArgs (inClass (topS 17) 0), .stmts (defBody (inClass (topS 17) 0)), defScope (inClass (topS 17) 0), 3, [], .none, .none, .none, (.str (S "lastbell.errors") 494), none, (.ref 243), .none, 0⟩), #[]⟩
noncomputable def o245 (P : Params) : Obj := ⟨(.type "tuple"), none, (.seq #[(.str (S "plan") 709)] 0), #[]⟩
noncomputable def o246 (P : Params) : Obj := ⟨(.type "dict"), none, (.dict #[E P "__module__" 696 (.str (S "lastbell.errors") 494), E P "__firstlineno__" 700 (.int (52) 699), E P "__init__" 708 (.ref 244), E P "__static_attributes__" 710 (.ref 245), E P "__doc__" 711 .none] 2), #[]⟩
noncomputable def o247 (P : Params) : Obj := ⟨(.type "type"), none, (.cls ⟨(S "BadPlan"), [(.ref 94)], [(.ref 247), (.ref 94), (.type "ValueError"), (.type "Exception"), (.type "BaseException"), (.type "object")], 246, (S "BadPlan"), true, [], [], false, none, false⟩), #[some (.ref 231), none, some (.str (S "BadPlan") 689), some (.str (S "BadPlan") 697), some (.builtin "ValueError.__new__"), some (.bool true)]⟩
noncomputable def o248 (P : Params) : Obj := ⟨(.type "super"), none, (.fields #[(.ref 247), (.ref 247), (.ref 247)]), #[]⟩
noncomputable def o249 (P : Params) : Obj := ⟨(.type "builtin_function_or_method"), none, (.fields #[(.builtin "object.__init_subclass__"), (.ref 247)]), #[]⟩
noncomputable def o250 (P : Params) : Obj := ⟨(.type "tuple"), none, (.seq #[(.ref 94)] 0), #[]⟩
noncomputable def o251 (P : Params) : Obj := ⟨(.type "builtin_function_or_method"), none, (.fields #[(.builtin "type.__prepare__"), (.type "type")]), #[]⟩
noncomputable def o252 (P : Params) : Obj := ⟨(.type "dict"), none, (.dict #[E P "__module__" 721 (.str (S "lastbell.errors") 494), E P "__qualname__" 723 (.str (S "BadLot") 722), E P "__firstlineno__" 725 (.int (56) 724), E P "__init__" 733 (.ref 263), E P "__static_attributes__" 735 (.ref 264)] 5), #[]⟩
noncomputable def o253 (P : Params) : Obj := ⟨(.type "tuple"), none, (.seq #[] 0), #[]⟩
noncomputable def o254 (P : Params) : Obj := ⟨.none, none, (.fields #[(.int (58) 0), (.int (4) 0), (.ref 262)]), #[]⟩
noncomputable def o255 (P : Params) : Obj := ⟨(.type "code"), none, (.fields #[(.str (S "BadLot") 716), (.str (S "BadLot") 717), (.str (S "/claim/cut.py") 718), (.int (56) 0), (.int (0) 0), (.int (0) 0), (.int (0) 0), (.int (0) 0), (.ref 253), (.bool false), (.int (453) 0), (.ref 254), .none, .none, .none, .none, (.int (719) 0), (.int (56) 0), (.str (S "/claim/cut.py") 720)]), #[]⟩
noncomputable def o256 (P : Params) : Obj := ⟨(.type "frame"), none, .plain, #[some (.ref 255), some (.ref 3), some (.ref 252), none, some (.str (S "lastbell.errors") 494), none, some (.ref 0)]⟩
noncomputable def o257 (P : Params) : Obj := ⟨(.type "tuple"), none, (.seq #[] 0), #[]⟩
noncomputable def o258 (P : Params) : Obj := ⟨.none, none, (.fields #[]), #[]⟩
noncomputable def o259 (P : Params) : Obj := ⟨(.type "tuple"), none, (.seq #[(.str (S "self") 729), (.str (S "lot") 730)] 0), #[]⟩
noncomputable def o260 (P : Params) : Obj := ⟨(.type "tuple"), none, (.seq #[] 0), #[]⟩
noncomputable def o261 (P : Params) : Obj := ⟨.none, none, (.func ⟨(S "__init__"), (S "BadLot.__init__"), defArgs (inClass (topS 18) 0), .stmts (defBody (inClass (topS 18) 0)), defScope (inClass (topS 18) 0), 0, [], .none, .none, .none, .none, none, .none, .none, 0⟩), #[]⟩
noncomputable def o262 (P : Params) : Obj := ⟨(.type "code"), none, (.fields #[(.str (S "__init__") 726), (.str (S "BadLot.__init__") 727), (.str (S "/claim/cut.py") 728), (.int (58) 0), (.int (2) 0), (.int (0) 0), (.int (0) 0), (.int (3) 0), (.ref 257), (.bool true), (.int (453) 0), (.ref 258), .none, (.ref 259), (.ref 260), (.ref 261), (.int (731) 0), (.int (58) 0), (.str (S "/claim/cut.py") 732)]), #[]⟩
noncomputable def o263 (P : Params) : Obj := ⟨(.type "function"), none, (.func ⟨(S "__init__"), (S "BadLot.__init__"), defArgs (inClass (topS 18) 0), .stmts (defBody (inClass (topS 18) 0)), defScope (inClass (topS 18) 0), 3, [], .none, .none, .none, (.str (S "lastbell.errors") 494), none, (.ref 262), .none, 0⟩), #[]⟩
noncomputable def o264 (P : Params) : Obj := ⟨(.type "tuple"), none, (.seq #[(.str (S "lot") 734)] 0), #[]⟩
noncomputable def o265 (P : Params) : Obj := ⟨(.type "dict"), none, (.dict #[E P "__module__" 721 (.str (S "lastbell.errors") 494), E P "__firstlineno__" 725 (.int (56) 724), E P "__init__" 733 (.ref 263), E P "__static_attributes__" 735 (.ref 264), E P "__doc__" 736 .none] 2), #[]⟩
noncomputable def o266 (P : Params) : Obj := ⟨(.type "type"), none, (.cls ⟨(S "BadLot"), [(.ref 94)], [(.ref 266), (.ref 94), (.type "ValueError"), (.type "Exception"), (.type "BaseException"), (.type "object")], 265, (S "BadLot"), true, [], [], false, none, false⟩), #[some (.ref 250), none, some (.str (S "BadLot") 714), some (.str (S "BadLot") 722), some (.builtin "ValueError.__new__"), some (.bool true)]⟩
noncomputable def o267 (P : Params) : Obj := ⟨(.type "super"), none, (.fields #[(.ref 266), (.ref 266), (.ref 266)]), #[]⟩
noncomputable def o268 (P : Params) : Obj := ⟨(.type "builtin_function_or_method"), none, (.fields #[(.builtin "object.__init_subclass__"), (.ref 266)]), #[]⟩
noncomputable def o269 (P : Params) : Obj := ⟨(.type "tuple"), none, (.seq #[(.ref 94)] 0), #[]⟩
noncomputable def o270 (P : Params) : Obj := ⟨(.type "builtin_function_or_method"), none, (.fields #[(.builtin "type.__prepare__"), (.type "type")]), #[]⟩
noncomputable def o271 (P : Params) : Obj := ⟨(.type "dict"), none, (.dict #[E P "__module__" 746 (.str (S "lastbell.errors") 494), E P "__qualname__" 748 (.str (S "BadBell") 747), E P "__firstlineno__" 750 (.int (60) 749), E P "__init__" 758 (.ref 282), E P "__static_attributes__" 760 (.ref 283)] 5), #[]⟩
noncomputable def o272 (P : Params) : Obj := ⟨(.type "tuple"), none, (.seq #[] 0), #[]⟩
noncomputable def o273 (P : Params) : Obj := ⟨.none, none, (.fields #[(.int (62) 0), (.int (4) 0), (.ref 281)]), #[]⟩
noncomputable def o274 (P : Params) : Obj := ⟨(.type "code"), none, (.fields #[(.str (S "BadBell") 741), (.str (S "BadBell") 742), (.str (S "/claim/cut.py") 743), (.int (60) 0), (.int (0) 0), (.int (0) 0), (.int (0) 0), (.int (0) 0), (.ref 272), (.bool false), (.int (453) 0), (.ref 273), .none, .none, .none, .none, (.int (744) 0), (.int (60) 0), (.str (S "/claim/cut.py") 745)]), #[]⟩
noncomputable def o275 (P : Params) : Obj := ⟨(.type "frame"), none, .plain, #[some (.ref 274), some (.ref 3), some (.ref 271), none, some (.str (S "lastbell.errors") 494), none, some (.ref 0)]⟩
noncomputable def o276 (P : Params) : Obj := ⟨(.type "tuple"), none, (.seq #[] 0), #[]⟩
noncomputable def o277 (P : Params) : Obj := ⟨.none, none, (.fields #[]), #[]⟩
noncomputable def o278 (P : Params) : Obj := ⟨(.type "tuple"), none, (.seq #[(.str (S "self") 754), (.str (S "bell") 755)] 0), #[]⟩
noncomputable def o279 (P : Params) : Obj := ⟨(.type "tuple"), none, (.seq #[] 0), #[]⟩
noncomputable def o280 (P : Params) : Obj := ⟨.none, none, (.func ⟨(S "__init__"), (S "BadBell.__init__"), defArgs (inClass (topS 19) 0), .stmts (defBody (inClass (topS 19) 0)), defScope (inClass (topS 19) 0), 0, [], .none, .none, .none, .none, none, .none, .none, 0⟩), #[]⟩
noncomputable def o281 (P : Params) : Obj := ⟨(.type "code"), none, (.fields #[(.str (S "__init__") 751), (.str (S "BadBell.__init__") 752), (.str (S "/claim/cut.py") 753), (.int (62) 0), (.int (2) 0), (.int (0) 0), (.int (0) 0), (.int (3) 0), (.ref 276), (.bool true), (.int (453) 0), (.ref 277), .none, (.ref 278), (.ref 279), (.ref 280), (.int (756) 0), (.int (62) 0), (.str (S "/claim/cut.py") 757)]), #[]⟩
noncomputable def o282 (P : Params) : Obj := ⟨(.type "function"), none, (.func ⟨(S "__init__"), (S "BadBell.__init__"), defArgs (inClass (topS 19) 0), .stmts (defBody (inClass (topS 19) 0)), defScope (inClass (topS 19) 0), 3, [], .none, .none, .none, (.str (S "lastbell.errors") 494), none, (.ref 281), .none, 0⟩), #[]⟩
noncomputable def o283 (P : Params) : Obj := ⟨(.type "tuple"), none, (.seq #[(.str (S "bell") 759)] 0), #[]⟩
noncomputable def o284 (P : Params) : Obj := ⟨(.type "dict"), none, (.dict #[E P "__module__" 746 (.str (S "lastbell.errors") 494), E P "__firstlineno__" 750 (.int (60) 749), E P "__init__" 758 (.ref 282), E P "__static_attributes__" 760 (.ref 283), E P "__doc__" 761 .none] 2), #[]⟩
noncomputable def o285 (P : Params) : Obj := ⟨(.type "type"), none, (.cls ⟨(S "BadBell"), [(.ref 94)], [(.ref 285), (.ref 94), (.type "ValueError"), (.type "Exception"), (.type "BaseException"), (.type "object")], 284, (S "BadBell"), true, [], [], false, none, false⟩), #[some (.ref 269), none, some (.str (S "BadBell") 739), some (.str (S "BadBell") 747), some (.builtin "ValueError.__new__"), some (.bool true)]⟩
noncomputable def o286 (P : Params) : Obj := ⟨(.type "super"), none, (.fields #[(.ref 285), (.ref 285), (.ref 285)]), #[]⟩
noncomputable def o287 (P : Params) : Obj := ⟨(.type "builtin_function_or_method"), none, (.fields #[(.builtin "object.__init_subclass__"), (.ref 285)]), #[]⟩
noncomputable def o288 (P : Params) : Obj := ⟨(.type "tuple"), none, (.seq #[(.ref 94)] 0), #[]⟩
noncomputable def o289 (P : Params) : Obj := ⟨(.type "builtin_function_or_method"), none, (.fields #[(.builtin "type.__prepare__"), (.type "type")]), #[]⟩
noncomputable def o290 (P : Params) : Obj := ⟨(.type "dict"), none, (.dict #[E P "__module__" 771 (.str (S "lastbell.errors") 494), E P "__qualname__" 773 (.str (S "BadAmount") 772), E P "__firstlineno__" 775 (.int (64) 774), E P "__init__" 783 (.ref 301), E P "__static_attributes__" 785 (.ref 302)] 5), #[]⟩
noncomputable def o291 (P : Params) : Obj := ⟨(.type "tuple"), none, (.seq #[] 0), #[]⟩
noncomputable def o292 (P : Params) : Obj := ⟨.none, none, (.fields #[(.int (66) 0), (.int (4) 0), (.ref 300)]), #[]⟩
noncomputable def o293 (P : Params) : Obj := ⟨(.type "code"), none, (.fields #[(.str (S "BadAmount") 766), (.str (S "BadAmount") 767), (.str (S "/claim/cut.py") 768), (.int (64) 0), (.int (0) 0), (.int (0) 0), (.int (0) 0), (.int (0) 0), (.ref 291), (.bool false), (.int (453) 0), (.ref 292), .none, .none, .none, .none, (.int (769) 0), (.int (64) 0), (.str (S "/claim/cut.py") 770)]), #[]⟩
noncomputable def o294 (P : Params) : Obj := ⟨(.type "frame"), none, .plain, #[some (.ref 293), some (.ref 3), some (.ref 290), none, some (.str (S "lastbell.errors") 494), none, some (.ref 0)]⟩
noncomputable def o295 (P : Params) : Obj := ⟨(.type "tuple"), none, (.seq #[] 0), #[]⟩
noncomputable def o296 (P : Params) : Obj := ⟨.none, none, (.fields #[]), #[]⟩
noncomputable def o297 (P : Params) : Obj := ⟨(.type "tuple"), none, (.seq #[(.str (S "self") 779), (.str (S "amount") 780)] 0), #[]⟩
noncomputable def o298 (P : Params) : Obj := ⟨(.type "tuple"), none, (.seq #[] 0), #[]⟩
noncomputable def o299 (P : Params) : Obj := ⟨.none, none, (.func ⟨(S "__init__"), (S "BadAmount.__init__"), defArgs (inClass (topS 20) 0), .stmts (defBody (inClass (topS 20) 0)), defScope (inClass (topS 20) 0), 0, [], .none, .none, .none, .none, none, .none, .none, 0⟩), #[]⟩
noncomputable def o300 (P : Params) : Obj := ⟨(.type "code"), none, (.fields #[(.str (S "__init__") 776), (.str (S "BadAmount.__init__") 777), (.str (S "/claim/cut.py") 778), (.int (66) 0), (.int (2) 0), (.int (0) 0), (.int (0) 0), (.int (3) 0), (.ref 295), (.bool true), (.int (453) 0), (.ref 296), .none, (.ref 297), (.ref 298), (.ref 299), (.int (781) 0), (.int (66) 0), (.str (S "/claim/cut.py") 782)]), #[]⟩
noncomputable def o301 (P : Params) : Obj := ⟨(.type "function"), none, (.func ⟨(S "__init__"), (S "BadAmount.__init__"), defArgs (inClass (topS 20) 0), .stmts (defBody (inClass (topS 20) 0)), defScope (inClass (topS 20) 0), 3, [], .none, .none, .none, (.str (S "lastbell.errors") 494), none, (.ref 300), .none, 0⟩), #[]⟩
noncomputable def o302 (P : Params) : Obj := ⟨(.type "tuple"), none, (.seq #[(.str (S "amount") 784)] 0), #[]⟩
noncomputable def o303 (P : Params) : Obj := ⟨(.type "dict"), none, (.dict #[E P "__module__" 771 (.str (S "lastbell.errors") 494), E P "__firstlineno__" 775 (.int (64) 774), E P "__init__" 783 (.ref 301), E P "__static_attributes__" 785 (.ref 302), E P "__doc__" 786 .none] 2), #[]⟩
noncomputable def o304 (P : Params) : Obj := ⟨(.type "type"), none, (.cls ⟨(S "BadAmount"), [(.ref 94)], [(.ref 304), (.ref 94), (.type "ValueError"), (.type "Exception"), (.type "BaseException"), (.type "object")], 303, (S "BadAmount"), true, [], [], false, none, false⟩), #[some (.ref 288), none, some (.str (S "BadAmount") 764), some (.str (S "BadAmount") 772), some (.builtin "ValueError.__new__"), some (.bool true)]⟩
noncomputable def o305 (P : Params) : Obj := ⟨(.type "super"), none, (.fields #[(.ref 304), (.ref 304), (.ref 304)]), #[]⟩
noncomputable def o306 (P : Params) : Obj := ⟨(.type "builtin_function_or_method"), none, (.fields #[(.builtin "object.__init_subclass__"), (.ref 304)]), #[]⟩
noncomputable def o307 (P : Params) : Obj := ⟨(.type "tuple"), none, (.seq #[(.ref 94)] 0), #[]⟩
noncomputable def o308 (P : Params) : Obj := ⟨(.type "builtin_function_or_method"), none, (.fields #[(.builtin "type.__prepare__"), (.type "type")]), #[]⟩
noncomputable def o309 (P : Params) : Obj := ⟨(.type "dict"), none, (.dict #[E P "__module__" 796 (.str (S "lastbell.errors") 494), E P "__qualname__" 798 (.str (S "BadMoments") 797), E P "__firstlineno__" 800 (.int (68) 799), E P "__init__" 808 (.ref 320), E P "__static_attributes__" 810 (.ref 321)] 5), #[]⟩
noncomputable def o310 (P : Params) : Obj := ⟨(.type "tuple"), none, (.seq #[] 0), #[]⟩
noncomputable def o311 (P : Params) : Obj := ⟨.none, none, (.fields #[(.int (70) 0), (.int (4) 0), (.ref 319)]), #[]⟩
noncomputable def o312 (P : Params) : Obj := ⟨(.type "code"), none, (.fields #[(.str (S "BadMoments") 791), (.str (S "BadMoments") 792), (.str (S "/claim/cut.py") 793), (.int (68) 0), (.int (0) 0), (.int (0) 0), (.int (0) 0), (.int (0) 0), (.ref 310), (.bool false), (.int (453) 0), (.ref 311), .none, .none, .none, .none, (.int (794) 0), (.int (68) 0), (.str (S "/claim/cut.py") 795)]), #[]⟩
noncomputable def o313 (P : Params) : Obj := ⟨(.type "frame"), none, .plain, #[some (.ref 312), some (.ref 3), some (.ref 309), none, some (.str (S "lastbell.errors") 494), none, some (.ref 0)]⟩
noncomputable def o314 (P : Params) : Obj := ⟨(.type "tuple"), none, (.seq #[] 0), #[]⟩
noncomputable def o315 (P : Params) : Obj := ⟨.none, none, (.fields #[]), #[]⟩
noncomputable def o316 (P : Params) : Obj := ⟨(.type "tuple"), none, (.seq #[(.str (S "self") 804), (.str (S "moments") 805)] 0), #[]⟩
noncomputable def o317 (P : Params) : Obj := ⟨(.type "tuple"), none, (.seq #[] 0), #[]⟩
noncomputable def o318 (P : Params) : Obj := ⟨.none, none, (.func ⟨(S "__init__"), (S "BadMoments.__init__"), defArgs (inClass (topS 21) 0), .stmts (defBody (inClass (topS 21) 0)), defScope (inClass (topS 21) 0), 0, [], .none, .none, .none, .none, none, .none, .none, 0⟩), #[]⟩
noncomputable def o319 (P : Params) : Obj := ⟨(.type "code"), none, (.fields #[(.str (S "__init__") 801), (.str (S "BadMoments.__init__") 802), (.str (S "/claim/cut.py") 803), (.int (70) 0), (.int (2) 0), (.int (0) 0), (.int (0) 0), (.int (3) 0), (.ref 314), (.bool true), (.int (453) 0), (.ref 315), .none, (.ref 316), (.ref 317), (.ref 318), (.int (806) 0), (.int (70) 0), (.str (S "/claim/cut.py") 807)]), #[]⟩
noncomputable def o320 (P : Params) : Obj := ⟨(.type "function"), none, (.func ⟨(S "__init__"), (S "BadMoments.__init__"), defArgs (inClass (topS 21) 0), .stmts (defBody (inClass (topS 21) 0)), defScope (inClass (topS 21) 0), 3, [], .none, .none, .none, (.str (S "lastbell.errors") 494), none, (.ref 319), .none, 0⟩), #[]⟩
noncomputable def o321 (P : Params) : Obj := ⟨(.type "tuple"), none, (.seq #[(.str (S "moments") 809)] 0), #[]⟩
noncomputable def o322 (P : Params) : Obj := ⟨(.type "dict"), none, (.dict #[E P "__module__" 796 (.str (S "lastbell.errors") 494), E P "__firstlineno__" 800 (.int (68) 799), E P "__init__" 808 (.ref 320), E P "__static_attributes__" 810 (.ref 321), E P "__doc__" 811 .none] 2), #[]⟩
noncomputable def o323 (P : Params) : Obj := ⟨(.type "type"), none, (.cls ⟨(S "BadMoments"), [(.ref 94)], [(.ref 323), (.ref 94), (.type "ValueError"), (.type "Exception"), (.type "BaseException"), (.type "object")], 322, (S "BadMoments"), true, [], [], false, none, false⟩), #[some (.ref 307), none, some (.str (S "BadMoments") 789), some (.str (S "BadMoments") 797), some (.builtin "ValueError.__new__"), some (.bool true)]⟩
noncomputable def o324 (P : Params) : Obj := ⟨(.type "super"), none, (.fields #[(.ref 323), (.ref 323), (.ref 323)]), #[]⟩
noncomputable def o325 (P : Params) : Obj := ⟨(.type "builtin_function_or_method"), none, (.fields #[(.builtin "object.__init_subclass__"), (.ref 323)]), #[]⟩
noncomputable def o326 (P : Params) : Obj := ⟨(.type "tuple"), none, (.seq #[(.ref 94)] 0), #[]⟩
noncomputable def o327 (P : Params) : Obj := ⟨(.type "builtin_function_or_method"), none, (.fields #[(.builtin "type.__prepare__"), (.type "type")]), #[]⟩
noncomputable def o328 (P : Params) : Obj := ⟨(.type "dict"), none, (.dict #[E P "__module__" 821 (.str (S "lastbell.errors") 494), E P "__qualname__" 823 (.str (S "BadOrder") 822), E P "__firstlineno__" 825 (.int (72) 824), E P "__init__" 833 (.ref 339), E P "__static_attributes__" 835 (.ref 340)] 5), #[]⟩
noncomputable def o329 (P : Params) : Obj := ⟨(.type "tuple"), none, (.seq #[] 0), #[]⟩
noncomputable def o330 (P : Params) : Obj := ⟨.none, none, (.fields #[(.int (74) 0), (.int (4) 0), (.ref 338)]), #[]⟩
noncomputable def o331 (P : Params) : Obj := ⟨(.type "code"), none, (.fields #[(.str (S "BadOrder") 816), (.str (S "BadOrder") 817), (.str (S "/claim/cut.py") 818), (.int (72) 0), (.int (0) 0), (.int (0) 0), (.int (0) 0), (.int (0) 0), (.ref 329), (.bool false), (.int (453) 0), (.ref 330), .none, .none, .none, .none, (.int (819) 0), (.int (72) 0), (.str (S "/claim/cut.py") 820)]), #[]⟩
noncomputable def o332 (P : Params) : Obj := ⟨(.type "frame"), none, .plain, #[some (.ref 331), some (.ref 3), some (.ref 328), none, some (.str (S "lastbell.errors") 494), none, some (.ref 0)]⟩
noncomputable def o333 (P : Params) : Obj := ⟨(.type "tuple"), none, (.seq #[] 0), #[]⟩
noncomputable def o334 (P : Params) : Obj := ⟨.none, none, (.fields #[]), #[]⟩
noncomputable def o335 (P : Params) : Obj := ⟨(.type "tuple"), none, (.seq #[(.str (S "self") 829), (.str (S "order") 830)] 0), #[]⟩
noncomputable def o336 (P : Params) : Obj := ⟨(.type "tuple"), none, (.seq #[] 0), #[]⟩
noncomputable def o337 (P : Params) : Obj := ⟨.none, none, (.func ⟨(S "__init__"), (S "BadOrder.__init__"), defArgs (inClass (topS 22) 0), .stmts (defBody (inClass (topS 22) 0)), defScope (inClass (topS 22) 0), 0, [], .none, .none, .none, .none, none, .none, .none, 0⟩), #[]⟩
noncomputable def o338 (P : Params) : Obj := ⟨(.type "code"), none, (.fields #[(.str (S "__init__") 826), (.str (S "BadOrder.__init__") 827), (.str (S "/claim/cut.py") 828), (.int (74) 0), (.int (2) 0), (.int (0) 0), (.int (0) 0), (.int (3) 0), (.ref 333), (.bool true), (.int (453) 0), (.ref 334), .none, (.ref 335), (.ref 336), (.ref 337), (.int (831) 0), (.int (74) 0), (.str (S "/claim/cut.py") 832)]), #[]⟩
noncomputable def o339 (P : Params) : Obj := ⟨(.type "function"), none, (.func ⟨(S "__init__"), (S "BadOrder.__init__"), defArgs (inClass (topS 22) 0), .stmts (defBody (inClass (topS 22) 0)), defScope (inClass (topS 22) 0), 3, [], .none, .none, .none, (.str (S "lastbell.errors") 494), none, (.ref 338), .none, 0⟩), #[]⟩
noncomputable def o340 (P : Params) : Obj := ⟨(.type "tuple"), none, (.seq #[(.str (S "order") 834)] 0), #[]⟩
noncomputable def o341 (P : Params) : Obj := ⟨(.type "dict"), none, (.dict #[E P "__module__" 821 (.str (S "lastbell.errors") 494), E P "__firstlineno__" 825 (.int (72) 824), E P "__init__" 833 (.ref 339), E P "__static_attributes__" 835 (.ref 340), E P "__doc__" 836 .none] 2), #[]⟩
noncomputable def o342 (P : Params) : Obj := ⟨(.type "type"), none, (.cls ⟨(S "BadOrder"), [(.ref 94)], [(.ref 342), (.ref 94), (.type "ValueError"), (.type "Exception"), (.type "BaseException"), (.type "object")], 341, (S "BadOrder"), true, [], [], false, none, false⟩), #[some (.ref 326), none, some (.str (S "BadOrder") 814), some (.str (S "BadOrder") 822), some (.builtin "ValueError.__new__"), some (.bool true)]⟩
noncomputable def o343 (P : Params) : Obj := ⟨(.type "super"), none, (.fields #[(.ref 342), (.ref 342), (.ref 342)]), #[]⟩
noncomputable def o344 (P : Params) : Obj := ⟨(.type "builtin_function_or_method"), none, (.fields #[(.builtin "object.__init_subclass__"), (.ref 342)]), #[]⟩
noncomputable def o345 (P : Params) : Obj := ⟨(.type "tuple"), none, (.seq #[(.ref 94)] 0), #[]⟩
noncomputable def o346 (P : Params) : Obj := ⟨(.type "builtin_function_or_method"), none, (.fields #[(.builtin "type.__prepare__"), (.type "type")]), #[]⟩
noncomputable def o347 (P : Params) : Obj := ⟨(.type "dict"), none, (.dict #[E P "__module__" 846 (.str (S "lastbell.errors") 494), E P "__qualname__" 848 (.str (S "BadWishes") 847), E P "__firstlineno__" 850 (.int (76) 849), E P "__init__" 858 (.ref 358), E P "__static_attributes__" 860 (.ref 359)] 5), #[]⟩
noncomputable def o348 (P : Params) : Obj := ⟨(.type "tuple"), none, (.seq #[] 0), #[]⟩
noncomputable def o349 (P : Params) : Obj := ⟨.none, none, (.fields #[(.int (78) 0), (.int (4) 0), (.ref 357)]), #[]⟩
noncomputable def o350 (P : Params) : Obj := ⟨(.type "code"), none, (.fields #[(.str (S "BadWishes") 841), (.str (S "BadWishes") 842), (.str (S "/claim/cut.py") 843), (.int (76) 0), (.int (0) 0), (.int (0) 0), (.int (0) 0), (.int (0) 0), (.ref 348), (.bool false), (.int (453) 0), (.ref 349), .none, .none, .none, .none, (.int (844) 0), (.int (76) 0), (.str (S "/claim/cut.py") 845)]), #[]⟩
noncomputable def o351 (P : Params) : Obj := ⟨(.type "frame"), none, .plain, #[some (.ref 350), some (.ref 3), some (.ref 347), none, some (.str (S "lastbell.errors") 494), none, some (.ref 0)]⟩
noncomputable def o352 (P : Params) : Obj := ⟨(.type "tuple"), none, (.seq #[] 0), #[]⟩
noncomputable def o353 (P : Params) : Obj := ⟨.none, none, (.fields #[]), #[]⟩
noncomputable def o354 (P : Params) : Obj := ⟨(.type "tuple"), none, (.seq #[(.str (S "self") 854), (.str (S "wishes") 855)] 0), #[]⟩
noncomputable def o355 (P : Params) : Obj := ⟨(.type "tuple"), none, (.seq #[] 0), #[]⟩
noncomputable def o356 (P : Params) : Obj := ⟨.none, none, (.func ⟨(S "__init__"), (S "BadWishes.__init__"), defArgs (inClass (topS 23) 0), .stmts (defBody (inClass (topS 23) 0)), defScope (inClass (topS 23) 0), 0, [], .none, .none, .none, .none, none, .none, .none, 0⟩), #[]⟩
noncomputable def o357 (P : Params) : Obj := ⟨(.type "code"), none, (.fields #[(.str (S "__init__") 851), (.str (S "BadWishes.__init__") 852), (.str (S "/claim/cut.py") 853), (.int (78) 0), (.int (2) 0), (.int (0) 0), (.int (0) 0), (.int (3) 0), (.ref 352), (.bool true), (.int (453) 0), (.ref 353), .none, (.ref 354), (.ref 355), (.ref 356), (.int (856) 0), (.int (78) 0), (.str (S "/claim/cut.py") 857)]), #[]⟩
noncomputable def o358 (P : Params) : Obj := ⟨(.type "function"), none, (.func ⟨(S "__init__"), (S "BadWishes.__init__"), defArgs (inClass (topS 23) 0), .stmts (defBody (inClass (topS 23) 0)), defScope (inClass (topS 23) 0), 3, [], .none, .none, .none, (.str (S "lastbell.errors") 494), none, (.ref 357), .none, 0⟩), #[]⟩
noncomputable def o359 (P : Params) : Obj := ⟨(.type "tuple"), none, (.seq #[(.str (S "wishes") 859)] 0), #[]⟩
noncomputable def o360 (P : Params) : Obj := ⟨(.type "dict"), none, (.dict #[E P "__module__" 846 (.str (S "lastbell.errors") 494), E P "__firstlineno__" 850 (.int (76) 849), E P "__init__" 858 (.ref 358), E P "__static_attributes__" 860 (.ref 359), E P "__doc__" 861 .none] 2), #[]⟩
noncomputable def o361 (P : Params) : Obj := ⟨(.type "type"), none, (.cls ⟨(S "BadWishes"), [(.ref 94)], [(.ref 361), (.ref 94), (.type "ValueError"), (.type "Exception"), (.type "BaseException"), (.type "object")], 360, (S "BadWishes"), true, [], [], false, none, false⟩), #[some (.ref 345), none, some (.str (S "BadWishes") 839), some (.str (S "BadWishes") 847), some (.builtin "ValueError.__new__"), some (.bool true)]⟩
noncomputable def o362 (P : Params) : Obj := ⟨(.type "super"), none, (.fields #[(.ref 361), (.ref 361), (.ref 361)]), #[]⟩
noncomputable def o363 (P : Params) : Obj := ⟨(.type "builtin_function_or_method"), none, (.fields #[(.builtin "object.__init_subclass__"), (.ref 361)]), #[]⟩
noncomputable def o364 (P : Params) : Obj := ⟨(.type "tuple"), none, (.seq #[(.ref 94)] 0), #[]⟩
noncomputable def o365 (P : Params) : Obj := ⟨(.type "builtin_function_or_method"), none, (.fields #[(.builtin "type.__prepare__"), (.type "type")]), #[]⟩
noncomputable def o366 (P : Params) : Obj := ⟨(.type "dict"), none, (.dict #[E P "__module__" 871 (.str (S "lastbell.errors") 494), E P "__qualname__" 873 (.str (S "BadParts") 872), E P "__firstlineno__" 875 (.int (80) 874), E P "__init__" 883 (.ref 377), E P "__static_attributes__" 885 (.ref 378)] 5), #[]⟩
noncomputable def o367 (P : Params) : Obj := ⟨(.type "tuple"), none, (.seq #[] 0), #[]⟩
noncomputable def o368 (P : Params) : Obj := ⟨.none, none, (.fields #[(.int (82) 0), (.int (4) 0), (.ref 376)]), #[]⟩
noncomputable def o369 (P : Params) : Obj := ⟨(.type "code"), none, (.fields #[(.str (S "BadParts") 866), (.str (S "BadParts") 867), (.str (S "/claim/cut.py") 868), (.int (80) 0), (.int (0) 0), (.int (0) 0), (.int (0) 0), (.int (0) 0), (.ref 367), (.bool false), (.int (453) 0), (.ref 368), .none, .none, .none, .none, (.int (869) 0), (.int (80) 0), (.str (S "/claim/cut.py") 870)]), #[]⟩
noncomputable def o370 (P : Params) : Obj := ⟨(.type "frame"), none, .plain, #[some (.ref 369), some (.ref 3), some (.ref 366), none, some (.str (S "lastbell.errors") 494), none, some (.ref 0)]⟩
noncomputable def o371 (P : Params) : Obj := ⟨(.type "tuple"), none, (.seq #[] 0), #[]⟩
noncomputable def o372 (P : Params) : Obj := ⟨.none, none, (.fields #[]), #[]⟩
noncomputable def o373 (P : Params) : Obj := ⟨(.type "tuple"), none, (.seq #[(.str (S "self") 879), (.str (S "index") 880)] 0), #[]⟩
noncomputable def o374 (P : Params) : Obj := ⟨(.type "tuple"), none, (.seq #[] 0), #[]⟩
noncomputable def o375 (P : Params) : Obj := ⟨.none, none, (.func ⟨(S "__init__"), (S "BadParts.__init__"), defArgs (inClass (topS 24) 0), .stmts (defBody (inClass (topS 24) 0)), defScope (inClass (topS 24) 0), 0, [], .none, .none, .none, .none, none, .none, .none, 0⟩), #[]⟩
noncomputable def o376 (P : Params) : Obj := ⟨(.type "code"), none, (.fields #[(.str (S "__init__") 876), (.str (S "BadParts.__init__") 877), (.str (S "/claim/cut.py") 878), (.int (82) 0), (.int (2) 0), (.int (0) 0), (.int (0) 0), (.int (3) 0), (.ref 371), (.bool true), (.int (453) 0), (.ref 372), .none, (.ref 373), (.ref 374), (.ref 375), (.int (881) 0), (.int (82) 0), (.str (S "/claim/cut.py") 882)]), #[]⟩
noncomputable def o377 (P : Params) : Obj := ⟨(.type "function"), none, (.func ⟨(S "__init__"), (S "BadParts.__init__"), defArgs (inClass (topS 24) 0), .stmts (defBody (inClass (topS 24) 0)), defScope (inClass (topS 24) 0), 3, [], .none, .none, .none, (.str (S "lastbell.errors") 494), none, (.ref 376), .none, 0⟩), #[]⟩
noncomputable def o378 (P : Params) : Obj := ⟨(.type "tuple"), none, (.seq #[(.str (S "index") 884)] 0), #[]⟩
noncomputable def o379 (P : Params) : Obj := ⟨(.type "dict"), none, (.dict #[E P "__module__" 871 (.str (S "lastbell.errors") 494), E P "__firstlineno__" 875 (.int (80) 874), E P "__init__" 883 (.ref 377), E P "__static_attributes__" 885 (.ref 378), E P "__doc__" 886 .none] 2), #[]⟩
noncomputable def o380 (P : Params) : Obj := ⟨(.type "type"), none, (.cls ⟨(S "BadParts"), [(.ref 94)], [(.ref 380), (.ref 94), (.type "ValueError"), (.type "Exception"), (.type "BaseException"), (.type "object")], 379, (S "BadParts"), true, [], [], false, none, false⟩), #[some (.ref 364), none, some (.str (S "BadParts") 864), some (.str (S "BadParts") 872), some (.builtin "ValueError.__new__"), some (.bool true)]⟩
noncomputable def o381 (P : Params) : Obj := ⟨(.type "super"), none, (.fields #[(.ref 380), (.ref 380), (.ref 380)]), #[]⟩
noncomputable def o382 (P : Params) : Obj := ⟨(.type "builtin_function_or_method"), none, (.fields #[(.builtin "object.__init_subclass__"), (.ref 380)]), #[]⟩
noncomputable def o383 (P : Params) : Obj := ⟨(.type "tuple"), none, (.seq #[(.ref 94)] 0), #[]⟩
noncomputable def o384 (P : Params) : Obj := ⟨(.type "builtin_function_or_method"), none, (.fields #[(.builtin "type.__prepare__"), (.type "type")]), #[]⟩
noncomputable def o385 (P : Params) : Obj := ⟨(.type "dict"), none, (.dict #[E P "__module__" 896 (.str (S "lastbell.errors") 494), E P "__qualname__" 898 (.str (S "Never") 897), E P "__firstlineno__" 900 (.int (84) 899), E P "__init__" 908 (.ref 396), E P "__static_attributes__" 910 (.ref 397)] 5), #[]⟩
noncomputable def o386 (P : Params) : Obj := ⟨(.type "tuple"), none, (.seq #[] 0), #[]⟩
noncomputable def o387 (P : Params) : Obj := ⟨.none, none, (.fields #[(.int (86) 0), (.int (4) 0), (.ref 395)]), #[]⟩
noncomputable def o388 (P : Params) : Obj := ⟨(.type "code"), none, (.fields #[(.str (S "Never") 891), (.str (S "Never") 892), (.str (S "/claim/cut.py") 893), (.int (84) 0), (.int (0) 0), (.int (0) 0), (.int (0) 0), (.int (0) 0), (.ref 386), (.bool false), (.int (453) 0), (.ref 387), .none, .none, .none, .none, (.int (894) 0), (.int (84) 0), (.str (S "/claim/cut.py") 895)]), #[]⟩
noncomputable def o389 (P : Params) : Obj := ⟨(.type "frame"), none, .plain, #[some (.ref 388), some (.ref 3), some (.ref 385), none, some (.str (S "lastbell.errors") 494), none, some (.ref 0)]⟩
noncomputable def o390 (P : Params) : Obj := ⟨(.type "tuple"), none, (.seq #[] 0), #[]⟩
noncomputable def o391 (P : Params) : Obj := ⟨.none, none, (.fields #[]), #[]⟩
noncomputable def o392 (P : Params) : Obj := ⟨(.type "tuple"), none, (.seq #[(.str (S "self") 904), (.str (S "lot") 905)] 0), #[]⟩
noncomputable def o393 (P : Params) : Obj := ⟨(.type "tuple"), none, (.seq #[] 0), #[]⟩
noncomputable def o394 (P : Params) : Obj := ⟨.none, none, (.func ⟨(S "__init__"), (S "Never.__init__"), defArgs (inClass (topS 25) 0), .stmts (defBody (inClass (topS 25) 0)), defScope (inClass (topS 25) 0), 0, [], .none, .none, .none, .none, none, .none, .none, 0⟩), #[]⟩
noncomputable def o395 (P : Params) : Obj := ⟨(.type "code"), none, (.fields #[(.str (S "__init__") 901), (.str (S "Never.__init__") 902), (.str (S "/claim/cut.py") 903), (.int (86) 0), (.int (2) 0), (.int (0) 0), (.int (0) 0), (.int (3) 0), (.ref 390), (.bool true), (.int (453) 0), (.ref 391), .none, (.ref 392), (.ref 393), (.ref 394), (.int (906) 0), (.int (86) 0), (.str (S "/claim/cut.py") 907)]), #[]⟩
noncomputable def o396 (P : Params) : Obj := ⟨(.type "function"), none, (.func ⟨(S "__init__"), (S "Never.__init__"), defArgs (inClass (topS 25) 0), .stmts (defBody (inClass (topS 25) 0)), defScope (inClass (topS 25) 0), 3, [], .none, .none, .none, (.str (S "lastbell.errors") 494), none, (.ref 395), .none, 0⟩), #[]⟩
noncomputable def o397 (P : Params) : Obj := ⟨(.type "tuple"), none, (.seq #[(.str (S "lot") 909)] 0), #[]⟩
noncomputable def o398 (P : Params) : Obj := ⟨(.type "dict"), none, (.dict #[E P "__module__" 896 (.str (S "lastbell.errors") 494), E P "__firstlineno__" 900 (.int (84) 899), E P "__init__" 908 (.ref 396), E P "__static_attributes__" 910 (.ref 397), E P "__doc__" 911 .none] 2), #[]⟩
noncomputable def o399 (P : Params) : Obj := ⟨(.type "type"), none, (.cls ⟨(S "Never"), [(.ref 94)], [(.ref 399), (.ref 94), (.type "ValueError"), (.type "Exception"), (.type "BaseException"), (.type "object")], 398, (S "Never"), true, [], [], false, none, false⟩), #[some (.ref 383), none, some (.str (S "Never") 889), some (.str (S "Never") 897), some (.builtin "ValueError.__new__"), some (.bool true)]⟩
noncomputable def o400 (P : Params) : Obj := ⟨(.type "super"), none, (.fields #[(.ref 399), (.ref 399), (.ref 399)]), #[]⟩
noncomputable def o401 (P : Params) : Obj := ⟨(.type "builtin_function_or_method"), none, (.fields #[(.builtin "object.__init_subclass__"), (.ref 399)]), #[]⟩
noncomputable def o402 (P : Params) : Obj := ⟨(.type "tuple"), none, (.seq #[(.ref 94)] 0), #[]⟩
noncomputable def o403 (P : Params) : Obj := ⟨(.type "builtin_function_or_method"), none, (.fields #[(.builtin "type.__prepare__"), (.type "type")]), #[]⟩
noncomputable def o404 (P : Params) : Obj := ⟨(.type "dict"), none, (.dict #[E P "__module__" 921 (.str (S "lastbell.errors") 494), E P "__qualname__" 923 (.str (S "BadDoor") 922), E P "__firstlineno__" 925 (.int (88) 924), E P "__init__" 933 (.ref 415), E P "__static_attributes__" 935 (.ref 416)] 5), #[]⟩
noncomputable def o405 (P : Params) : Obj := ⟨(.type "tuple"), none, (.seq #[] 0), #[]⟩
noncomputable def o406 (P : Params) : Obj := ⟨.none, none, (.fields #[(.int (90) 0), (.int (4) 0), (.ref 414)]), #[]⟩
noncomputable def o407 (P : Params) : Obj := ⟨(.type "code"), none, (.fields #[(.str (S "BadDoor") 916), (.str (S "BadDoor") 917), (.str (S "/claim/cut.py") 918), (.int (88) 0), (.int (0) 0), (.int (0) 0), (.int (0) 0), (.int (0) 0), (.ref 405), (.bool false), (.int (453) 0), (.ref 406), .none, .none, .none, .none, (.int (919) 0), (.int (88) 0), (.str (S "/claim/cut.py") 920)]), #[]⟩
noncomputable def o408 (P : Params) : Obj := ⟨(.type "frame"), none, .plain, #[some (.ref 407), some (.ref 3), some (.ref 404), none, some (.str (S "lastbell.errors") 494), none, some (.ref 0)]⟩
noncomputable def o409 (P : Params) : Obj := ⟨(.type "tuple"), none, (.seq #[] 0), #[]⟩
noncomputable def o410 (P : Params) : Obj := ⟨.none, none, (.fields #[]), #[]⟩
noncomputable def o411 (P : Params) : Obj := ⟨(.type "tuple"), none, (.seq #[(.str (S "self") 929), (.str (S "door") 930)] 0), #[]⟩
noncomputable def o412 (P : Params) : Obj := ⟨(.type "tuple"), none, (.seq #[] 0), #[]⟩
noncomputable def o413 (P : Params) : Obj := ⟨.none, none, (.func ⟨(S "__init__"), (S "BadDoor.__init__"), defArgs (inClass (topS 26) 0), .stmts (defBody (inClass (topS 26) 0)), defScope (inClass (topS 26) 0), 0, [], .none, .none, .none, .none, none, .none, .none, 0⟩), #[]⟩
noncomputable def o414 (P : Params) : Obj := ⟨(.type "code"), none, (.fields #[(.str (S "__init__") 926), (.str (S "BadDoor.__init__") 927), (.str (S "/claim/cut.py") 928), (.int (90) 0), (.int (2) 0), (.int (0) 0), (.int (0) 0), (.int (3) 0), (.ref 409), (.bool true), (.int (453) 0), (.ref 410), .none, (.ref 411), (.ref 412), (.ref 413), (.int (931) 0), (.int (90) 0), (.str (S "/claim/cut.py") 932)]), #[]⟩
noncomputable def o415 (P : Params) : Obj := ⟨(.type "function"), none, (.func ⟨(S "__init__"), (S "BadDoor.__init__"), defArgs (inClass (topS 26) 0), .stmts (defBody (inClass (topS 26) 0)), defScope (inClass (topS 26) 0), 3, [], .none, .none, .none, (.str (S "lastbell.errors") 494), none, (.ref 414), .none, 0⟩), #[]⟩
noncomputable def o416 (P : Params) : Obj := ⟨(.type "tuple"), none, (.seq #[(.str (S "door") 934)] 0), #[]⟩
noncomputable def o417 (P : Params) : Obj := ⟨(.type "dict"), none, (.dict #[E P "__module__" 921 (.str (S "lastbell.errors") 494), E P "__firstlineno__" 925 (.int (88) 924), E P "__init__" 933 (.ref 415), E P "__static_attributes__" 935 (.ref 416), E P "__doc__" 936 .none] 2), #[]⟩
noncomputable def o418 (P : Params) : Obj := ⟨(.type "type"), none, (.cls ⟨(S "BadDoor"), [(.ref 94)], [(.ref 418), (.ref 94), (.type "ValueError"), (.type "Exception"), (.type "BaseException"), (.type "object")], 417, (S "BadDoor"), true, [], [], false, none, false⟩), #[some (.ref 402), none, some (.str (S "BadDoor") 914), some (.str (S "BadDoor") 922), some (.builtin "ValueError.__new__"), some (.bool true)]⟩
noncomputable def o419 (P : Params) : Obj := ⟨(.type "super"), none, (.fields #[(.ref 418), (.ref 418), (.ref 418)]), #[]⟩
noncomputable def o420 (P : Params) : Obj := ⟨(.type "builtin_function_or_method"), none, (.fields #[(.builtin "object.__init_subclass__"), (.ref 418)]), #[]⟩
noncomputable def o421 (P : Params) : Obj := ⟨(.type "tuple"), none, (.seq #[(.ref 94)] 0), #[]⟩
noncomputable def o422 (P : Params) : Obj := ⟨(.type "builtin_function_or_method"), none, (.fields #[(.builtin "type.__prepare__"), (.type "type")]), #[]⟩
noncomputable def o423 (P : Params) : Obj := ⟨(.type "dict"), none, (.dict #[E P "__module__" 946 (.str (S "lastbell.errors") 494), E P "__qualname__" 948 (.str (S "SameDoor") 947), E P "__firstlineno__" 950 (.int (92) 949), E P "__init__" 958 (.ref 434), E P "__static_attributes__" 960 (.ref 435)] 5), #[]⟩
noncomputable def o424 (P : Params) : Obj := ⟨(.type "tuple"), none, (.seq #[] 0), #[]⟩
noncomputable def o425 (P : Params) : Obj := ⟨.none, none, (.fields #[(.int (94) 0), (.int (4) 0), (.ref 433)]), #[]⟩
noncomputable def o426 (P : Params) : Obj := ⟨(.type "code"), none, (.fields #[(.str (S "SameDoor") 941), (.str (S "SameDoor") 942), (.str (S "/claim/cut.py") 943), (.int (92) 0), (.int (0) 0), (.int (0) 0), (.int (0) 0), (.int (0) 0), (.ref 424), (.bool false), (.int (453) 0), (.ref 425), .none, .none, .none, .none, (.int (944) 0), (.int (92) 0), (.str (S "/claim/cut.py") 945)]), #[]⟩
noncomputable def o427 (P : Params) : Obj := ⟨(.type "frame"), none, .plain, #[some (.ref 426), some (.ref 3), some (.ref 423), none, some (.str (S "lastbell.errors") 494), none, some (.ref 0)]⟩
noncomputable def o428 (P : Params) : Obj := ⟨(.type "tuple"), none, (.seq #[] 0), #[]⟩
noncomputable def o429 (P : Params) : Obj := ⟨.none, none, (.fields #[]), #[]⟩
noncomputable def o430 (P : Params) : Obj := ⟨(.type "tuple"), none, (.seq #[(.str (S "self") 954), (.str (S "door") 955)] 0), #[]⟩
noncomputable def o431 (P : Params) : Obj := ⟨(.type "tuple"), none, (.seq #[] 0), #[]⟩
noncomputable def o432 (P : Params) : Obj := ⟨.none, none, (.func ⟨(S "__init__"), (S "SameDoor.__init__"), defArgs (inClass (topS 27) 0), .stmts (defBody (inClass (topS 27) 0)), defScope (inClass (topS 27) 0), 0, [], .none, .none, .none, .none, none, .none, .none, 0⟩), #[]⟩
noncomputable def o433 (P : Params) : Obj := ⟨(.type "code"), none, (.fields #[(.str (S "__init__") 951), (.str (S "SameDoor.__init__") 952), (.str (S "/claim/cut.py") 953), (.int (94) 0), (.int (2) 0), (.int (0) 0), (.int (0) 0), (.int (3) 0), (.ref 428), (.bool true), (.int (453) 0), (.ref 429), .none, (.ref 430), (.ref 431), (.ref 432), (.int (956) 0), (.int (94) 0), (.str (S "/claim/cut.py") 957)]), #[]⟩
noncomputable def o434 (P : Params) : Obj := ⟨(.type "function"), none, (.func ⟨(S "__init__"), (S "SameDoor.__init__"), defArgs (inClass (topS 27) 0), .stmts (defBody (inClass (topS 27) 0)), defScope (inClass (topS 27) 0), 3, [], .none, .none, .none, (.str (S "lastbell.errors") 494), none, (.ref 433), .none, 0⟩), #[]⟩
noncomputable def o435 (P : Params) : Obj := ⟨(.type "tuple"), none, (.seq #[(.str (S "door") 959)] 0), #[]⟩
noncomputable def o436 (P : Params) : Obj := ⟨(.type "dict"), none, (.dict #[E P "__module__" 946 (.str (S "lastbell.errors") 494), E P "__firstlineno__" 950 (.int (92) 949), E P "__init__" 958 (.ref 434), E P "__static_attributes__" 960 (.ref 435), E P "__doc__" 961 .none] 2), #[]⟩
noncomputable def o437 (P : Params) : Obj := ⟨(.type "type"), none, (.cls ⟨(S "SameDoor"), [(.ref 94)], [(.ref 437), (.ref 94), (.type "ValueError"), (.type "Exception"), (.type "BaseException"), (.type "object")], 436, (S "SameDoor"), true, [], [], false, none, false⟩), #[some (.ref 421), none, some (.str (S "SameDoor") 939), some (.str (S "SameDoor") 947), some (.builtin "ValueError.__new__"), some (.bool true)]⟩
noncomputable def o438 (P : Params) : Obj := ⟨(.type "super"), none, (.fields #[(.ref 437), (.ref 437), (.ref 437)]), #[]⟩
noncomputable def o439 (P : Params) : Obj := ⟨(.type "builtin_function_or_method"), none, (.fields #[(.builtin "object.__init_subclass__"), (.ref 437)]), #[]⟩
noncomputable def o440 (P : Params) : Obj := ⟨(.type "tuple"), none, (.seq #[(.ref 94)] 0), #[]⟩
noncomputable def o441 (P : Params) : Obj := ⟨(.type "builtin_function_or_method"), none, (.fields #[(.builtin "type.__prepare__"), (.type "type")]), #[]⟩
noncomputable def o442 (P : Params) : Obj := ⟨(.type "dict"), none, (.dict #[E P "__module__" 971 (.str (S "lastbell.errors") 494), E P "__qualname__" 973 (.str (S "NotKept") 972), E P "__firstlineno__" 975 (.int (96) 974), E P "__init__" 983 (.ref 453), E P "__static_attributes__" 985 (.ref 454)] 5), #[]⟩
noncomputable def o443 (P : Params) : Obj := ⟨(.type "tuple"), none, (.seq #[] 0), #[]⟩
noncomputable def o444 (P : Params) : Obj := ⟨.none, none, (.fields #[(.int (98) 0), (.int (4) 0), (.ref 452)]), #[]⟩
noncomputable def o445 (P : Params) : Obj := ⟨(.type "code"), none, (.fields #[(.str (S "NotKept") 966), (.str (S "NotKept") 967), (.str (S "/claim/cut.py") 968), (.int (96) 0), (.int (0) 0), (.int (0) 0), (.int (0) 0), (.int (0) 0), (.ref 443), (.bool false), (.int (453) 0), (.ref 444), .none, .none, .none, .none, (.int (969) 0), (.int (96) 0), (.str (S "/claim/cut.py") 970)]), #[]⟩
noncomputable def o446 (P : Params) : Obj := ⟨(.type "frame"), none, .plain, #[some (.ref 445), some (.ref 3), some (.ref 442), none, some (.str (S "lastbell.errors") 494), none, some (.ref 0)]⟩
noncomputable def o447 (P : Params) : Obj := ⟨(.type "tuple"), none, (.seq #[] 0), #[]⟩
noncomputable def o448 (P : Params) : Obj := ⟨.none, none, (.fields #[]), #[]⟩
noncomputable def o449 (P : Params) : Obj := ⟨(.type "tuple"), none, (.seq #[(.str (S "self") 979), (.str (S "lot") 980)] 0), #[]⟩
noncomputable def o450 (P : Params) : Obj := ⟨(.type "tuple"), none, (.seq #[] 0), #[]⟩
noncomputable def o451 (P : Params) : Obj := ⟨.none, none, (.func ⟨(S "__init__"), (S "NotKept.__init__"), defArgs (inClass (topS 28) 0), .stmts (defBody (inClass (topS 28) 0)), defScope (inClass (topS 28) 0), 0, [], .none, .none, .none, .none, none, .none, .none, 0⟩), #[]⟩
noncomputable def o452 (P : Params) : Obj := ⟨(.type "code"), none, (.fields #[(.str (S "__init__") 976), (.str (S "NotKept.__init__") 977), (.str (S "/claim/cut.py") 978), (.int (98) 0), (.int (2) 0), (.int (0) 0), (.int (0) 0), (.int (3) 0), (.ref 447), (.bool true), (.int (453) 0), (.ref 448), .none, (.ref 449), (.ref 450), (.ref 451), (.int (981) 0), (.int (98) 0), (.str (S "/claim/cut.py") 982)]), #[]⟩
noncomputable def o453 (P : Params) : Obj := ⟨(.type "function"), none, (.func ⟨(S "__init__"), (S "NotKept.__init__"), defArgs (inClass (topS 28) 0), .stmts (defBody (inClass (topS 28) 0)), defScope (inClass (topS 28) 0), 3, [], .none, .none, .none, (.str (S "lastbell.errors") 494), none, (.ref 452), .none, 0⟩), #[]⟩
noncomputable def o454 (P : Params) : Obj := ⟨(.type "tuple"), none, (.seq #[(.str (S "lot") 984)] 0), #[]⟩
noncomputable def o455 (P : Params) : Obj := ⟨(.type "dict"), none, (.dict #[E P "__module__" 971 (.str (S "lastbell.errors") 494), E P "__firstlineno__" 975 (.int (96) 974), E P "__init__" 983 (.ref 453), E P "__static_attributes__" 985 (.ref 454), E P "__doc__" 986 .none] 2), #[]⟩
noncomputable def o456 (P : Params) : Obj := ⟨(.type "type"), none, (.cls ⟨(S "NotKept"), [(.ref 94)], [(.ref 456), (.ref 94), (.type "ValueError"), (.type "Exception"), (.type "BaseException"), (.type "object")], 455, (S "NotKept"), true, [], [], false, none, false⟩), #[some (.ref 440), none, some (.str (S "NotKept") 964), some (.str (S "NotKept") 972), some (.builtin "ValueError.__new__"), some (.bool true)]⟩
noncomputable def o457 (P : Params) : Obj := ⟨(.type "super"), none, (.fields #[(.ref 456), (.ref 456), (.ref 456)]), #[]⟩
noncomputable def o458 (P : Params) : Obj := ⟨(.type "builtin_function_or_method"), none, (.fields #[(.builtin "object.__init_subclass__"), (.ref 456)]), #[]⟩
noncomputable def o459 (P : Params) : Obj := ⟨(.type "tuple"), none, (.seq #[(.ref 94)] 0), #[]⟩
noncomputable def o460 (P : Params) : Obj := ⟨(.type "builtin_function_or_method"), none, (.fields #[(.builtin "type.__prepare__"), (.type "type")]), #[]⟩
noncomputable def o461 (P : Params) : Obj := ⟨(.type "dict"), none, (.dict #[E P "__module__" 996 (.str (S "lastbell.errors") 494), E P "__qualname__" 998 (.str (S "BadNumbers") 997), E P "__firstlineno__" 1000 (.int (100) 999), E P "__init__" 1008 (.ref 472), E P "__static_attributes__" 1010 (.ref 473)] 5), #[]⟩
noncomputable def o462 (P : Params) : Obj := ⟨(.type "tuple"), none, (.seq #[] 0), #[]⟩
noncomputable def o463 (P : Params) : Obj := ⟨.none, none, (.fields #[(.int (102) 0), (.int (4) 0), (.ref 471)]), #[]⟩
noncomputable def o464 (P : Params) : Obj := ⟨(.type "code"), none, (.fields #[(.str (S "BadNumbers") 991), (.str (S "BadNumbers") 992), (.str (S "/claim/cut.py") 993), (.int (100) 0), (.int (0) 0), (.int (0) 0), (.int (0) 0), (.int (0) 0), (.ref 462), (.bool false), (.int (453) 0), (.ref 463), .none, .none, .none, .none, (.int (994) 0), (.int (100) 0), (.str (S "/claim/cut.py") 995)]), #[]⟩
noncomputable def o465 (P : Params) : Obj := ⟨(.type "frame"), none, .plain, #[some (.ref 464), some (.ref 3), some (.ref 461), none, some (.str (S "lastbell.errors") 494), none, some (.ref 0)]⟩
noncomputable def o466 (P : Params) : Obj := ⟨(.type "tuple"), none, (.seq #[] 0), #[]⟩
noncomputable def o467 (P : Params) : Obj := ⟨.none, none, (.fields #[]), #[]⟩
noncomputable def o468 (P : Params) : Obj := ⟨(.type "tuple"), none, (.seq #[(.str (S "self") 1004), (.str (S "numbers") 1005)] 0), #[]⟩
noncomputable def o469 (P : Params) : Obj := ⟨(.type "tuple"), none, (.seq #[] 0), #[]⟩
noncomputable def o470 (P : Params) : Obj := ⟨.none, none, (.func ⟨(S "__init__"), (S "BadNumbers.__init__"), defArgs (inClass (topS 29) 0), .stmts (defBody (inClass (topS 29) 0)), defScope (inClass (topS 29) 0), 0, [], .none, .none, .none, .none, none, .none, .none, 0⟩), #[]⟩
noncomputable def o471 (P : Params) : Obj := ⟨(.type "code"), none, (.fields #[(.str (S "__init__") 1001), (.str (S "BadNumbers.__init__") 1002), (.str (S "/claim/cut.py") 1003), (.int (102) 0), (.int (2) 0), (.int (0) 0), (.int (0) 0), (.int (3) 0), (.ref 466), (.bool true), (.int (453) 0), (.ref 467), .none, (.ref 468), (.ref 469), (.ref 470), (.int (1006) 0), (.int (102) 0), (.str (S "/claim/cut.py") 1007)]), #[]⟩
noncomputable def o472 (P : Params) : Obj := ⟨(.type "function"), none, (.func ⟨(S "__init__"), (S "BadNumbers.__init__"), defArgs (inClass (topS 29) 0), .stmts (defBody (inClass (topS 29) 0)), defScope (inClass (topS 29) 0), 3, [], .none, .none, .none, (.str (S "lastbell.errors") 494), none, (.ref 471), .none, 0⟩), #[]⟩
noncomputable def o473 (P : Params) : Obj := ⟨(.type "tuple"), none, (.seq #[(.str (S "numbers") 1009)] 0), #[]⟩
noncomputable def o474 (P : Params) : Obj := ⟨(.type "dict"), none, (.dict #[E P "__module__" 996 (.str (S "lastbell.errors") 494), E P "__firstlineno__" 1000 (.int (100) 999), E P "__init__" 1008 (.ref 472), E P "__static_attributes__" 1010 (.ref 473), E P "__doc__" 1011 .none] 2), #[]⟩
noncomputable def o475 (P : Params) : Obj := ⟨(.type "type"), none, (.cls ⟨(S "BadNumbers"), [(.ref 94)], [(.ref 475), (.ref 94), (.type "ValueError"), (.type "Exception"), (.type "BaseException"), (.type "object")], 474, (S "BadNumbers"), true, [], [], false, none, false⟩), #[some (.ref 459), none, some (.str (S "BadNumbers") 989), some (.str (S "BadNumbers") 997), some (.builtin "ValueError.__new__"), some (.bool true)]⟩
noncomputable def o476 (P : Params) : Obj := ⟨(.type "super"), none, (.fields #[(.ref 475), (.ref 475), (.ref 475)]), #[]⟩
noncomputable def o477 (P : Params) : Obj := ⟨(.type "builtin_function_or_method"), none, (.fields #[(.builtin "object.__init_subclass__"), (.ref 475)]), #[]⟩
noncomputable def o478 (P : Params) : Obj := ⟨(.type "tuple"), none, (.seq #[(.ref 94)] 0), #[]⟩
noncomputable def o479 (P : Params) : Obj := ⟨(.type "builtin_function_or_method"), none, (.fields #[(.builtin "type.__prepare__"), (.type "type")]), #[]⟩
noncomputable def o480 (P : Params) : Obj := ⟨(.type "dict"), none, (.dict #[E P "__module__" 1021 (.str (S "lastbell.errors") 494), E P "__qualname__" 1023 (.str (S "BadPrices") 1022), E P "__firstlineno__" 1025 (.int (104) 1024), E P "__init__" 1033 (.ref 491), E P "__static_attributes__" 1035 (.ref 492)] 5), #[]⟩
noncomputable def o481 (P : Params) : Obj := ⟨(.type "tuple"), none, (.seq #[] 0), #[]⟩
noncomputable def o482 (P : Params) : Obj := ⟨.none, none, (.fields #[(.int (106) 0), (.int (4) 0), (.ref 490)]), #[]⟩
noncomputable def o483 (P : Params) : Obj := ⟨(.type "code"), none, (.fields #[(.str (S "BadPrices") 1016), (.str (S "BadPrices") 1017), (.str (S "/claim/cut.py") 1018), (.int (104) 0), (.int (0) 0), (.int (0) 0), (.int (0) 0), (.int (0) 0), (.ref 481), (.bool false), (.int (453) 0), (.ref 482), .none, .none, .none, .none, (.int (1019) 0), (.int (104) 0), (.str (S "/claim/cut.py") 1020)]), #[]⟩
noncomputable def o484 (P : Params) : Obj := ⟨(.type "frame"), none, .plain, #[some (.ref 483), some (.ref 3), some (.ref 480), none, some (.str (S "lastbell.errors") 494), none, some (.ref 0)]⟩
noncomputable def o485 (P : Params) : Obj := ⟨(.type "tuple"), none, (.seq #[] 0), #[]⟩
noncomputable def o486 (P : Params) : Obj := ⟨.none, none, (.fields #[]), #[]⟩
noncomputable def o487 (P : Params) : Obj := ⟨(.type "tuple"), none, (.seq #[(.str (S "self") 1029), (.str (S "prices") 1030)] 0), #[]⟩
noncomputable def o488 (P : Params) : Obj := ⟨(.type "tuple"), none, (.seq #[] 0), #[]⟩
noncomputable def o489 (P : Params) : Obj := ⟨.none, none, (.func ⟨(S "__init__"), (S "BadPrices.__init__"), defArgs (inClass (topS 30) 0), .stmts (defBody (inClass (topS 30) 0)), defScope (inClass (topS 30) 0), 0, [], .none, .none, .none, .none, none, .none, .none, 0⟩), #[]⟩
noncomputable def o490 (P : Params) : Obj := ⟨(.type "code"), none, (.fields #[(.str (S "__init__") 1026), (.str (S "BadPrices.__init__") 1027), (.str (S "/claim/cut.py") 1028), (.int (106) 0), (.int (2) 0), (.int (0) 0), (.int (0) 0), (.int (3) 0), (.ref 485), (.bool true), (.int (453) 0), (.ref 486), .none, (.ref 487), (.ref 488), (.ref 489), (.int (1031) 0), (.int (106) 0), (.str (S "/claim/cut.py") 1032)]), #[]⟩
noncomputable def o491 (P : Params) : Obj := ⟨(.type "function"), none, (.func ⟨(S "__init__"), (S "BadPrices.__init__"), defArgs (inClass (topS 30) 0), .stmts (defBody (inClass (topS 30) 0)), defScope (inClass (topS 30) 0), 3, [], .none, .none, .none, (.str (S "lastbell.errors") 494), none, (.ref 490), .none, 0⟩), #[]⟩
noncomputable def o492 (P : Params) : Obj := ⟨(.type "tuple"), none, (.seq #[(.str (S "prices") 1034)] 0), #[]⟩
noncomputable def o493 (P : Params) : Obj := ⟨(.type "dict"), none, (.dict #[E P "__module__" 1021 (.str (S "lastbell.errors") 494), E P "__firstlineno__" 1025 (.int (104) 1024), E P "__init__" 1033 (.ref 491), E P "__static_attributes__" 1035 (.ref 492), E P "__doc__" 1036 .none] 2), #[]⟩
noncomputable def o494 (P : Params) : Obj := ⟨(.type "type"), none, (.cls ⟨(S "BadPrices"), [(.ref 94)], [(.ref 494), (.ref 94), (.type "ValueError"), (.type "Exception"), (.type "BaseException"), (.type "object")], 493, (S "BadPrices"), true, [], [], false, none, false⟩), #[some (.ref 478), none, some (.str (S "BadPrices") 1014), some (.str (S "BadPrices") 1022), some (.builtin "ValueError.__new__"), some (.bool true)]⟩
noncomputable def o495 (P : Params) : Obj := ⟨(.type "super"), none, (.fields #[(.ref 494), (.ref 494), (.ref 494)]), #[]⟩
noncomputable def o496 (P : Params) : Obj := ⟨(.type "builtin_function_or_method"), none, (.fields #[(.builtin "object.__init_subclass__"), (.ref 494)]), #[]⟩
noncomputable def o497 (P : Params) : Obj := ⟨(.type "tuple"), none, (.seq #[(.ref 94)] 0), #[]⟩
noncomputable def o498 (P : Params) : Obj := ⟨(.type "builtin_function_or_method"), none, (.fields #[(.builtin "type.__prepare__"), (.type "type")]), #[]⟩
noncomputable def o499 (P : Params) : Obj := ⟨(.type "dict"), none, (.dict #[E P "__module__" 1046 (.str (S "lastbell.errors") 494), E P "__qualname__" 1048 (.str (S "OtherDoors") 1047), E P "__firstlineno__" 1050 (.int (108) 1049), E P "__static_attributes__" 1051 (.ref 504)] 4), #[]⟩
noncomputable def o500 (P : Params) : Obj := ⟨(.type "tuple"), none, (.seq #[] 0), #[]⟩
noncomputable def o501 (P : Params) : Obj := ⟨.none, none, (.fields #[]), #[]⟩
noncomputable def o502 (P : Params) : Obj := ⟨(.type "code"), none, (.fields #[(.str (S "OtherDoors") 1041), (.str (S "OtherDoors") 1042), (.str (S "/claim/cut.py") 1043), (.int (108) 0), (.int (0) 0), (.int (0) 0), (.int (0) 0), (.int (0) 0), (.ref 500), (.bool false), (.int (453) 0), (.ref 501), .none, .none, .none, .none, (.int (1044) 0), (.int (108) 0), (.str (S "/claim/cut.py") 1045)]), #[]⟩
noncomputable def o503 (P : Params) : Obj := ⟨(.type "frame"), none, .plain, #[some (.ref 502), some (.ref 3), some (.ref 499), none, some (.str (S "lastbell.errors") 494), none, some (.ref 0)]⟩
noncomputable def o504 (P : Params) : Obj := ⟨(.type "tuple"), none, (.seq #[] 0), #[]⟩
noncomputable def o505 (P : Params) : Obj := ⟨(.type "dict"), none, (.dict #[E P "__module__" 1046 (.str (S "lastbell.errors") 494), E P "__firstlineno__" 1050 (.int (108) 1049), E P "__static_attributes__" 1051 (.ref 504), E P "__doc__" 1052 .none] 2), #[]⟩
noncomputable def o506 (P : Params) : Obj := ⟨(.type "type"), none, (.cls ⟨(S "OtherDoors"), [(.ref 94)], [(.ref 506), (.ref 94), (.type "ValueError"), (.type "Exception"), (.type "BaseException"), (.type "object")], 505, (S "OtherDoors"), true, [], [], false, none, false⟩), #[some (.ref 497), none, some (.str (S "OtherDoors") 1039), some (.str (S "OtherDoors") 1047), some (.builtin "ValueError.__new__"), some (.bool true)]⟩
noncomputable def o507 (P : Params) : Obj := ⟨(.type "super"), none, (.fields #[(.ref 506), (.ref 506), (.ref 506)]), #[]⟩
noncomputable def o508 (P : Params) : Obj := ⟨(.type "builtin_function_or_method"), none, (.fields #[(.builtin "object.__init_subclass__"), (.ref 506)]), #[]⟩
noncomputable def o509 (P : Params) : Obj := ⟨(.type "tuple"), none, (.seq #[(.ref 94)] 0), #[]⟩
noncomputable def o510 (P : Params) : Obj := ⟨(.type "builtin_function_or_method"), none, (.fields #[(.builtin "type.__prepare__"), (.type "type")]), #[]⟩
noncomputable def o511 (P : Params) : Obj := ⟨(.type "dict"), none, (.dict #[E P "__module__" 1062 (.str (S "lastbell.errors") 494), E P "__qualname__" 1064 (.str (S "Lacks") 1063), E P "__firstlineno__" 1066 (.int (110) 1065), E P "__init__" 1075 (.ref 522), E P "__static_attributes__" 1078 (.ref 523)] 5), #[]⟩
noncomputable def o512 (P : Params) : Obj := ⟨(.type "tuple"), none, (.seq #[] 0), #[]⟩
noncomputable def o513 (P : Params) : Obj := ⟨.none, none, (.fields #[(.int (112) 0), (.int (4) 0), (.ref 521)]), #[]⟩
noncomputable def o514 (P : Params) : Obj := ⟨(.type "code"), none, (.fields #[(.str (S "Lacks") 1057), (.str (S "Lacks") 1058), (.str (S "/claim/cut.py") 1059), (.int (110) 0), (.int (0) 0), (.int (0) 0), (.int (0) 0), (.int (0) 0), (.ref 512), (.bool false), (.int (453) 0), (.ref 513), .none, .none, .none, .none, (.int (1060) 0), (.int (110) 0), (.str (S "/claim/cut.py") 1061)]), #[]⟩
noncomputable def o515 (P : Params) : Obj := ⟨(.type "frame"), none, .plain, #[some (.ref 514), some (.ref 3), some (.ref 511), none, some (.str (S "lastbell.errors") 494), none, some (.ref 0)]⟩
noncomputable def o516 (P : Params) : Obj := ⟨(.type "tuple"), none, (.seq #[] 0), #[]⟩
noncomputable def o517 (P : Params) : Obj := ⟨.none, none, (.fields #[]), #[]⟩
noncomputable def o518 (P : Params) : Obj := ⟨(.type "tuple"), none, (.seq #[(.str (S "self") 1070), (.str (S "lot") 1071), (.str (S "left") 1072)] 0), #[]⟩
noncomputable def o519 (P : Params) : Obj := ⟨(.type "tuple"), none, (.seq #[] 0), #[]⟩
noncomputable def o520 (P : Params) : Obj := ⟨.none, none, (.func ⟨(S "__init__"), (S "Lacks.__init__"), defArgs (inClass (topS 32) 0), .stmts (defBody (inClass (topS 32) 0)), defScope (inClass (topS 32) 0), 0, [], .none, .none, .none, .none, none, .none, .none, 0⟩), #[]⟩
noncomputable def o521 (P : Params) : Obj := ⟨(.type "code"), none, (.fields #[(.str (S "__init__") 1067), (.str (S "Lacks.__init__") 1068), (.str (S "/claim/cut.py") 1069), (.int (112) 0), (.int (3) 0), (.int (0) 0), (.int (0) 0), (.int (3) 0), (.ref 516), (.bool true), (.int (453) 0), (.ref 517), .none, (.ref 518), (.ref 519), (.ref 520), (.int (1073) 0), (.int (112) 0), (.str (S "/claim/cut.py") 1074)]), #[]⟩
noncomputable def o522 (P : Params) : Obj := ⟨(.type "function"), none, (.func ⟨(S "__init__"), (S "Lacks.__init__"), defArgs (inClass (topS 32) 0), .stmts (defBody (inClass (topS 32) 0)), defScope (inClass (topS 32) 0), 3, [], .none, .none, .none, (.str (S "lastbell.errors") 494), none, (.ref 521), .none, 0⟩), #[]⟩
noncomputable def o523 (P : Params) : Obj := ⟨(.type "tuple"), none, (.seq #[(.str (S "left") 1076), (.str (S "lot") 1077)] 0), #[]⟩
noncomputable def o524 (P : Params) : Obj := ⟨(.type "dict"), none, (.dict #[E P "__module__" 1062 (.str (S "lastbell.errors") 494), E P "__firstlineno__" 1066 (.int (110) 1065), E P "__init__" 1075 (.ref 522), E P "__static_attributes__" 1078 (.ref 523), E P "__doc__" 1079 .none] 2), #[]⟩
noncomputable def o525 (P : Params) : Obj := ⟨(.type "type"), none, (.cls ⟨(S "Lacks"), [(.ref 94)], [(.ref 525), (.ref 94), (.type "ValueError"), (.type "Exception"), (.type "BaseException"), (.type "object")], 524, (S "Lacks"), true, [], [], false, none, false⟩), #[some (.ref 509), none, some (.str (S "Lacks") 1055), some (.str (S "Lacks") 1063), some (.builtin "ValueError.__new__"), some (.bool true)]⟩
noncomputable def o526 (P : Params) : Obj := ⟨(.type "super"), none, (.fields #[(.ref 525), (.ref 525), (.ref 525)]), #[]⟩
noncomputable def o527 (P : Params) : Obj := ⟨(.type "builtin_function_or_method"), none, (.fields #[(.builtin "object.__init_subclass__"), (.ref 525)]), #[]⟩
noncomputable def o528 (P : Params) : Obj := ⟨(.type "tuple"), none, (.seq #[] 0), #[]⟩
noncomputable def o529 (P : Params) : Obj := ⟨.none, none, (.fields #[]), #[]⟩
noncomputable def o530 (P : Params) : Obj := ⟨(.type "tuple"), none, (.seq #[(.str (S "thing") 1087)] 0), #[]⟩
noncomputable def o531 (P : Params) : Obj := ⟨(.type "tuple"), none, (.seq #[] 0), #[]⟩
noncomputable def o532 (P : Params) : Obj := ⟨.none, none, (.func ⟨(S "is_integer"), (S "is_integer"), defArgs (topS 34), .stmts (defBody (topS 34)), defScope (topS 34), 0, [], .none, .none, .none, .none, none, .none, .none, 0⟩), #[]⟩
noncomputable def o533 (P : Params) : Obj := ⟨(.type "code"), none, (.fields #[(.str (S "is_integer") 1084), (.str (S "is_integer") 1085), (.str (S "/claim/cut.py") 1086), (.int (116) 0), (.int (1) 0), (.int (0) 0), (.int (0) 0), (.int (3) 0), (.ref 528), (.bool true), (.int (453) 0), (.ref 529), .none, (.ref 530), (.ref 531), (.ref 532), (.int (1088) 0), (.int (116) 0), (.str (S "/claim/cut.py") 1089)]), #[]⟩
noncomputable def o534 (P : Params) : Obj := ⟨(.type "function"), none, (.func ⟨(S "is_integer"), (S "is_integer"), defArgs (topS 34), .stmts (defBody (topS 34)), defScope (topS 34), 3, [], .none, .none, .none, (.str (S "lastbell.kinds") 1082), none, (.ref 533), .none, 0⟩), #[]⟩
noncomputable def o535 (P : Params) : Obj := ⟨(.type "tuple"), none, (.seq #[] 0), #[]⟩
noncomputable def o536 (P : Params) : Obj := ⟨.none, none, (.fields #[]), #[]⟩
noncomputable def o537 (P : Params) : Obj := ⟨(.type "tuple"), none, (.seq #[(.str (S "thing") 1094)] 0), #[]⟩
noncomputable def o538 (P : Params) : Obj := ⟨(.type "tuple"), none, (.seq #[] 0), #[]⟩
noncomputable def o539 (P : Params) : Obj := ⟨.none, none, (.func ⟨(S "is_number"), (S "is_number"), defArgs (topS 35), .stmts (defBody (topS 35)), defScope (topS 35), 0, [], .none, .none, .none, .none, none, .none, .none, 0⟩), #[]⟩
noncomputable def o540 (P : Params) : Obj := ⟨(.type "code"), none, (.fields #[(.str (S "is_number") 1091), (.str (S "is_number") 1092), (.str (S "/claim/cut.py") 1093), (.int (118) 0), (.int (1) 0), (.int (0) 0), (.int (0) 0), (.int (3) 0), (.ref 535), (.bool true), (.int (453) 0), (.ref 536), .none, (.ref 537), (.ref 538), (.ref 539), (.int (1095) 0), (.int (118) 0), (.str (S "/claim/cut.py") 1096)]), #[]⟩
noncomputable def o541 (P : Params) : Obj := ⟨(.type "function"), none, (.func ⟨(S "is_number"), (S "is_number"), defArgs (topS 35), .stmts (defBody (topS 35)), defScope (topS 35), 3, [], .none, .none, .none, (.str (S "lastbell.kinds") 1082), none, (.ref 540), .none, 0⟩), #[]⟩
noncomputable def o542 (P : Params) : Obj := ⟨(.type "tuple"), none, (.seq #[] 0), #[]⟩
noncomputable def o543 (P : Params) : Obj := ⟨.none, none, (.fields #[]), #[]⟩
noncomputable def o544 (P : Params) : Obj := ⟨(.type "tuple"), none, (.seq #[(.str (S "thing") 1101)] 0), #[]⟩
noncomputable def o545 (P : Params) : Obj := ⟨(.type "tuple"), none, (.seq #[] 0), #[]⟩
noncomputable def o546 (P : Params) : Obj := ⟨.none, none, (.func ⟨(S "is_list"), (S "is_list"), defArgs (topS 36), .stmts (defBody (topS 36)), defScope (topS 36), 0, [], .none, .none, .none, .none, none, .none, .none, 0⟩), #[]⟩
noncomputable def o547 (P : Params) : Obj := ⟨(.type "code"), none, (.fields #[(.str (S "is_list") 1098), (.str (S "is_list") 1099), (.str (S "/claim/cut.py") 1100), (.int (120) 0), (.int (1) 0), (.int (0) 0), (.int (0) 0), (.int (3) 0), (.ref 542), (.bool true), (.int (453) 0), (.ref 543), .none, (.ref 544), (.ref 545), (.ref 546), (.int (1102) 0), (.int (120) 0), (.str (S "/claim/cut.py") 1103)]), #[]⟩
noncomputable def o548 (P : Params) : Obj := ⟨(.type "function"), none, (.func ⟨(S "is_list"), (S "is_list"), defArgs (topS 36), .stmts (defBody (topS 36)), defScope (topS 36), 3, [], .none, .none, .none, (.str (S "lastbell.kinds") 1082), none, (.ref 547), .none, 0⟩), #[]⟩
noncomputable def o549 (P : Params) : Obj := ⟨(.type "tuple"), none, (.seq #[] 0), #[]⟩
noncomputable def o550 (P : Params) : Obj := ⟨(.type "builtin_function_or_method"), none, (.fields #[(.builtin "type.__prepare__"), (.type "type")]), #[]⟩
noncomputable def o551 (P : Params) : Obj := ⟨(.type "dict"), none, (.dict #[E P "__module__" 1114 (.str (S "lastbell.houses") 1105), E P "__qualname__" 1116 (.str (S "House") 1115), E P "__firstlineno__" 1118 (.int (123) 1117), E P "__init__" 1124 (.ref 560), E P "places" 1131 (.ref 567), E P "roads" 1138 (.ref 574), E P "doors" 1145 (.ref 581), E P "__eq__" 1153 (.ref 588), E P "__static_attributes__" 1157 (.ref 589)] 9), #[]⟩
noncomputable def o552 (P : Params) : Obj := ⟨(.type "tuple"), none, (.seq #[] 0), #[]⟩
noncomputable def o553 (P : Params) : Obj := ⟨.none, none, (.fields #[(.int (125) 0), (.int (4) 0), (.ref 559), (.int (138) 0), (.int (4) 0), (.ref 566), (.int (141) 0), (.int (4) 0), (.ref 573), (.int (144) 0), (.int (4) 0), (.ref 580), (.int (147) 0), (.int (4) 0), (.ref 587)]), #[]⟩
noncomputable def o554 (P : Params) : Obj := ⟨(.type "code"), none, (.fields #[(.str (S "House") 1109), (.str (S "House") 1110), (.str (S "/claim/cut.py") 1111), (.int (123) 0), (.int (0) 0), (.int (0) 0), (.int (0) 0), (.int (0) 0), (.ref 552), (.bool false), (.int (453) 0), (.ref 553), .none, .none, .none, .none, (.int (1112) 0), (.int (123) 0), (.str (S "/claim/cut.py") 1113)]), #[]⟩
noncomputable def o555 (P : Params) : Obj := ⟨(.type "frame"), none, .plain, #[some (.ref 554), some (.ref 3), some (.ref 551), none, some (.str (S "lastbell.houses") 1105), none, some (.ref 0)]⟩
noncomputable def o556 (P : Params) : Obj := ⟨(.type "tuple"), none, (.seq #[] 0), #[]⟩
noncomputable def o557 (P : Params) : Obj := ⟨.none, none, (.fields #[]), #[]⟩
noncomputable def o558 (P : Params) : Obj := ⟨.none, none, (.func ⟨(S "__init__"), (S "House.__init__"), defArgs (inClass (topS 38) 0), .stmts (defBody (inClass (topS 38) 0)), defScope (inClass (topS 38) 0), 0, [], .none, .none, .none, .none, none, .none, .none, 0⟩), #[]⟩
noncomputable def o559 (P : Params) : Obj := ⟨(.type "code"), none, (.fields #[(.str (S "__init__") 1119), (.str (S "House.__init__") 1120), (.str (S "/claim/cut.py") 1121), (.int (125) 0), (.int (4) 0), (.int (0) 0), (.int (0) 0), (.int (3) 0), (.ref 556), (.bool true), (.int (453) 0), (.ref 557), .none, .none, .none, (.ref 558), (.int (1122) 0), (.int (125) 0), (.str (S "/claim/cut.py") 1123)]), #[]⟩
noncomputable def o560 (P : Params) : Obj := ⟨(.type "function"), none, (.func ⟨(S "__init__"), (S "House.__init__"), defArgs (inClass (topS 38) 0), .stmts (defBody (inClass (topS 38) 0)), defScope (inClass (topS 38) 0), 3, [], .none, .none, .none, (.str (S "lastbell.houses") 1105), none, (.ref 559), .none, 0⟩), #[]⟩
noncomputable def o561 (P : Params) : Obj := ⟨(.type "tuple"), none, (.seq #[] 0), #[]⟩
noncomputable def o562 (P : Params) : Obj := ⟨.none, none, (.fields #[]), #[]⟩
noncomputable def o563 (P : Params) : Obj := ⟨(.type "tuple"), none, (.seq #[(.str (S "self") 1128)] 0), #[]⟩
noncomputable def o564 (P : Params) : Obj := ⟨(.type "tuple"), none, (.seq #[] 0), #[]⟩
noncomputable def o565 (P : Params) : Obj := ⟨.none, none, (.func ⟨(S "places"), (S "House.places"), defArgs (inClass (topS 38) 1), .stmts (defBody (inClass (topS 38) 1)), defScope (inClass (topS 38) 1), 0, [], .none, .none, .none, .none, none, .none, .none, 0⟩), #[]⟩
noncomputable def o566 (P : Params) : Obj := ⟨(.type "code"), none, (.fields #[(.str (S "places") 1125), (.str (S "House.places") 1126), (.str (S "/claim/cut.py") 1127), (.int (138) 0), (.int (1) 0), (.int (0) 0), (.int (0) 0), (.int (3) 0), (.ref 561), (.bool true), (.int (453) 0), (.ref 562), .none, (.ref 563), (.ref 564), (.ref 565), (.int (1129) 0), (.int (138) 0), (.str (S "/claim/cut.py") 1130)]), #[]⟩
noncomputable def o567 (P : Params) : Obj := ⟨(.type "function"), none, (.func ⟨(S "places"), (S "House.places"), defArgs (inClass (topS 38) 1), .stmts (defBody (inClass (topS 38) 1)), defScope (inClass (topS 38) 1), 3, [], .none, .none, .none, (.str (S "lastbell.houses") 1105), none, (.ref 566), .none, 0⟩), #[]⟩
noncomputable def o568 (P : Params) : Obj := ⟨(.type "tuple"), none, (.seq #[] 0), #[]⟩
noncomputable def o569 (P : Params) : Obj := ⟨.none, none, (.fields #[]), #[]⟩
noncomputable def o570 (P : Params) : Obj := ⟨(.type "tuple"), none, (.seq #[(.str (S "self") 1135)] 0), #[]⟩
noncomputable def o571 (P : Params) : Obj := ⟨(.type "tuple"), none, (.seq #[] 0), #[]⟩
noncomputable def o572 (P : Params) : Obj := ⟨.none, none, (.func ⟨(S "roads"), (S "House.roads"), defArgs (inClass (topS 38) 2), .stmts (defBody (inClass (topS 38) 2)), defScope (inClass (topS 38) 2), 0, [], .none, .none, .none, .none, none, .none, .none, 0⟩), #[]⟩
noncomputable def o573 (P : Params) : Obj := ⟨(.type "code"), none, (.fields #[(.str (S "roads") 1132), (.str (S "House.roads") 1133), (.str (S "/claim/cut.py") 1134), (.int (141) 0), (.int (1) 0), (.int (0) 0), (.int (0) 0), (.int (3) 0), (.ref 568), (.bool true), (.int (453) 0), (.ref 569), .none, (.ref 570), (.ref 571), (.ref 572), (.int (1136) 0), (.int (141) 0), (.str (S "/claim/cut.py") 1137)]), #[]⟩
noncomputable def o574 (P : Params) : Obj := ⟨(.type "function"), none, (.func ⟨(S "roads"), (S "House.roads"), defArgs (inClass (topS 38) 2), .stmts (defBody (inClass (topS 38) 2)), defScope (inClass (topS 38) 2), 3, [], .none, .none, .none, (.str (S "lastbell.houses") 1105), none, (.ref 573), .none, 0⟩), #[]⟩
noncomputable def o575 (P : Params) : Obj := ⟨(.type "tuple"), none, (.seq #[] 0), #[]⟩
noncomputable def o576 (P : Params) : Obj := ⟨.none, none, (.fields #[]), #[]⟩
noncomputable def o577 (P : Params) : Obj := ⟨(.type "tuple"), none, (.seq #[(.str (S "self") 1142)] 0), #[]⟩
noncomputable def o578 (P : Params) : Obj := ⟨(.type "tuple"), none, (.seq #[] 0), #[]⟩
noncomputable def o579 (P : Params) : Obj := ⟨.none, none, (.func ⟨(S "doors"), (S "House.doors"), defArgs (inClass (topS 38) 3), .stmts (defBody (inClass (topS 38) 3)), defScope (inClass (topS 38) 3), 0, [], .none, .none, .none, .none, none, .none, .none, 0⟩), #[]⟩
noncomputable def o580 (P : Params) : Obj := ⟨(.type "code"), none, (.fields #[(.str (S "doors") 1139), (.str (S "House.doors") 1140), (.str (S "/claim/cut.py") 1141), (.int (144) 0), (.int (1) 0), (.int (0) 0), (.int (0) 0), (.int (3) 0), (.ref 575), (.bool true), (.int (453) 0), (.ref 576), .none, (.ref 577), (.ref 578), (.ref 579), (.int (1143) 0), (.int (144) 0), (.str (S "/claim/cut.py") 1144)]), #[]⟩
noncomputable def o581 (P : Params) : Obj := ⟨(.type "function"), none, (.func ⟨(S "doors"), (S "House.doors"), defArgs (inClass (topS 38) 3), .stmts (defBody (inClass (topS 38) 3)), defScope (inClass (topS 38) 3), 3, [], .none, .none, .none, (.str (S "lastbell.houses") 1105), none, (.ref 580), .none, 0⟩), #[]⟩
noncomputable def o582 (P : Params) : Obj := ⟨(.type "tuple"), none, (.seq #[] 0), #[]⟩
noncomputable def o583 (P : Params) : Obj := ⟨.none, none, (.fields #[]), #[]⟩
noncomputable def o584 (P : Params) : Obj := ⟨(.type "tuple"), none, (.seq #[(.str (S "self") 1149), (.str (S "other") 1150)] 0), #[]⟩
noncomputable def o585 (P : Params) : Obj := ⟨(.type "tuple"), none, (.seq #[] 0), #[]⟩
noncomputable def o586 (P : Params) : Obj := ⟨.none, none, (.func ⟨(S "__eq__"), (S "House.__eq__"), defArgs (inClass (topS 38) 4), .stmts (defBody (inClass (topS 38) 4)), defScope (inClass (topS 38) 4), 0, [], .none, .none, .none, .none, none, .none, .none, 0⟩), #[]⟩
noncomputable def o587 (P : Params) : Obj := ⟨(.type "code"), none, (.fields #[(.str (S "__eq__") 1146), (.str (S "House.__eq__") 1147), (.str (S "/claim/cut.py") 1148), (.int (147) 0), (.int (2) 0), (.int (0) 0), (.int (0) 0), (.int (3) 0), (.ref 582), (.bool true), (.int (453) 0), (.ref 583), .none, (.ref 584), (.ref 585), (.ref 586), (.int (1151) 0), (.int (147) 0), (.str (S "/claim/cut.py") 1152)]), #[]⟩
noncomputable def o588 (P : Params) : Obj := ⟨(.type "function"), none, (.func ⟨(S "__eq__"), (S "House.__eq__"), defArgs (inClass (topS 38) 4), .stmts (defBody (inClass (topS 38) 4)), defScope (inClass (topS 38) 4), 3, [], .none, .none, .none, (.str (S "lastbell.houses") 1105), none, (.ref 587), .none, 0⟩), #[]⟩
noncomputable def o589 (P : Params) : Obj := ⟨(.type "tuple"), none, (.seq #[(.str (S "_doors") 1154), (.str (S "_places") 1155), (.str (S "_roads") 1156)] 0), #[]⟩
noncomputable def o590 (P : Params) : Obj := ⟨(.type "dict"), none, (.dict #[E P "__module__" 1114 (.str (S "lastbell.houses") 1105), E P "__firstlineno__" 1118 (.int (123) 1117), E P "__init__" 1124 (.ref 560), E P "places" 1131 (.ref 567), E P "roads" 1138 (.ref 574), E P "doors" 1145 (.ref 581), E P "__eq__" 1153 (.ref 588), E P "__static_attributes__" 1157 (.ref 589), E P "__dict__" 1159 (.ref 592), E P "__weakref__" 1161 (.ref 593), E P "__doc__" 1162 .none, E P "__hash__" 1163 .none] 5), #[]⟩
noncomputable def o591 (P : Params) : Obj := ⟨(.type "type"), none, (.cls ⟨(S "House"), [(.type "object")], [(.ref 591), (.type "object")], 590, (S "House"), true, [], [], false, none, false⟩), #[none, none, some (.str (S "House") 1107), some (.str (S "House") 1115), some (.builtin "object.__new__"), some (.bool true)]⟩
noncomputable def o592 (P : Params) : Obj := ⟨(.type "getset_descriptor"), none, (.fields #[(.str (S "__dict__") 1158), (.ref 591), (.builtin "function.__dict__"), (.builtin "function.__dict__#set")]), #[]⟩
noncomputable def o593 (P : Params) : Obj := ⟨(.type "getset_descriptor"), none, (.fields #[(.str (S "__weakref__") 1160), (.ref 591), (.builtin "ExceptionGroup.__weakref__"), .none]), #[]⟩
noncomputable def o594 (P : Params) : Obj := ⟨(.type "super"), none, (.fields #[(.ref 591), (.ref 591), (.ref 591)]), #[]⟩
noncomputable def o595 (P : Params) : Obj := ⟨(.type "builtin_function_or_method"), none, (.fields #[(.builtin "object.__init_subclass__"), (.ref 591)]), #[]⟩
noncomputable def o596 (P : Params) : Obj := ⟨(.type "tuple"), none, (.seq #[] 0), #[]⟩
noncomputable def o597 (P : Params) : Obj := ⟨.none, none, (.fields #[]), #[]⟩
noncomputable def o598 (P : Params) : Obj := ⟨(.type "tuple"), none, (.seq #[(.str (S "places") 1169), (.str (S "thing") 1170)] 0), #[]⟩
noncomputable def o599 (P : Params) : Obj := ⟨(.type "tuple"), none, (.seq #[] 0), #[]⟩
noncomputable def o600 (P : Params) : Obj := ⟨.none, none, (.func ⟨(S "is_place"), (S "is_place"), defArgs (topS 39), .stmts (defBody (topS 39)), defScope (topS 39), 0, [], .none, .none, .none, .none, none, .none, .none, 0⟩), #[]⟩
noncomputable def o601 (P : Params) : Obj := ⟨(.type "code"), none, (.fields #[(.str (S "is_place") 1166), (.str (S "is_place") 1167), (.str (S "/claim/cut.py") 1168), (.int (149) 0), (.int (2) 0), (.int (0) 0), (.int (0) 0), (.int (3) 0), (.ref 596), (.bool true), (.int (453) 0), (.ref 597), .none, (.ref 598), (.ref 599), (.ref 600), (.int (1171) 0), (.int (149) 0), (.str (S "/claim/cut.py") 1172)]), #[]⟩
noncomputable def o602 (P : Params) : Obj := ⟨(.type "function"), none, (.func ⟨(S "is_place"), (S "is_place"), defArgs (topS 39), .stmts (defBody (topS 39)), defScope (topS 39), 3, [], .none, .none, .none, (.str (S "lastbell.houses") 1105), none, (.ref 601), .none, 0⟩), #[]⟩
noncomputable def o603 (P : Params) : Obj := ⟨(.type "tuple"), none, (.seq #[] 0), #[]⟩
noncomputable def o604 (P : Params) : Obj := ⟨.none, none, (.fields #[]), #[]⟩
noncomputable def o605 (P : Params) : Obj := ⟨(.type "tuple"), none, (.seq #[(.str (S "places") 1177), (.str (S "thing") 1178), (.str (S "begin") 1179), (.str (S "end") 1180), (.str (S "length") 1181), (.str (S "room") 1182)] 0), #[]⟩
noncomputable def o606 (P : Params) : Obj := ⟨(.type "tuple"), none, (.seq #[] 0), #[]⟩
noncomputable def o607 (P : Params) : Obj := ⟨.none, none, (.func ⟨(S "is_road"), (S "is_road"), defArgs (topS 40), .stmts (defBody (topS 40)), defScope (topS 40), 0, [], .none, .none, .none, .none, none, .none, .none, 0⟩), #[]⟩
noncomputable def o608 (P : Params) : Obj := ⟨(.type "code"), none, (.fields #[(.str (S "is_road") 1174), (.str (S "is_road") 1175), (.str (S "/claim/cut.py") 1176), (.int (151) 0), (.int (2) 0), (.int (0) 0), (.int (0) 0), (.int (3) 0), (.ref 603), (.bool true), (.int (453) 0), (.ref 604), .none, (.ref 605), (.ref 606), (.ref 607), (.int (1183) 0), (.int (151) 0), (.str (S "/claim/cut.py") 1184)]), #[]⟩
noncomputable def o609 (P : Params) : Obj := ⟨(.type "function"), none, (.func ⟨(S "is_road"), (S "is_road"), defArgs (topS 40), .stmts (defBody (topS 40)), defScope (topS 40), 3, [], .none, .none, .none, (.str (S "lastbell.houses") 1105), none, (.ref 608), .none, 0⟩), #[]⟩
noncomputable def o610 (P : Params) : Obj := ⟨(.type "tuple"), none, (.seq #[] 0), #[]⟩
noncomputable def o611 (P : Params) : Obj := ⟨.none, none, (.fields #[]), #[]⟩
noncomputable def o612 (P : Params) : Obj := ⟨(.type "tuple"), none, (.seq #[(.str (S "places") 1189), (.str (S "thing") 1190), (.str (S "sort") 1191), (.str (S "place") 1192), (.str (S "hour") 1193)] 0), #[]⟩
noncomputable def o613 (P : Params) : Obj := ⟨(.type "tuple"), none, (.seq #[] 0), #[]⟩
noncomputable def o614 (P : Params) : Obj := ⟨.none, none, (.func ⟨(S "is_door"), (S "is_door"), defArgs (topS 41), .stmts (defBody (topS 41)), defScope (topS 41), 0, [], .none, .none, .none, .none, none, .none, .none, 0⟩), #[]⟩
noncomputable def o615 (P : Params) : Obj := ⟨(.type "code"), none, (.fields #[(.str (S "is_door") 1186), (.str (S "is_door") 1187), (.str (S "/claim/cut.py") 1188), (.int (158) 0), (.int (2) 0), (.int (0) 0), (.int (0) 0), (.int (3) 0), (.ref 610), (.bool true), (.int (453) 0), (.ref 611), .none, (.ref 612), (.ref 613), (.ref 614), (.int (1194) 0), (.int (158) 0), (.str (S "/claim/cut.py") 1195)]), #[]⟩
noncomputable def o616 (P : Params) : Obj := ⟨(.type "function"), none, (.func ⟨(S "is_door"), (S "is_door"), defArgs (topS 41), .stmts (defBody (topS 41)), defScope (topS 41), 3, [], .none, .none, .none, (.str (S "lastbell.houses") 1105), none, (.ref 615), .none, 0⟩), #[]⟩
noncomputable def o617 (P : Params) : Obj := ⟨(.type "tuple"), none, (.seq #[] 0), #[]⟩
noncomputable def o618 (P : Params) : Obj := ⟨.none, none, (.fields #[]), #[]⟩
noncomputable def o619 (P : Params) : Obj := ⟨(.type "tuple"), none, (.seq #[(.str (S "places") 1200), (.str (S "roads") 1201), (.str (S "onward") 1202), (.str (S "index") 1203), (.str (S "thing") 1204), (.str (S "begin") 1205), (.str (S "end") 1206), (.str (S "length") 1207), (.str (S "_") 1208)] 0), #[]⟩
noncomputable def o620 (P : Params) : Obj := ⟨(.type "tuple"), none, (.seq #[] 0), #[]⟩
noncomputable def o621 (P : Params) : Obj := ⟨.none, none, (.func ⟨(S "first_wrong_road"), (S "first_wrong_road"), defArgs (topS 42), .stmts (defBody (topS 42)), defScope (topS 42), 0, [], .none, .none, .none, .none, none, .none, .none, 0⟩), #[]⟩
noncomputable def o622 (P : Params) : Obj := ⟨(.type "code"), none, (.fields #[(.str (S "first_wrong_road") 1197), (.str (S "first_wrong_road") 1198), (.str (S "/claim/cut.py") 1199), (.int (165) 0), (.int (2) 0), (.int (0) 0), (.int (0) 0), (.int (3) 0), (.ref 617), (.bool true), (.int (453) 0), (.ref 618), .none, (.ref 619), (.ref 620), (.ref 621), (.int (1209) 0), (.int (165) 0), (.str (S "/claim/cut.py") 1210)]), #[]⟩
noncomputable def o623 (P : Params) : Obj := ⟨(.type "function"), none, (.func ⟨(S "first_wrong_road"), (S "first_wrong_road"), defArgs (topS 42), .stmts (defBody (topS 42)), defScope (topS 42), 3, [], .none, .none, .none, (.str (S "lastbell.houses") 1105), none, (.ref 622), .none, 0⟩), #[]⟩
noncomputable def o624 (P : Params) : Obj := ⟨(.type "tuple"), none, (.seq #[] 0), #[]⟩
noncomputable def o625 (P : Params) : Obj := ⟨.none, none, (.fields #[]), #[]⟩
noncomputable def o626 (P : Params) : Obj := ⟨(.type "tuple"), none, (.seq #[(.str (S "onward") 1215), (.str (S "begin") 1216), (.str (S "end") 1217), (.str (S "seen") 1218), (.str (S "waiting") 1219), (.str (S "here") 1220), (.str (S "place") 1221)] 0), #[]⟩
noncomputable def o627 (P : Params) : Obj := ⟨(.type "tuple"), none, (.seq #[] 0), #[]⟩
noncomputable def o628 (P : Params) : Obj := ⟨.none, none, (.func ⟨(S "comes_to"), (S "comes_to"), defArgs (topS 43), .stmts (defBody (topS 43)), defScope (topS 43), 0, [], .none, .none, .none, .none, none, .none, .none, 0⟩), #[]⟩
noncomputable def o629 (P : Params) : Obj := ⟨(.type "code"), none, (.fields #[(.str (S "comes_to") 1212), (.str (S "comes_to") 1213), (.str (S "/claim/cut.py") 1214), (.int (178) 0), (.int (3) 0), (.int (0) 0), (.int (0) 0), (.int (3) 0), (.ref 624), (.bool true), (.int (453) 0), (.ref 625), .none, (.ref 626), (.ref 627), (.ref 628), (.int (1222) 0), (.int (178) 0), (.str (S "/claim/cut.py") 1223)]), #[]⟩
noncomputable def o630 (P : Params) : Obj := ⟨(.type "function"), none, (.func ⟨(S "comes_to"), (S "comes_to"), defArgs (topS 43), .stmts (defBody (topS 43)), defScope (topS 43), 3, [], .none, .none, .none, (.str (S "lastbell.houses") 1105), none, (.ref 629), .none, 0⟩), #[]⟩
noncomputable def o631 (P : Params) : Obj := ⟨(.type "tuple"), none, (.seq #[] 0), #[]⟩
noncomputable def o632 (P : Params) : Obj := ⟨.none, none, (.fields #[]), #[]⟩
noncomputable def o633 (P : Params) : Obj := ⟨(.type "tuple"), none, (.seq #[(.str (S "places") 1228), (.str (S "doors") 1229), (.str (S "sorts") 1230), (.str (S "index") 1231), (.str (S "thing") 1232), (.str (S "sort") 1233), (.str (S "place") 1234), (.str (S "_") 1235)] 0), #[]⟩
noncomputable def o634 (P : Params) : Obj := ⟨(.type "tuple"), none, (.seq #[] 0), #[]⟩
noncomputable def o635 (P : Params) : Obj := ⟨.none, none, (.func ⟨(S "first_wrong_door"), (S "first_wrong_door"), defArgs (topS 44), .stmts (defBody (topS 44)), defScope (topS 44), 0, [], .none, .none, .none, .none, none, .none, .none, 0⟩), #[]⟩
noncomputable def o636 (P : Params) : Obj := ⟨(.type "code"), none, (.fields #[(.str (S "first_wrong_door") 1225), (.str (S "first_wrong_door") 1226), (.str (S "/claim/cut.py") 1227), (.int (190) 0), (.int (2) 0), (.int (0) 0), (.int (0) 0), (.int (3) 0), (.ref 631), (.bool true), (.int (453) 0), (.ref 632), .none, (.ref 633), (.ref 634), (.ref 635), (.int (1236) 0), (.int (190) 0), (.str (S "/claim/cut.py") 1237)]), #[]⟩
noncomputable def o637 (P : Params) : Obj := ⟨(.type "function"), none, (.func ⟨(S "first_wrong_door"), (S "first_wrong_door"), defArgs (topS 44), .stmts (defBody (topS 44)), defScope (topS 44), 3, [], .none, .none, .none, (.str (S "lastbell.houses") 1105), none, (.ref 636), .none, 0⟩), #[]⟩
noncomputable def o638 (P : Params) : Obj := ⟨(.type "tuple"), none, (.seq #[] 0), #[]⟩
noncomputable def o639 (P : Params) : Obj := ⟨.none, none, (.fields #[]), #[]⟩
noncomputable def o640 (P : Params) : Obj := ⟨(.type "tuple"), none, (.seq #[(.str (S "house") 1244)] 0), #[]⟩
noncomputable def o641 (P : Params) : Obj := ⟨(.type "tuple"), none, (.seq #[] 0), #[]⟩
noncomputable def o642 (P : Params) : Obj := ⟨.none, none, (.func ⟨(S "need_house"), (S "need_house"), defArgs (topS 46), .stmts (defBody (topS 46)), defScope (topS 46), 0, [], .none, .none, .none, .none, none, .none, .none, 0⟩), #[]⟩
noncomputable def o643 (P : Params) : Obj := ⟨(.type "code"), none, (.fields #[(.str (S "need_house") 1241), (.str (S "need_house") 1242), (.str (S "/claim/cut.py") 1243), (.int (202) 0), (.int (1) 0), (.int (0) 0), (.int (0) 0), (.int (3) 0), (.ref 638), (.bool true), (.int (453) 0), (.ref 639), .none, (.ref 640), (.ref 641), (.ref 642), (.int (1245) 0), (.int (202) 0), (.str (S "/claim/cut.py") 1246)]), #[]⟩
noncomputable def o644 (P : Params) : Obj := ⟨(.type "function"), none, (.func ⟨(S "need_house"), (S "need_house"), defArgs (topS 46), .stmts (defBody (topS 46)), defScope (topS 46), 3, [], .none, .none, .none, (.str (S "lastbell.given") 1239), none, (.ref 643), .none, 0⟩), #[]⟩
noncomputable def x3 (P : Params) : Obj := ⟨(.type "dict"), none, (.dict #[E P "__name__" 165 (.str (S "lastbell.rows") 2392), E P "__doc__" 166 .none, E P "__package__" 167 .none, E P "__loader__" 168 (.builtin "__main__.__loader__#opaque"), E P "__spec__" 169 .none, E P "__annotations__" 170 (.ref 6), E P "__builtins__" 171 (.ref 4), E P "__file__" 173 (.str (S "/claim/cut.py") 172), E P "__cached__" 174 .none, E P "permutations" 288 (.type "itertools.permutations"), E P "gcd" 449 (.builtin "math.gcd"), E P "lcm" 452 (.builtin "math.lcm"), E P "_wall" 465 (.ref 60), E P "all_lots" 474 (.ref 67), E P "lots_among" 480 (.ref 72), E P "lots_of_greatest" 486 (.ref 77), E P "least_lot" 493 (.ref 84), E P "BellError" 513 (.ref 94), E P "BadHouse" 538 (.ref 114), E P "BadPlaces" 563 (.ref 133), E P "BadRoads" 588 (.ref 152), E P "BadDoors" 613 (.ref 171), E P "BadSteps" 638 (.ref 190), E P "BadTurn" 663 (.ref 209), E P "BadTurns" 688 (.ref 228), E P "BadPlan" 713 (.ref 247), E P "BadLot" 738 (.ref 266), E P "BadBell" 763 (.ref 285), E P "BadAmount" 788 (.ref 304), E P "BadMoments" 813 (.ref 323), E P "BadOrder" 838 (.ref 342), E P "BadWishes" 863 (.ref 361), E P "BadParts" 888 (.ref 380), E P "Never" 913 (.ref 399), E P "BadDoor" 938 (.ref 418), E P "SameDoor" 963 (.ref 437), E P "NotKept" 988 (.ref 456), E P "BadNumbers" 1013 (.ref 475), E P "BadPrices" 1038 (.ref 494), E P "OtherDoors" 1054 (.ref 506), E P "Lacks" 1081 (.ref 525), E P "is_integer" 1090 (.ref 534), E P "is_number" 1097 (.ref 541), E P "is_list" 1104 (.ref 548), E P "House" 1165 (.ref 591), E P "is_place" 1173 (.ref 602), E P "is_road" 1185 (.ref 609), E P "is_door" 1196 (.ref 616), E P "first_wrong_road" 1211 (.ref 623), E P "comes_to" 1224 (.ref 630), E P "first_wrong_door" 1238 (.ref 637), E P "need_house" 1247 (.ref 644), E P "need_bell" 1254 (.ref 651), E P "need_turn" 1261 (.ref 658), E P "given_lot" 1269 (.ref 665), E P "need_door" 1277 (.ref 672), E P "need_sort" 1286 (.ref 679), E P "need_order" 1294 (.ref 686), E P "need_numbers" 1302 (.ref 693), E P "need_wishes" 1310 (.ref 700), E P "is_lot" 1321 (.ref 707), E P "is_order" 1329 (.ref 714), E P "is_numbers" 1335 (.ref 719), E P "asked_of" 1341 (.ref 724), E P "change_from" 1352 (.ref 731), E P "change_between" 1362 (.ref 738), E P "change_by_steps" 1375 (.ref 745), E P "steps_of" 1385 (.ref 752), E P "Net" 1498 (.ref 817), E P "lot_net" 1506 (.ref 826), E P "most" 1518 (.ref 833), E P "most_plan" 1531 (.ref 840), E P "levels" 1540 (.ref 847), E P "steady" 1546 (.ref 852), E P "lot_bell" 1556 (.ref 859), E P "most_by" 1562 (.ref 864), E P "first_bell" 1575 (.ref 871), E P "repeated" 1581 (.ref 876), E P "turns_behind" 1592 (.ref 883), E P "is_moments" 1609 (.ref 890), E P "is_list_of_moments" 1615 (.ref 895), E P "worth" 1628 (.ref 902), E P "moments_for" 1634 (.ref 907), E P "is_steps" 1648 (.ref 914), E P "need_steps" 1655 (.ref 921), E P "passed_ahead" 1668 (.ref 928), E P "later" 1674 (.ref 933), E P "WORDS" 1680 (.ref 934), E P "plan_fault" 1694 (.ref 941), E P "is_plan" 1702 (.ref 948), E P "has_form" 1712 (.ref 955), E P "are_steps" 1718 (.ref 960), E P "door_faults" 1731 (.ref 967), E P "road_faults" 1737 (.ref 972), E P "place_faults" 1750 (.ref 979), E P "place_changes" 1756 (.ref 984), E P "need_plan" 1764 (.ref 991), E P "brings" 1770 (.ref 996), E P "bell_of" 1783 (.ref 1003), E P "on_roads" 1796 (.ref 1010), E P "asked" 1808 (.ref 1017), E P "lacking" 1814 (.ref 1022), E P "spares" 1820 (.ref 1027), E P "lot_for" 1831 (.ref 1034), E P "is_lot_for" 1843 (.ref 1041), E P "is_plan_for" 1853 (.ref 1048), E P "Traffic" 1973 (.ref 1124), E P "plan_by_order" 1986 (.ref 1135), E P "corner" 1992 (.ref 1140), E P "differences" 2003 (.ref 1147), E P "corners" 2009 (.ref 1152), E P "corner_by" 2015 (.ref 1157), E P "order_of" 2021 (.ref 1162), E P "mosts_of_lots" 2027 (.ref 1167), E P "beginnings" 2033 (.ref 1172), E P "first_unlike" 2041 (.ref 1177), E P "first_unlike_bell" 2053 (.ref 1184), E P "parting" 2059 (.ref 1189), E P "least_bell" 2073 (.ref 1196), E P "never" 2081 (.ref 1203), E P "rising" 2094 (.ref 1210), E P "bell_with" 2105 (.ref 1217), E P "asked_lots" 2111 (.ref 1222), E P "least_that_never" 2117 (.ref 1227), E P "lacking_at" 2123 (.ref 1232), E P "dearest_order" 2131 (.ref 1237), E P "dearest" 2137 (.ref 1242), E P "is_fraction" 2148 (.ref 1249), E P "fraction" 2157 (.ref 1256), E P "least_fraction" 2168 (.ref 1263), E P "further" 2181 (.ref 1270), E P "least_between" 2187 (.ref 1275), E P "kept_spares" 2193 (.ref 1280), E P "tight" 2199 (.ref 1285), E P "bound" 2205 (.ref 1290), E P "times" 2211 (.ref 1295), E P "whole_times" 2221 (.ref 1302), E P "are_let" 2229 (.ref 1307), E P "tight_lots" 2235 (.ref 1312), E P "groups_between" 2241 (.ref 1317), E P "in_one" 2247 (.ref 1322), E P "parted" 2267 (.ref 1329), E P "first_wrong_part" 2278 (.ref 1336), E P "is_part" 2289 (.ref 1343), E P "Gap" 2391 (.ref 1403), E P "row_for" 2409 (.ref 1414), E P "first_wide" 2418 (.ref 1421), E P "is_row_for" 2436 (.ref 1428)] 148), #[]⟩
noncomputable def x51 (P : Params) : Obj := ⟨.none, none, (.fields #[(.int (3) 0), (.int (0) 0), (.ref 59), (.int (7) 0), (.int (0) 0), (.ref 66), (.int (9) 0), (.int (0) 0), (.ref 71), (.int (14) 0), (.int (0) 0), (.ref 76), (.int (19) 0), (.int (0) 0), (.ref 83), (.int (22) 0), (.int (0) 0), (.ref 90), (.int (24) 0), (.int (0) 0), (.ref 103), (.int (28) 0), (.int (0) 0), (.ref 122), (.int (32) 0), (.int (0) 0), (.ref 141), (.int (36) 0), (.int (0) 0), (.ref 160), (.int (40) 0), (.int (0) 0), (.ref 179), (.int (44) 0), (.int (0) 0), (.ref 198), (.int (48) 0), (.int (0) 0), (.ref 217), (.int (52) 0), (.int (0) 0), (.ref 236), (.int (56) 0), (.int (0) 0), (.ref 255), (.int (60) 0), (.int (0) 0), (.ref 274), (.int (64) 0), (.int (0) 0), (.ref 293), (.int (68) 0), (.int (0) 0), (.ref 312), (.int (72) 0), (.int (0) 0), (.ref 331), (.int (76) 0), (.int (0) 0), (.ref 350), (.int (80) 0), (.int (0) 0), (.ref 369), (.int (84) 0), (.int (0) 0), (.ref 388), (.int (88) 0), (.int (0) 0), (.ref 407), (.int (92) 0), (.int (0) 0), (.ref 426), (.int (96) 0), (.int (0) 0), (.ref 445), (.int (100) 0), (.int (0) 0), (.ref 464), (.int (104) 0), (.int (0) 0), (.ref 483), (.int (108) 0), (.int (0) 0), (.ref 502), (.int (110) 0), (.int (0) 0), (.ref 514), (.int (116) 0), (.int (0) 0), (.ref 533), (.int (118) 0), (.int (0) 0), (.ref 540), (.int (120) 0), (.int (0) 0), (.ref 547), (.int (123) 0), (.int (0) 0), (.ref 554), (.int (149) 0), (.int (0) 0), (.ref 601), (.int (151) 0), (.int (0) 0), (.ref 608), (.int (158) 0), (.int (0) 0), (.ref 615), (.int (165) 0), (.int (0) 0), (.ref 622), (.int (178) 0), (.int (0) 0), (.ref 629), (.int (190) 0), (.int (0) 0), (.ref 636), (.int (202) 0), (.int (0) 0), (.ref 643), (.int (205) 0), (.int (0) 0), (.ref 650), (.int (208) 0), (.int (0) 0), (.ref 657), (.int (211) 0), (.int (0) 0), (.ref 664), (.int (215) 0), (.int (0) 0), (.ref 671), (.int (218) 0), (.int (0) 0), (.ref 678), (.int (222) 0), (.int (0) 0), (.ref 685), (.int (225) 0), (.int (0) 0), (.ref 692), (.int (228) 0), (.int (0) 0), (.ref 699), (.int (231) 0), (.int (0) 0), (.ref 706), (.int (241) 0), (.int (0) 0), (.ref 713), (.int (243) 0), (.int (0) 0), (.ref 718), (.int (245) 0), (.int (0) 0), (.ref 723), (.int (249) 0), (.int (0) 0), (.ref 730), (.int (251) 0), (.int (0) 0), (.ref 737), (.int (254) 0), (.int (0) 0), (.ref 744), (.int (259) 0), (.int (0) 0), (.ref 751), (.int (268) 0), (.int (0) 0), (.ref 758), (.int (371) 0), (.int (0) 0), (.ref 825), (.int (384) 0), (.int (0) 0), (.ref 832), (.int (389) 0), (.int (0) 0), (.ref 839), (.int (398) 0), (.int (0) 0), (.ref 846), (.int (402) 0), (.int (0) 0), (.ref 851), (.int (404) 0), (.int (0) 0), (.ref 858), (.int (412) 0), (.int (0) 0), (.ref 863), (.int (414) 0), (.int (0) 0), (.ref 870), (.int (423) 0), (.int (0) 0), (.ref 875), (.int (431) 0), (.int (0) 0), (.ref 882), (.int (439) 0), (.int (0) 0), (.ref 889), (.int (451) 0), (.int (0) 0), (.ref 894), (.int (453) 0), (.int (0) 0), (.ref 901), (.int (461) 0), (.int (0) 0), (.ref 906), (.int (471) 0), (.int (0) 0), (.ref 913), (.int (485) 0), (.int (0) 0), (.ref 920), (.int (488) 0), (.int (0) 0), (.ref 927), (.int (494) 0), (.int (0) 0), (.ref 932), (.int (501) 0), (.int (0) 0), (.ref 940), (.int (511) 0), (.int (0) 0), (.ref 947), (.int (513) 0), (.int (0) 0), (.ref 954), (.int (518) 0), (.int (0) 0), (.ref 959), (.int (520) 0), (.int (0) 0), (.ref 966), (.int (526) 0), (.int (0) 0), (.ref 971), (.int (533) 0), (.int (0) 0), (.ref 978), (.int (540) 0), (.int (0) 0), (.ref 983), (.int (548) 0), (.int (0) 0), (.ref 990), (.int (551) 0), (.int (0) 0), (.ref 995), (.int (555) 0), (.int (0) 0), (.ref 1002), (.int (563) 0), (.int (0) 0), (.ref 1009), (.int (572) 0), (.int (0) 0), (.ref 1016), (.int (577) 0), (.int (0) 0), (.ref 1021), (.int (582) 0), (.int (0) 0), (.ref 1026), (.int (584) 0), (.int (0) 0), (.ref 1033), (.int (590) 0), (.int (0) 0), (.ref 1040), (.int (600) 0), (.int (0) 0), (.ref 1047), (.int (608) 0), (.int (0) 0), (.ref 1054), (.int (678) 0), (.int (0) 0), (.ref 1134), (.int (686) 0), (.int (0) 0), (.ref 1139), (.int (691) 0), (.int (0) 0), (.ref 1146), (.int (696) 0), (.int (0) 0), (.ref 1151), (.int (704) 0), (.int (0) 0), (.ref 1156), (.int (706) 0), (.int (0) 0), (.ref 1161), (.int (716) 0), (.int (0) 0), (.ref 1166), (.int (718) 0), (.int (0) 0), (.ref 1171), (.int (721) 0), (.int (0) 0), (.ref 1176), (.int (732) 0), (.int (0) 0), (.ref 1183), (.int (739) 0), (.int (0) 0), (.ref 1188), (.int (748) 0), (.int (0) 0), (.ref 1195), (.int (758) 0), (.int (0) 0), (.ref 1202), (.int (762) 0), (.int (0) 0), (.ref 1209), (.int (779) 0), (.int (0) 0), (.ref 1216), (.int (788) 0), (.int (0) 0), (.ref 1221), (.int (790) 0), (.int (0) 0), (.ref 1226), (.int (793) 0), (.int (0) 0), (.ref 1231), (.int (796) 0), (.int (0) 0), (.ref 1236), (.int (805) 0), (.int (0) 0), (.ref 1241), (.int (809) 0), (.int (0) 0), (.ref 1248), (.int (814) 0), (.int (0) 0), (.ref 1255), (.int (817) 0), (.int (0) 0), (.ref 1262), (.int (825) 0), (.int (0) 0), (.ref 1269), (.int (834) 0), (.int (0) 0), (.ref 1274), (.int (836) 0), (.int (0) 0), (.ref 1279), (.int (842) 0), (.int (0) 0), (.ref 1284), (.int (847) 0), (.int (0) 0), (.ref 1289), (.int (853) 0), (.int (0) 0), (.ref 1294), (.int (861) 0), (.int (0) 0), (.ref 1301), (.int (865) 0), (.int (0) 0), (.ref 1306), (.int (867) 0), (.int (0) 0), (.ref 1311), (.int (869) 0), (.int (0) 0), (.ref 1316), (.int (877) 0), (.int (0) 0), (.ref 1321), (.int (880) 0), (.int (0) 0), (.ref 1328), (.int (897) 0), (.int (0) 0), (.ref 1335), (.int (905) 0), (.int (0) 0), (.ref 1342), (.int (911) 0), (.int (0) 0), (.ref 1349), (.int (978) 0), (.int (0) 0), (.ref 1413), (.int (995) 0), (.int (0) 0), (.ref 1420), (.int (1000) 0), (.int (0) 0), (.ref 1427)]), #[]⟩
noncomputable def o645 (P : Params) : Obj := ⟨(.type "tuple"), none, (.seq #[] 0), #[]⟩
noncomputable def o646 (P : Params) : Obj := ⟨.none, none, (.fields #[]), #[]⟩
noncomputable def o647 (P : Params) : Obj := ⟨(.type "tuple"), none, (.seq #[(.str (S "bell") 1251)] 0), #[]⟩
noncomputable def o648 (P : Params) : Obj := ⟨(.type "tuple"), none, (.seq #[] 0), #[]⟩
noncomputable def o649 (P : Params) : Obj := ⟨.none, none, (.func ⟨(S "need_bell"), (S "need_bell"), defArgs (topS 47), .stmts (defBody (topS 47)), defScope (topS 47), 0, [], .none, .none, .none, .none, none, .none, .none, 0⟩), #[]⟩
noncomputable def o650 (P : Params) : Obj := ⟨(.type "code"), none, (.fields #[(.str (S "need_bell") 1248), (.str (S "need_bell") 1249), (.str (S "/claim/cut.py") 1250), (.int (205) 0), (.int (1) 0), (.int (0) 0), (.int (0) 0), (.int (3) 0), (.ref 645), (.bool true), (.int (453) 0), (.ref 646), .none, (.ref 647), (.ref 648), (.ref 649), (.int (1252) 0), (.int (205) 0), (.str (S "/claim/cut.py") 1253)]), #[]⟩
noncomputable def o651 (P : Params) : Obj := ⟨(.type "function"), none, (.func ⟨(S "need_bell"), (S "need_bell"), defArgs (topS 47), .stmts (defBody (topS 47)), defScope (topS 47), 3, [], .none, .none, .none, (.str (S "lastbell.given") 1239), none, (.ref 650), .none, 0⟩), #[]⟩
noncomputable def o652 (P : Params) : Obj := ⟨(.type "tuple"), none, (.seq #[] 0), #[]⟩
noncomputable def o653 (P : Params) : Obj := ⟨.none, none, (.fields #[]), #[]⟩
noncomputable def o654 (P : Params) : Obj := ⟨(.type "tuple"), none, (.seq #[(.str (S "turn") 1258)] 0), #[]⟩
noncomputable def o655 (P : Params) : Obj := ⟨(.type "tuple"), none, (.seq #[] 0), #[]⟩
noncomputable def o656 (P : Params) : Obj := ⟨.none, none, (.func ⟨(S "need_turn"), (S "need_turn"), defArgs (topS 48), .stmts (defBody (topS 48)), defScope (topS 48), 0, [], .none, .none, .none, .none, none, .none, .none, 0⟩), #[]⟩
noncomputable def o657 (P : Params) : Obj := ⟨(.type "code"), none, (.fields #[(.str (S "need_turn") 1255), (.str (S "need_turn") 1256), (.str (S "/claim/cut.py") 1257), (.int (208) 0), (.int (1) 0), (.int (0) 0), (.int (0) 0), (.int (3) 0), (.ref 652), (.bool true), (.int (453) 0), (.ref 653), .none, (.ref 654), (.ref 655), (.ref 656), (.int (1259) 0), (.int (208) 0), (.str (S "/claim/cut.py") 1260)]), #[]⟩
noncomputable def o658 (P : Params) : Obj := ⟨(.type "function"), none, (.func ⟨(S "need_turn"), (S "need_turn"), defArgs (topS 48), .stmts (defBody (topS 48)), defScope (topS 48), 3, [], .none, .none, .none, (.str (S "lastbell.given") 1239), none, (.ref 657), .none, 0⟩), #[]⟩
noncomputable def o659 (P : Params) : Obj := ⟨(.type "tuple"), none, (.seq #[] 0), #[]⟩
noncomputable def o660 (P : Params) : Obj := ⟨.none, none, (.fields #[]), #[]⟩
noncomputable def o661 (P : Params) : Obj := ⟨(.type "tuple"), none, (.seq #[(.str (S "house") 1265), (.str (S "lot") 1266)] 0), #[]⟩
noncomputable def o662 (P : Params) : Obj := ⟨(.type "tuple"), none, (.seq #[] 0), #[]⟩
noncomputable def o663 (P : Params) : Obj := ⟨.none, none, (.func ⟨(S "given_lot"), (S "given_lot"), defArgs (topS 49), .stmts (defBody (topS 49)), defScope (topS 49), 0, [], .none, .none, .none, .none, none, .none, .none, 0⟩), #[]⟩
noncomputable def o664 (P : Params) : Obj := ⟨(.type "code"), none, (.fields #[(.str (S "given_lot") 1262), (.str (S "given_lot") 1263), (.str (S "/claim/cut.py") 1264), (.int (211) 0), (.int (2) 0), (.int (0) 0), (.int (0) 0), (.int (3) 0), (.ref 659), (.bool true), (.int (453) 0), (.ref 660), .none, (.ref 661), (.ref 662), (.ref 663), (.int (1267) 0), (.int (211) 0), (.str (S "/claim/cut.py") 1268)]), #[]⟩
noncomputable def o665 (P : Params) : Obj := ⟨(.type "function"), none, (.func ⟨(S "given_lot"), (S "given_lot"), defArgs (topS 49), .stmts (defBody (topS 49)), defScope (topS 49), 3, [], .none, .none, .none, (.str (S "lastbell.given") 1239), none, (.ref 664), .none, 0⟩), #[]⟩
noncomputable def o666 (P : Params) : Obj := ⟨(.type "tuple"), none, (.seq #[] 0), #[]⟩
noncomputable def o667 (P : Params) : Obj := ⟨.none, none, (.fields #[]), #[]⟩
noncomputable def o668 (P : Params) : Obj := ⟨(.type "tuple"), none, (.seq #[(.str (S "house") 1273), (.str (S "door") 1274)] 0), #[]⟩
noncomputable def o669 (P : Params) : Obj := ⟨(.type "tuple"), none, (.seq #[] 0), #[]⟩
noncomputable def o670 (P : Params) : Obj := ⟨.none, none, (.func ⟨(S "need_door"), (S "need_door"), defArgs (topS 50), .stmts (defBody (topS 50)), defScope (topS 50), 0, [], .none, .none, .none, .none, none, .none, .none, 0⟩), #[]⟩
noncomputable def o671 (P : Params) : Obj := ⟨(.type "code"), none, (.fields #[(.str (S "need_door") 1270), (.str (S "need_door") 1271), (.str (S "/claim/cut.py") 1272), (.int (215) 0), (.int (2) 0), (.int (0) 0), (.int (0) 0), (.int (3) 0), (.ref 666), (.bool true), (.int (453) 0), (.ref 667), .none, (.ref 668), (.ref 669), (.ref 670), (.int (1275) 0), (.int (215) 0), (.str (S "/claim/cut.py") 1276)]), #[]⟩
noncomputable def o672 (P : Params) : Obj := ⟨(.type "function"), none, (.func ⟨(S "need_door"), (S "need_door"), defArgs (topS 50), .stmts (defBody (topS 50)), defScope (topS 50), 3, [], .none, .none, .none, (.str (S "lastbell.given") 1239), none, (.ref 671), .none, 0⟩), #[]⟩
noncomputable def o673 (P : Params) : Obj := ⟨(.type "tuple"), none, (.seq #[] 0), #[]⟩
noncomputable def o674 (P : Params) : Obj := ⟨.none, none, (.fields #[]), #[]⟩
noncomputable def o675 (P : Params) : Obj := ⟨(.type "tuple"), none, (.seq #[(.str (S "house") 1281), (.str (S "door") 1282), (.str (S "sort") 1283)] 0), #[]⟩
noncomputable def o676 (P : Params) : Obj := ⟨(.type "tuple"), none, (.seq #[] 0), #[]⟩
noncomputable def o677 (P : Params) : Obj := ⟨.none, none, (.func ⟨(S "need_sort"), (S "need_sort"), defArgs (topS 51), .stmts (defBody (topS 51)), defScope (topS 51), 0, [], .none, .none, .none, .none, none, .none, .none, 0⟩), #[]⟩
noncomputable def o678 (P : Params) : Obj := ⟨(.type "code"), none, (.fields #[(.str (S "need_sort") 1278), (.str (S "need_sort") 1279), (.str (S "/claim/cut.py") 1280), (.int (218) 0), (.int (3) 0), (.int (0) 0), (.int (0) 0), (.int (3) 0), (.ref 673), (.bool true), (.int (453) 0), (.ref 674), .none, (.ref 675), (.ref 676), (.ref 677), (.int (1284) 0), (.int (218) 0), (.str (S "/claim/cut.py") 1285)]), #[]⟩
noncomputable def o679 (P : Params) : Obj := ⟨(.type "function"), none, (.func ⟨(S "need_sort"), (S "need_sort"), defArgs (topS 51), .stmts (defBody (topS 51)), defScope (topS 51), 3, [], .none, .none, .none, (.str (S "lastbell.given") 1239), none, (.ref 678), .none, 0⟩), #[]⟩
noncomputable def o680 (P : Params) : Obj := ⟨(.type "tuple"), none, (.seq #[] 0), #[]⟩
noncomputable def o681 (P : Params) : Obj := ⟨.none, none, (.fields #[]), #[]⟩
noncomputable def o682 (P : Params) : Obj := ⟨(.type "tuple"), none, (.seq #[(.str (S "house") 1290), (.str (S "order") 1291)] 0), #[]⟩
noncomputable def o683 (P : Params) : Obj := ⟨(.type "tuple"), none, (.seq #[] 0), #[]⟩
noncomputable def o684 (P : Params) : Obj := ⟨.none, none, (.func ⟨(S "need_order"), (S "need_order"), defArgs (topS 52), .stmts (defBody (topS 52)), defScope (topS 52), 0, [], .none, .none, .none, .none, none, .none, .none, 0⟩), #[]⟩
noncomputable def o685 (P : Params) : Obj := ⟨(.type "code"), none, (.fields #[(.str (S "need_order") 1287), (.str (S "need_order") 1288), (.str (S "/claim/cut.py") 1289), (.int (222) 0), (.int (2) 0), (.int (0) 0), (.int (0) 0), (.int (3) 0), (.ref 680), (.bool true), (.int (453) 0), (.ref 681), .none, (.ref 682), (.ref 683), (.ref 684), (.int (1292) 0), (.int (222) 0), (.str (S "/claim/cut.py") 1293)]), #[]⟩
noncomputable def o686 (P : Params) : Obj := ⟨(.type "function"), none, (.func ⟨(S "need_order"), (S "need_order"), defArgs (topS 52), .stmts (defBody (topS 52)), defScope (topS 52), 3, [], .none, .none, .none, (.str (S "lastbell.given") 1239), none, (.ref 685), .none, 0⟩), #[]⟩
noncomputable def o687 (P : Params) : Obj := ⟨(.type "tuple"), none, (.seq #[] 0), #[]⟩
noncomputable def o688 (P : Params) : Obj := ⟨.none, none, (.fields #[]), #[]⟩
noncomputable def o689 (P : Params) : Obj := ⟨(.type "tuple"), none, (.seq #[(.str (S "house") 1298), (.str (S "numbers") 1299)] 0), #[]⟩
noncomputable def o690 (P : Params) : Obj := ⟨(.type "tuple"), none, (.seq #[] 0), #[]⟩
noncomputable def o691 (P : Params) : Obj := ⟨.none, none, (.func ⟨(S "need_numbers"), (S "need_numbers"), defArgs (topS 53), .stmts (defBody (topS 53)), defScope (topS 53), 0, [], .none, .none, .none, .none, none, .none, .none, 0⟩), #[]⟩
noncomputable def o692 (P : Params) : Obj := ⟨(.type "code"), none, (.fields #[(.str (S "need_numbers") 1295), (.str (S "need_numbers") 1296), (.str (S "/claim/cut.py") 1297), (.int (225) 0), (.int (2) 0), (.int (0) 0), (.int (0) 0), (.int (3) 0), (.ref 687), (.bool true), (.int (453) 0), (.ref 688), .none, (.ref 689), (.ref 690), (.ref 691), (.int (1300) 0), (.int (225) 0), (.str (S "/claim/cut.py") 1301)]), #[]⟩
noncomputable def o693 (P : Params) : Obj := ⟨(.type "function"), none, (.func ⟨(S "need_numbers"), (S "need_numbers"), defArgs (topS 53), .stmts (defBody (topS 53)), defScope (topS 53), 3, [], .none, .none, .none, (.str (S "lastbell.given") 1239), none, (.ref 692), .none, 0⟩), #[]⟩
noncomputable def o694 (P : Params) : Obj := ⟨(.type "tuple"), none, (.seq #[] 0), #[]⟩
noncomputable def o695 (P : Params) : Obj := ⟨.none, none, (.fields #[]), #[]⟩
noncomputable def o696 (P : Params) : Obj := ⟨(.type "tuple"), none, (.seq #[(.str (S "house") 1306), (.str (S "wishes") 1307)] 0), #[]⟩
noncomputable def o697 (P : Params) : Obj := ⟨(.type "tuple"), none, (.seq #[] 0), #[]⟩
noncomputable def o698 (P : Params) : Obj := ⟨.none, none, (.func ⟨(S "need_wishes"), (S "need_wishes"), defArgs (topS 54), .stmts (defBody (topS 54)), defScope (topS 54), 0, [], .none, .none, .none, .none, none, .none, .none, 0⟩), #[]⟩
noncomputable def o699 (P : Params) : Obj := ⟨(.type "code"), none, (.fields #[(.str (S "need_wishes") 1303), (.str (S "need_wishes") 1304), (.str (S "/claim/cut.py") 1305), (.int (228) 0), (.int (2) 0), (.int (0) 0), (.int (0) 0), (.int (3) 0), (.ref 694), (.bool true), (.int (453) 0), (.ref 695), .none, (.ref 696), (.ref 697), (.ref 698), (.int (1308) 0), (.int (228) 0), (.str (S "/claim/cut.py") 1309)]), #[]⟩
noncomputable def o700 (P : Params) : Obj := ⟨(.type "function"), none, (.func ⟨(S "need_wishes"), (S "need_wishes"), defArgs (topS 54), .stmts (defBody (topS 54)), defScope (topS 54), 3, [], .none, .none, .none, (.str (S "lastbell.given") 1239), none, (.ref 699), .none, 0⟩), #[]⟩
noncomputable def o701 (P : Params) : Obj := ⟨(.type "tuple"), none, (.seq #[] 0), #[]⟩
noncomputable def o702 (P : Params) : Obj := ⟨.none, none, (.fields #[]), #[]⟩
noncomputable def o703 (P : Params) : Obj := ⟨(.type "tuple"), none, (.seq #[(.str (S "house") 1314), (.str (S "thing") 1315), (.str (S "many") 1316), (.str (S "seen") 1317), (.str (S "door") 1318)] 0), #[]⟩
noncomputable def o704 (P : Params) : Obj := ⟨(.type "tuple"), none, (.seq #[] 0), #[]⟩
noncomputable def o705 (P : Params) : Obj := ⟨.none, none, (.func ⟨(S "is_lot"), (S "is_lot"), defArgs (topS 55), .stmts (defBody (topS 55)), defScope (topS 55), 0, [], .none, .none, .none, .none, none, .none, .none, 0⟩), #[]⟩
noncomputable def o706 (P : Params) : Obj := ⟨(.type "code"), none, (.fields #[(.str (S "is_lot") 1311), (.str (S "is_lot") 1312), (.str (S "/claim/cut.py") 1313), (.int (231) 0), (.int (2) 0), (.int (0) 0), (.int (0) 0), (.int (3) 0), (.ref 701), (.bool true), (.int (453) 0), (.ref 702), .none, (.ref 703), (.ref 704), (.ref 705), (.int (1319) 0), (.int (231) 0), (.str (S "/claim/cut.py") 1320)]), #[]⟩
noncomputable def o707 (P : Params) : Obj := ⟨(.type "function"), none, (.func ⟨(S "is_lot"), (S "is_lot"), defArgs (topS 55), .stmts (defBody (topS 55)), defScope (topS 55), 3, [], .none, .none, .none, (.str (S "lastbell.given") 1239), none, (.ref 706), .none, 0⟩), #[]⟩
noncomputable def o708 (P : Params) : Obj := ⟨(.type "tuple"), none, (.seq #[] 0), #[]⟩
noncomputable def o709 (P : Params) : Obj := ⟨.none, none, (.fields #[]), #[]⟩
noncomputable def o710 (P : Params) : Obj := ⟨(.type "tuple"), none, (.seq #[(.str (S "house") 1325), (.str (S "thing") 1326)] 0), #[]⟩
noncomputable def o711 (P : Params) : Obj := ⟨(.type "tuple"), none, (.seq #[] 0), #[]⟩
noncomputable def o712 (P : Params) : Obj := ⟨.none, none, (.func ⟨(S "is_order"), (S "is_order"), defArgs (topS 56), .stmts (defBody (topS 56)), defScope (topS 56), 0, [], .none, .none, .none, .none, none, .none, .none, 0⟩), #[]⟩
noncomputable def o713 (P : Params) : Obj := ⟨(.type "code"), none, (.fields #[(.str (S "is_order") 1322), (.str (S "is_order") 1323), (.str (S "/claim/cut.py") 1324), (.int (241) 0), (.int (2) 0), (.int (0) 0), (.int (0) 0), (.int (3) 0), (.ref 708), (.bool true), (.int (453) 0), (.ref 709), .none, (.ref 710), (.ref 711), (.ref 712), (.int (1327) 0), (.int (241) 0), (.str (S "/claim/cut.py") 1328)]), #[]⟩
noncomputable def o714 (P : Params) : Obj := ⟨(.type "function"), none, (.func ⟨(S "is_order"), (S "is_order"), defArgs (topS 56), .stmts (defBody (topS 56)), defScope (topS 56), 3, [], .none, .none, .none, (.str (S "lastbell.given") 1239), none, (.ref 713), .none, 0⟩), #[]⟩
noncomputable def o715 (P : Params) : Obj := ⟨(.type "tuple"), none, (.seq #[] 0), #[]⟩
noncomputable def o716 (P : Params) : Obj := ⟨.none, none, (.fields #[]), #[]⟩
noncomputable def o717 (P : Params) : Obj := ⟨.none, none, (.func ⟨(S "is_numbers"), (S "is_numbers"), defArgs (topS 57), .stmts (defBody (topS 57)), defScope (topS 57), 0, [], .none, .none, .none, .none, none, .none, .none, 0⟩), #[]⟩
noncomputable def o718 (P : Params) : Obj := ⟨(.type "code"), none, (.fields #[(.str (S "is_numbers") 1330), (.str (S "is_numbers") 1331), (.str (S "/claim/cut.py") 1332), (.int (243) 0), (.int (2) 0), (.int (0) 0), (.int (0) 0), (.int (3) 0), (.ref 715), (.bool true), (.int (453) 0), (.ref 716), .none, .none, .none, (.ref 717), (.int (1333) 0), (.int (243) 0), (.str (S "/claim/cut.py") 1334)]), #[]⟩
noncomputable def o719 (P : Params) : Obj := ⟨(.type "function"), none, (.func ⟨(S "is_numbers"), (S "is_numbers"), defArgs (topS 57), .stmts (defBody (topS 57)), defScope (topS 57), 3, [], .none, .none, .none, (.str (S "lastbell.given") 1239), none, (.ref 718), .none, 0⟩), #[]⟩
noncomputable def o720 (P : Params) : Obj := ⟨(.type "tuple"), none, (.seq #[] 0), #[]⟩
noncomputable def o721 (P : Params) : Obj := ⟨.none, none, (.fields #[]), #[]⟩
noncomputable def o722 (P : Params) : Obj := ⟨.none, none, (.func ⟨(S "asked_of"), (S "asked_of"), defArgs (topS 58), .stmts (defBody (topS 58)), defScope (topS 58), 0, [], .none, .none, .none, .none, none, .none, .none, 0⟩), #[]⟩
noncomputable def o723 (P : Params) : Obj := ⟨(.type "code"), none, (.fields #[(.str (S "asked_of") 1336), (.str (S "asked_of") 1337), (.str (S "/claim/cut.py") 1338), (.int (245) 0), (.int (3) 0), (.int (0) 0), (.int (0) 0), (.int (3) 0), (.ref 720), (.bool true), (.int (453) 0), (.ref 721), .none, .none, .none, (.ref 722), (.int (1339) 0), (.int (245) 0), (.str (S "/claim/cut.py") 1340)]), #[]⟩
noncomputable def o724 (P : Params) : Obj := ⟨(.type "function"), none, (.func ⟨(S "asked_of"), (S "asked_of"), defArgs (topS 58), .stmts (defBody (topS 58)), defScope (topS 58), 3, [], .none, .none, .none, (.str (S "lastbell.given") 1239), none, (.ref 723), .none, 0⟩), #[]⟩
noncomputable def o725 (P : Params) : Obj := ⟨(.type "tuple"), none, (.seq #[] 0), #[]⟩
noncomputable def o726 (P : Params) : Obj := ⟨.none, none, (.fields #[]), #[]⟩
noncomputable def o727 (P : Params) : Obj := ⟨(.type "tuple"), none, (.seq #[(.str (S "changes") 1347), (.str (S "turn") 1348), (.str (S "amount") 1349)] 0), #[]⟩
noncomputable def o728 (P : Params) : Obj := ⟨(.type "tuple"), none, (.seq #[] 0), #[]⟩
noncomputable def o729 (P : Params) : Obj := ⟨.none, none, (.func ⟨(S "change_from"), (S "change_from"), defArgs (topS 60), .stmts (defBody (topS 60)), defScope (topS 60), 0, [], .none, .none, .none, .none, none, .none, .none, 0⟩), #[]⟩
noncomputable def o730 (P : Params) : Obj := ⟨(.type "code"), none, (.fields #[(.str (S "change_from") 1344), (.str (S "change_from") 1345), (.str (S "/claim/cut.py") 1346), (.int (249) 0), (.int (3) 0), (.int (0) 0), (.int (0) 0), (.int (3) 0), (.ref 725), (.bool true), (.int (453) 0), (.ref 726), .none, (.ref 727), (.ref 728), (.ref 729), (.int (1350) 0), (.int (249) 0), (.str (S "/claim/cut.py") 1351)]), #[]⟩
noncomputable def o731 (P : Params) : Obj := ⟨(.type "function"), none, (.func ⟨(S "change_from"), (S "change_from"), defArgs (topS 60), .stmts (defBody (topS 60)), defScope (topS 60), 3, [], .none, .none, .none, (.str (S "lastbell.changes") 1342), none, (.ref 730), .none, 0⟩), #[]⟩
noncomputable def o732 (P : Params) : Obj := ⟨(.type "tuple"), none, (.seq #[] 0), #[]⟩
noncomputable def o733 (P : Params) : Obj := ⟨.none, none, (.fields #[]), #[]⟩
noncomputable def o734 (P : Params) : Obj := ⟨(.type "tuple"), none, (.seq #[(.str (S "changes") 1356), (.str (S "first") 1357), (.str (S "end") 1358), (.str (S "amount") 1359)] 0), #[]⟩
noncomputable def o735 (P : Params) : Obj := ⟨(.type "tuple"), none, (.seq #[] 0), #[]⟩
noncomputable def o736 (P : Params) : Obj := ⟨.none, none, (.func ⟨(S "change_between"), (S "change_between"), defArgs (topS 61), .stmts (defBody (topS 61)), defScope (topS 61), 0, [], .none, .none, .none, .none, none, .none, .none, 0⟩), #[]⟩
noncomputable def o737 (P : Params) : Obj := ⟨(.type "code"), none, (.fields #[(.str (S "change_between") 1353), (.str (S "change_between") 1354), (.str (S "/claim/cut.py") 1355), (.int (251) 0), (.int (4) 0), (.int (0) 0), (.int (0) 0), (.int (3) 0), (.ref 732), (.bool true), (.int (453) 0), (.ref 733), .none, (.ref 734), (.ref 735), (.ref 736), (.int (1360) 0), (.int (251) 0), (.str (S "/claim/cut.py") 1361)]), #[]⟩
noncomputable def o738 (P : Params) : Obj := ⟨(.type "function"), none, (.func ⟨(S "change_between"), (S "change_between"), defArgs (topS 61), .stmts (defBody (topS 61)), defScope (topS 61), 3, [], .none, .none, .none, (.str (S "lastbell.changes") 1342), none, (.ref 737), .none, 0⟩), #[]⟩
noncomputable def o739 (P : Params) : Obj := ⟨(.type "tuple"), none, (.seq #[] 0), #[]⟩
noncomputable def o740 (P : Params) : Obj := ⟨.none, none, (.fields #[]), #[]⟩
noncomputable def o741 (P : Params) : Obj := ⟨(.type "tuple"), none, (.seq #[(.str (S "changes") 1366), (.str (S "steps") 1367), (.str (S "turns") 1368), (.str (S "times") 1369), (.str (S "before") 1370), (.str (S "turn") 1371), (.str (S "rate") 1372)] 0), #[]⟩
noncomputable def o742 (P : Params) : Obj := ⟨(.type "tuple"), none, (.seq #[] 0), #[]⟩
noncomputable def o743 (P : Params) : Obj := ⟨.none, none, (.func ⟨(S "change_by_steps"), (S "change_by_steps"), defArgs (topS 62), .stmts (defBody (topS 62)), defScope (topS 62), 0, [], .none, .none, .none, .none, none, .none, .none, 0⟩), #[]⟩
noncomputable def o744 (P : Params) : Obj := ⟨(.type "code"), none, (.fields #[(.str (S "change_by_steps") 1363), (.str (S "change_by_steps") 1364), (.str (S "/claim/cut.py") 1365), (.int (254) 0), (.int (4) 0), (.int (0) 0), (.int (0) 0), (.int (3) 0), (.ref 739), (.bool true), (.int (453) 0), (.ref 740), .none, (.ref 741), (.ref 742), (.ref 743), (.int (1373) 0), (.int (254) 0), (.str (S "/claim/cut.py") 1374)]), #[]⟩
noncomputable def o745 (P : Params) : Obj := ⟨(.type "function"), none, (.func ⟨(S "change_by_steps"), (S "change_by_steps"), defArgs (topS 62), .stmts (defBody (topS 62)), defScope (topS 62), 3, [], .none, .none, .none, (.str (S "lastbell.changes") 1342), none, (.ref 744), .none, 0⟩), #[]⟩
noncomputable def o746 (P : Params) : Obj := ⟨(.type "tuple"), none, (.seq #[] 0), #[]⟩
noncomputable def o747 (P : Params) : Obj := ⟨.none, none, (.fields #[]), #[]⟩
noncomputable def o748 (P : Params) : Obj := ⟨(.type "tuple"), none, (.seq #[(.str (S "changes") 1379), (.str (S "steps") 1380), (.str (S "rate") 1381), (.str (S "turn") 1382)] 0), #[]⟩
noncomputable def o749 (P : Params) : Obj := ⟨(.type "tuple"), none, (.seq #[] 0), #[]⟩
noncomputable def o750 (P : Params) : Obj := ⟨.none, none, (.func ⟨(S "steps_of"), (S "steps_of"), defArgs (topS 63), .stmts (defBody (topS 63)), defScope (topS 63), 0, [], .none, .none, .none, .none, none, .none, .none, 0⟩), #[]⟩
noncomputable def o751 (P : Params) : Obj := ⟨(.type "code"), none, (.fields #[(.str (S "steps_of") 1376), (.str (S "steps_of") 1377), (.str (S "/claim/cut.py") 1378), (.int (259) 0), (.int (1) 0), (.int (0) 0), (.int (0) 0), (.int (3) 0), (.ref 746), (.bool true), (.int (453) 0), (.ref 747), .none, (.ref 748), (.ref 749), (.ref 750), (.int (1383) 0), (.int (259) 0), (.str (S "/claim/cut.py") 1384)]), #[]⟩
noncomputable def o752 (P : Params) : Obj := ⟨(.type "function"), none, (.func ⟨(S "steps_of"), (S "steps_of"), defArgs (topS 63), .stmts (defBody (topS 63)), defScope (topS 63), 3, [], .none, .none, .none, (.str (S "lastbell.changes") 1342), none, (.ref 751), .none, 0⟩), #[]⟩
noncomputable def o753 (P : Params) : Obj := ⟨(.type "tuple"), none, (.seq #[] 0), #[]⟩
noncomputable def o754 (P : Params) : Obj := ⟨(.type "builtin_function_or_method"), none, (.fields #[(.builtin "type.__prepare__"), (.type "type")]), #[]⟩
noncomputable def o755 (P : Params) : Obj := ⟨(.type "dict"), none, (.dict #[E P "__module__" 1395 (.str (S "lastbell.nets") 1386), E P "__qualname__" 1397 (.str (S "Net") 1396), E P "__firstlineno__" 1399 (.int (268) 1398), E P "__init__" 1405 (.ref 764), E P "lay" 1416 (.ref 771), E P "fill" 1426 (.ref 778), E P "distances" 1440 (.ref 785), E P "use_up" 1446 (.ref 790), E P "shortest_way" 1460 (.ref 797), E P "traced" 1470 (.ref 804), E P "ways" 1476 (.ref 809), E P "flowing_way" 1482 (.ref 814), E P "__static_attributes__" 1491 (.ref 815)] 13), #[]⟩
noncomputable def o756 (P : Params) : Obj := ⟨(.type "tuple"), none, (.seq #[] 0), #[]⟩
noncomputable def o757 (P : Params) : Obj := ⟨.none, none, (.fields #[(.int (270) 0), (.int (4) 0), (.ref 763), (.int (280) 0), (.int (4) 0), (.ref 770), (.int (288) 0), (.int (4) 0), (.ref 777), (.int (296) 0), (.int (4) 0), (.ref 784), (.int (313) 0), (.int (4) 0), (.ref 789), (.int (326) 0), (.int (4) 0), (.ref 796), (.int (340) 0), (.int (4) 0), (.ref 803), (.int (348) 0), (.int (4) 0), (.ref 808), (.int (360) 0), (.int (4) 0), (.ref 813)]), #[]⟩
noncomputable def o758 (P : Params) : Obj := ⟨(.type "code"), none, (.fields #[(.str (S "Net") 1390), (.str (S "Net") 1391), (.str (S "/claim/cut.py") 1392), (.int (268) 0), (.int (0) 0), (.int (0) 0), (.int (0) 0), (.int (0) 0), (.ref 756), (.bool false), (.int (453) 0), (.ref 757), .none, .none, .none, .none, (.int (1393) 0), (.int (268) 0), (.str (S "/claim/cut.py") 1394)]), #[]⟩
noncomputable def o759 (P : Params) : Obj := ⟨(.type "frame"), none, .plain, #[some (.ref 758), some (.ref 3), some (.ref 755), none, some (.str (S "lastbell.nets") 1386), none, some (.ref 0)]⟩
noncomputable def o760 (P : Params) : Obj := ⟨(.type "tuple"), none, (.seq #[] 0), #[]⟩
noncomputable def o761 (P : Params) : Obj := ⟨.none, none, (.fields #[]), #[]⟩
noncomputable def o762 (P : Params) : Obj := ⟨.none, none, (.func ⟨(S "__init__"), (S "Net.__init__"), defArgs (inClass (topS 65) 0), .stmts (defBody (inClass (topS 65) 0)), defScope (inClass (topS 65) 0), 0, [], .none, .none, .none, .none, none, .none, .none, 0⟩), #[]⟩
noncomputable def o763 (P : Params) : Obj := ⟨(.type "code"), none, (.fields #[(.str (S "__init__") 1400), (.str (S "Net.__init__") 1401), (.str (S "/claim/cut.py") 1402), (.int (270) 0), (.int (2) 0), (.int (0) 0), (.int (0) 0), (.int (3) 0), (.ref 760), (.bool true), (.int (453) 0), (.ref 761), .none, .none, .none, (.ref 762), (.int (1403) 0), (.int (270) 0), (.str (S "/claim/cut.py") 1404)]), #[]⟩
noncomputable def o764 (P : Params) : Obj := ⟨(.type "function"), none, (.func ⟨(S "__init__"), (S "Net.__init__"), defArgs (inClass (topS 65) 0), .stmts (defBody (inClass (topS 65) 0)), defScope (inClass (topS 65) 0), 3, [], .none, .none, .none, (.str (S "lastbell.nets") 1386), none, (.ref 763), .none, 0⟩), #[]⟩
noncomputable def o765 (P : Params) : Obj := ⟨(.type "tuple"), none, (.seq #[] 0), #[]⟩
noncomputable def o766 (P : Params) : Obj := ⟨.none, none, (.fields #[]), #[]⟩
noncomputable def o767 (P : Params) : Obj := ⟨(.type "tuple"), none, (.seq #[(.str (S "self") 1409), (.str (S "begin") 1410), (.str (S "end") 1411), (.str (S "length") 1412), (.str (S "room") 1413)] 0), #[]⟩
noncomputable def o768 (P : Params) : Obj := ⟨(.type "tuple"), none, (.seq #[] 0), #[]⟩
noncomputable def o769 (P : Params) : Obj := ⟨.none, none, (.func ⟨(S "lay"), (S "Net.lay"), defArgs (inClass (topS 65) 1), .stmts (defBody (inClass (topS 65) 1)), defScope (inClass (topS 65) 1), 0, [], .none, .none, .none, .none, none, .none, .none, 0⟩), #[]⟩
noncomputable def o770 (P : Params) : Obj := ⟨(.type "code"), none, (.fields #[(.str (S "lay") 1406), (.str (S "Net.lay") 1407), (.str (S "/claim/cut.py") 1408), (.int (280) 0), (.int (5) 0), (.int (0) 0), (.int (0) 0), (.int (3) 0), (.ref 765), (.bool true), (.int (453) 0), (.ref 766), .none, (.ref 767), (.ref 768), (.ref 769), (.int (1414) 0), (.int (280) 0), (.str (S "/claim/cut.py") 1415)]), #[]⟩
noncomputable def o771 (P : Params) : Obj := ⟨(.type "function"), none, (.func ⟨(S "lay"), (S "Net.lay"), defArgs (inClass (topS 65) 1), .stmts (defBody (inClass (topS 65) 1)), defScope (inClass (topS 65) 1), 3, [], .none, .none, .none, (.str (S "lastbell.nets") 1386), none, (.ref 770), .none, 0⟩), #[]⟩
noncomputable def o772 (P : Params) : Obj := ⟨(.type "tuple"), none, (.seq #[] 0), #[]⟩
noncomputable def o773 (P : Params) : Obj := ⟨.none, none, (.fields #[]), #[]⟩
noncomputable def o774 (P : Params) : Obj := ⟨(.type "tuple"), none, (.seq #[(.str (S "self") 1420), (.str (S "limit") 1421), (.str (S "pairs") 1422), (.str (S "near") 1423)] 0), #[]⟩
noncomputable def o775 (P : Params) : Obj := ⟨(.type "tuple"), none, (.seq #[] 0), #[]⟩
noncomputable def o776 (P : Params) : Obj := ⟨.none, none, (.func ⟨(S "fill"), (S "Net.fill"), defArgs (inClass (topS 65) 2), .stmts (defBody (inClass (topS 65) 2)), defScope (inClass (topS 65) 2), 0, [], .none, .none, .none, .none, none, .none, .none, 0⟩), #[]⟩
noncomputable def o777 (P : Params) : Obj := ⟨(.type "code"), none, (.fields #[(.str (S "fill") 1417), (.str (S "Net.fill") 1418), (.str (S "/claim/cut.py") 1419), (.int (288) 0), (.int (2) 0), (.int (0) 0), (.int (0) 0), (.int (3) 0), (.ref 772), (.bool true), (.int (453) 0), (.ref 773), .none, (.ref 774), (.ref 775), (.ref 776), (.int (1424) 0), (.int (288) 0), (.str (S "/claim/cut.py") 1425)]), #[]⟩
noncomputable def o778 (P : Params) : Obj := ⟨(.type "function"), none, (.func ⟨(S "fill"), (S "Net.fill"), defArgs (inClass (topS 65) 2), .stmts (defBody (inClass (topS 65) 2)), defScope (inClass (topS 65) 2), 3, [], .none, .none, .none, (.str (S "lastbell.nets") 1386), none, (.ref 777), .none, 0⟩), #[]⟩
noncomputable def o779 (P : Params) : Obj := ⟨(.type "tuple"), none, (.seq #[] 0), #[]⟩
noncomputable def o780 (P : Params) : Obj := ⟨.none, none, (.fields #[]), #[]⟩
noncomputable def o781 (P : Params) : Obj := ⟨(.type "tuple"), none, (.seq #[(.str (S "self") 1430), (.str (S "near") 1431), (.str (S "changed") 1432), (.str (S "nearer") 1433), (.str (S "node") 1434), (.str (S "arc") 1435), (.str (S "end") 1436), (.str (S "length") 1437)] 0), #[]⟩
noncomputable def o782 (P : Params) : Obj := ⟨(.type "tuple"), none, (.seq #[] 0), #[]⟩
noncomputable def o783 (P : Params) : Obj := ⟨.none, none, (.func ⟨(S "distances"), (S "Net.distances"), defArgs (inClass (topS 65) 3), .stmts (defBody (inClass (topS 65) 3)), defScope (inClass (topS 65) 3), 0, [], .none, .none, .none, .none, none, .none, .none, 0⟩), #[]⟩
noncomputable def o784 (P : Params) : Obj := ⟨(.type "code"), none, (.fields #[(.str (S "distances") 1427), (.str (S "Net.distances") 1428), (.str (S "/claim/cut.py") 1429), (.int (296) 0), (.int (1) 0), (.int (0) 0), (.int (0) 0), (.int (3) 0), (.ref 779), (.bool true), (.int (453) 0), (.ref 780), .none, (.ref 781), (.ref 782), (.ref 783), (.int (1438) 0), (.int (296) 0), (.str (S "/claim/cut.py") 1439)]), #[]⟩
noncomputable def o785 (P : Params) : Obj := ⟨(.type "function"), none, (.func ⟨(S "distances"), (S "Net.distances"), defArgs (inClass (topS 65) 3), .stmts (defBody (inClass (topS 65) 3)), defScope (inClass (topS 65) 3), 3, [], .none, .none, .none, (.str (S "lastbell.nets") 1386), none, (.ref 784), .none, 0⟩), #[]⟩
noncomputable def o786 (P : Params) : Obj := ⟨(.type "tuple"), none, (.seq #[] 0), #[]⟩
noncomputable def o787 (P : Params) : Obj := ⟨.none, none, (.fields #[]), #[]⟩
noncomputable def o788 (P : Params) : Obj := ⟨.none, none, (.func ⟨(S "use_up"), (S "Net.use_up"), defArgs (inClass (topS 65) 4), .stmts (defBody (inClass (topS 65) 4)), defScope (inClass (topS 65) 4), 0, [], .none, .none, .none, .none, none, .none, .none, 0⟩), #[]⟩
noncomputable def o789 (P : Params) : Obj := ⟨(.type "code"), none, (.fields #[(.str (S "use_up") 1441), (.str (S "Net.use_up") 1442), (.str (S "/claim/cut.py") 1443), (.int (313) 0), (.int (2) 0), (.int (0) 0), (.int (0) 0), (.int (3) 0), (.ref 786), (.bool true), (.int (453) 0), (.ref 787), .none, .none, .none, (.ref 788), (.int (1444) 0), (.int (313) 0), (.str (S "/claim/cut.py") 1445)]), #[]⟩
noncomputable def o790 (P : Params) : Obj := ⟨(.type "function"), none, (.func ⟨(S "use_up"), (S "Net.use_up"), defArgs (inClass (topS 65) 4), .stmts (defBody (inClass (topS 65) 4)), defScope (inClass (topS 65) 4), 3, [], .none, .none, .none, (.str (S "lastbell.nets") 1386), none, (.ref 789), .none, 0⟩), #[]⟩
noncomputable def o791 (P : Params) : Obj := ⟨(.type "tuple"), none, (.seq #[] 0), #[]⟩
noncomputable def o792 (P : Params) : Obj := ⟨.none, none, (.fields #[]), #[]⟩
noncomputable def o793 (P : Params) : Obj := ⟨(.type "tuple"), none, (.seq #[(.str (S "self") 1450), (.str (S "near") 1451), (.str (S "came") 1452), (.str (S "fresh") 1453), (.str (S "found") 1454), (.str (S "node") 1455), (.str (S "arc") 1456), (.str (S "end") 1457)] 0), #[]⟩
noncomputable def o794 (P : Params) : Obj := ⟨(.type "tuple"), none, (.seq #[] 0), #[]⟩
noncomputable def o795 (P : Params) : Obj := ⟨.none, none, (.func ⟨(S "shortest_way"), (S "Net.shortest_way"), defArgs (inClass (topS 65) 5), .stmts (defBody (inClass (topS 65) 5)), defScope (inClass (topS 65) 5), 0, [], .none, .none, .none, .none, none, .none, .none, 0⟩), #[]⟩
noncomputable def o796 (P : Params) : Obj := ⟨(.type "code"), none, (.fields #[(.str (S "shortest_way") 1447), (.str (S "Net.shortest_way") 1448), (.str (S "/claim/cut.py") 1449), (.int (326) 0), (.int (2) 0), (.int (0) 0), (.int (0) 0), (.int (3) 0), (.ref 791), (.bool true), (.int (453) 0), (.ref 792), .none, (.ref 793), (.ref 794), (.ref 795), (.int (1458) 0), (.int (326) 0), (.str (S "/claim/cut.py") 1459)]), #[]⟩
noncomputable def o797 (P : Params) : Obj := ⟨(.type "function"), none, (.func ⟨(S "shortest_way"), (S "Net.shortest_way"), defArgs (inClass (topS 65) 5), .stmts (defBody (inClass (topS 65) 5)), defScope (inClass (topS 65) 5), 3, [], .none, .none, .none, (.str (S "lastbell.nets") 1386), none, (.ref 796), .none, 0⟩), #[]⟩
noncomputable def o798 (P : Params) : Obj := ⟨(.type "tuple"), none, (.seq #[] 0), #[]⟩
noncomputable def o799 (P : Params) : Obj := ⟨.none, none, (.fields #[]), #[]⟩
noncomputable def o800 (P : Params) : Obj := ⟨(.type "tuple"), none, (.seq #[(.str (S "self") 1464), (.str (S "came") 1465), (.str (S "way") 1466), (.str (S "arc") 1467)] 0), #[]⟩
noncomputable def o801 (P : Params) : Obj := ⟨(.type "tuple"), none, (.seq #[] 0), #[]⟩
noncomputable def o802 (P : Params) : Obj := ⟨.none, none, (.func ⟨(S "traced"), (S "Net.traced"), defArgs (inClass (topS 65) 6), .stmts (defBody (inClass (topS 65) 6)), defScope (inClass (topS 65) 6), 0, [], .none, .none, .none, .none, none, .none, .none, 0⟩), #[]⟩
noncomputable def o803 (P : Params) : Obj := ⟨(.type "code"), none, (.fields #[(.str (S "traced") 1461), (.str (S "Net.traced") 1462), (.str (S "/claim/cut.py") 1463), (.int (340) 0), (.int (2) 0), (.int (0) 0), (.int (0) 0), (.int (3) 0), (.ref 798), (.bool true), (.int (453) 0), (.ref 799), .none, (.ref 800), (.ref 801), (.ref 802), (.int (1468) 0), (.int (340) 0), (.str (S "/claim/cut.py") 1469)]), #[]⟩
noncomputable def o804 (P : Params) : Obj := ⟨(.type "function"), none, (.func ⟨(S "traced"), (S "Net.traced"), defArgs (inClass (topS 65) 6), .stmts (defBody (inClass (topS 65) 6)), defScope (inClass (topS 65) 6), 3, [], .none, .none, .none, (.str (S "lastbell.nets") 1386), none, (.ref 803), .none, 0⟩), #[]⟩
noncomputable def o805 (P : Params) : Obj := ⟨(.type "tuple"), none, (.seq #[] 0), #[]⟩
noncomputable def o806 (P : Params) : Obj := ⟨.none, none, (.fields #[]), #[]⟩
noncomputable def o807 (P : Params) : Obj := ⟨.none, none, (.func ⟨(S "ways"), (S "Net.ways"), defArgs (inClass (topS 65) 7), .stmts (defBody (inClass (topS 65) 7)), defScope (inClass (topS 65) 7), 0, [], .none, .none, .none, .none, none, .none, .none, 0⟩), #[]⟩
noncomputable def o808 (P : Params) : Obj := ⟨(.type "code"), none, (.fields #[(.str (S "ways") 1471), (.str (S "Net.ways") 1472), (.str (S "/claim/cut.py") 1473), (.int (348) 0), (.int (1) 0), (.int (0) 0), (.int (0) 0), (.int (3) 0), (.ref 805), (.bool true), (.int (453) 0), (.ref 806), .none, .none, .none, (.ref 807), (.int (1474) 0), (.int (348) 0), (.str (S "/claim/cut.py") 1475)]), #[]⟩
noncomputable def o809 (P : Params) : Obj := ⟨(.type "function"), none, (.func ⟨(S "ways"), (S "Net.ways"), defArgs (inClass (topS 65) 7), .stmts (defBody (inClass (topS 65) 7)), defScope (inClass (topS 65) 7), 3, [], .none, .none, .none, (.str (S "lastbell.nets") 1386), none, (.ref 808), .none, 0⟩), #[]⟩
noncomputable def o810 (P : Params) : Obj := ⟨(.type "tuple"), none, (.seq #[] 0), #[]⟩
noncomputable def o811 (P : Params) : Obj := ⟨.none, none, (.fields #[]), #[]⟩
noncomputable def o812 (P : Params) : Obj := ⟨.none, none, (.func ⟨(S "flowing_way"), (S "Net.flowing_way"), defArgs (inClass (topS 65) 8), .stmts (defBody (inClass (topS 65) 8)), defScope (inClass (topS 65) 8), 0, [], .none, .none, .none, .none, none, .none, .none, 0⟩), #[]⟩
noncomputable def o813 (P : Params) : Obj := ⟨(.type "code"), none, (.fields #[(.str (S "flowing_way") 1477), (.str (S "Net.flowing_way") 1478), (.str (S "/claim/cut.py") 1479), (.int (360) 0), (.int (2) 0), (.int (0) 0), (.int (0) 0), (.int (3) 0), (.ref 810), (.bool true), (.int (453) 0), (.ref 811), .none, .none, .none, (.ref 812), (.int (1480) 0), (.int (360) 0), (.str (S "/claim/cut.py") 1481)]), #[]⟩
noncomputable def o814 (P : Params) : Obj := ⟨(.type "function"), none, (.func ⟨(S "flowing_way"), (S "Net.flowing_way"), defArgs (inClass (topS 65) 8), .stmts (defBody (inClass (topS 65) 8)), defScope (inClass (topS 65) 8), 3, [], .none, .none, .none, (.str (S "lastbell.nets") 1386), none, (.ref 813), .none, 0⟩), #[]⟩
noncomputable def o815 (P : Params) : Obj := ⟨(.type "tuple"), none, (.seq #[(.str (S "begins") 1483), (.str (S "ends") 1484), (.str (S "free") 1485), (.str (S "leaving") 1486), (.str (S "lengths") 1487), (.str (S "sent") 1488), (.str (S "sink") 1489), (.str (S "source") 1490)] 0), #[]⟩
noncomputable def o816 (P : Params) : Obj := ⟨(.type "dict"), none, (.dict #[E P "__module__" 1395 (.str (S "lastbell.nets") 1386), E P "__firstlineno__" 1399 (.int (268) 1398), E P "__init__" 1405 (.ref 764), E P "lay" 1416 (.ref 771), E P "fill" 1426 (.ref 778), E P "distances" 1440 (.ref 785), E P "use_up" 1446 (.ref 790), E P "shortest_way" 1460 (.ref 797), E P "traced" 1470 (.ref 804), E P "ways" 1476 (.ref 809), E P "flowing_way" 1482 (.ref 814), E P "__static_attributes__" 1491 (.ref 815), E P "__dict__" 1493 (.ref 818), E P "__weakref__" 1495 (.ref 819), E P "__doc__" 1496 .none] 4), #[]⟩
noncomputable def o817 (P : Params) : Obj := ⟨(.type "type"), none, (.cls ⟨(S "Net"), [(.type "object")], [(.ref 817), (.type "object")], 816, (S "Net"), true, [], [], false, none, false⟩), #[none, none, some (.str (S "Net") 1388), some (.str (S "Net") 1396), some (.builtin "object.__new__"), some (.bool true)]⟩
noncomputable def o818 (P : Params) : Obj := ⟨(.type "getset_descriptor"), none, (.fields #[(.str (S "__dict__") 1492), (.ref 817), (.builtin "function.__dict__"), (.builtin "function.__dict__#set")]), #[]⟩
noncomputable def o819 (P : Params) : Obj := ⟨(.type "getset_descriptor"), none, (.fields #[(.str (S "__weakref__") 1494), (.ref 817), (.builtin "ExceptionGroup.__weakref__"), .none]), #[]⟩
noncomputable def o820 (P : Params) : Obj := ⟨(.type "super"), none, (.fields #[(.ref 817), (.ref 817), (.ref 817)]), #[]⟩
noncomputable def o821 (P : Params) : Obj := ⟨(.type "builtin_function_or_method"), none, (.fields #[(.builtin "object.__init_subclass__"), (.ref 817)]), #[]⟩
noncomputable def o822 (P : Params) : Obj := ⟨(.type "tuple"), none, (.seq #[] 0), #[]⟩
noncomputable def o823 (P : Params) : Obj := ⟨.none, none, (.fields #[]), #[]⟩
noncomputable def o824 (P : Params) : Obj := ⟨.none, none, (.func ⟨(S "lot_net"), (S "lot_net"), defArgs (topS 67), .stmts (defBody (topS 67)), defScope (topS 67), 0, [], .none, .none, .none, .none, none, .none, .none, 0⟩), #[]⟩
noncomputable def o825 (P : Params) : Obj := ⟨(.type "code"), none, (.fields #[(.str (S "lot_net") 1501), (.str (S "lot_net") 1502), (.str (S "/claim/cut.py") 1503), (.int (371) 0), (.int (2) 0), (.int (0) 0), (.int (0) 0), (.int (3) 0), (.ref 822), (.bool true), (.int (453) 0), (.ref 823), .none, .none, .none, (.ref 824), (.int (1504) 0), (.int (371) 0), (.str (S "/claim/cut.py") 1505)]), #[]⟩
noncomputable def o826 (P : Params) : Obj := ⟨(.type "function"), none, (.func ⟨(S "lot_net"), (S "lot_net"), defArgs (topS 67), .stmts (defBody (topS 67)), defScope (topS 67), 3, [], .none, .none, .none, (.str (S "lastbell.lotnets") 1499), none, (.ref 825), .none, 0⟩), #[]⟩
noncomputable def o827 (P : Params) : Obj := ⟨(.type "tuple"), none, (.seq #[] 0), #[]⟩
noncomputable def o828 (P : Params) : Obj := ⟨.none, none, (.fields #[]), #[]⟩
noncomputable def o829 (P : Params) : Obj := ⟨(.type "tuple"), none, (.seq #[(.str (S "house") 1512), (.str (S "lot") 1513), (.str (S "bell") 1514), (.str (S "chosen") 1515)] 0), #[]⟩
noncomputable def o830 (P : Params) : Obj := ⟨(.type "tuple"), none, (.seq #[] 0), #[]⟩
noncomputable def o831 (P : Params) : Obj := ⟨.none, none, (.func ⟨(S "most"), (S "most"), defArgs (topS 69), .stmts (defBody (topS 69)), defScope (topS 69), 0, [], .none, .none, .none, .none, none, .none, .none, 0⟩), #[]⟩
noncomputable def o832 (P : Params) : Obj := ⟨(.type "code"), none, (.fields #[(.str (S "most") 1509), (.str (S "most") 1510), (.str (S "/claim/cut.py") 1511), (.int (384) 0), (.int (3) 0), (.int (0) 0), (.int (0) 0), (.int (3) 0), (.ref 827), (.bool true), (.int (453) 0), (.ref 828), .none, (.ref 829), (.ref 830), (.ref 831), (.int (1516) 0), (.int (384) 0), (.str (S "/claim/cut.py") 1517)]), #[]⟩
noncomputable def o833 (P : Params) : Obj := ⟨(.type "function"), none, (.func ⟨(S "most"), (S "most"), defArgs (topS 69), .stmts (defBody (topS 69)), defScope (topS 69), 3, [], .none, .none, .none, (.str (S "lastbell.lots") 1507), none, (.ref 832), .none, 0⟩), #[]⟩
noncomputable def o834 (P : Params) : Obj := ⟨(.type "tuple"), none, (.seq #[] 0), #[]⟩
noncomputable def o835 (P : Params) : Obj := ⟨.none, none, (.fields #[]), #[]⟩
noncomputable def o836 (P : Params) : Obj := ⟨(.type "tuple"), none, (.seq #[(.str (S "house") 1522), (.str (S "lot") 1523), (.str (S "bell") 1524), (.str (S "chosen") 1525), (.str (S "net") 1526), (.str (S "steps") 1527), (.str (S "many") 1528)] 0), #[]⟩
noncomputable def o837 (P : Params) : Obj := ⟨(.type "tuple"), none, (.seq #[] 0), #[]⟩
noncomputable def o838 (P : Params) : Obj := ⟨.none, none, (.func ⟨(S "most_plan"), (S "most_plan"), defArgs (topS 70), .stmts (defBody (topS 70)), defScope (topS 70), 0, [], .none, .none, .none, .none, none, .none, .none, 0⟩), #[]⟩
noncomputable def o839 (P : Params) : Obj := ⟨(.type "code"), none, (.fields #[(.str (S "most_plan") 1519), (.str (S "most_plan") 1520), (.str (S "/claim/cut.py") 1521), (.int (389) 0), (.int (3) 0), (.int (0) 0), (.int (0) 0), (.int (3) 0), (.ref 834), (.bool true), (.int (453) 0), (.ref 835), .none, (.ref 836), (.ref 837), (.ref 838), (.int (1529) 0), (.int (389) 0), (.str (S "/claim/cut.py") 1530)]), #[]⟩
noncomputable def o840 (P : Params) : Obj := ⟨(.type "function"), none, (.func ⟨(S "most_plan"), (S "most_plan"), defArgs (topS 70), .stmts (defBody (topS 70)), defScope (topS 70), 3, [], .none, .none, .none, (.str (S "lastbell.lots") 1507), none, (.ref 839), .none, 0⟩), #[]⟩
noncomputable def o841 (P : Params) : Obj := ⟨(.type "tuple"), none, (.seq #[] 0), #[]⟩
noncomputable def o842 (P : Params) : Obj := ⟨.none, none, (.fields #[]), #[]⟩
noncomputable def o843 (P : Params) : Obj := ⟨(.type "tuple"), none, (.seq #[(.str (S "house") 1535), (.str (S "lot") 1536), (.str (S "chosen") 1537)] 0), #[]⟩
noncomputable def o844 (P : Params) : Obj := ⟨(.type "tuple"), none, (.seq #[] 0), #[]⟩
noncomputable def o845 (P : Params) : Obj := ⟨.none, none, (.func ⟨(S "levels"), (S "levels"), defArgs (topS 71), .stmts (defBody (topS 71)), defScope (topS 71), 0, [], .none, .none, .none, .none, none, .none, .none, 0⟩), #[]⟩
noncomputable def o846 (P : Params) : Obj := ⟨(.type "code"), none, (.fields #[(.str (S "levels") 1532), (.str (S "levels") 1533), (.str (S "/claim/cut.py") 1534), (.int (398) 0), (.int (2) 0), (.int (0) 0), (.int (0) 0), (.int (3) 0), (.ref 841), (.bool true), (.int (453) 0), (.ref 842), .none, (.ref 843), (.ref 844), (.ref 845), (.int (1538) 0), (.int (398) 0), (.str (S "/claim/cut.py") 1539)]), #[]⟩
noncomputable def o847 (P : Params) : Obj := ⟨(.type "function"), none, (.func ⟨(S "levels"), (S "levels"), defArgs (topS 71), .stmts (defBody (topS 71)), defScope (topS 71), 3, [], .none, .none, .none, (.str (S "lastbell.lots") 1507), none, (.ref 846), .none, 0⟩), #[]⟩
noncomputable def o848 (P : Params) : Obj := ⟨(.type "tuple"), none, (.seq #[] 0), #[]⟩
noncomputable def o849 (P : Params) : Obj := ⟨.none, none, (.fields #[]), #[]⟩
noncomputable def o850 (P : Params) : Obj := ⟨.none, none, (.func ⟨(S "steady"), (S "steady"), defArgs (topS 72), .stmts (defBody (topS 72)), defScope (topS 72), 0, [], .none, .none, .none, .none, none, .none, .none, 0⟩), #[]⟩
noncomputable def o851 (P : Params) : Obj := ⟨(.type "code"), none, (.fields #[(.str (S "steady") 1541), (.str (S "steady") 1542), (.str (S "/claim/cut.py") 1543), (.int (402) 0), (.int (2) 0), (.int (0) 0), (.int (0) 0), (.int (3) 0), (.ref 848), (.bool true), (.int (453) 0), (.ref 849), .none, .none, .none, (.ref 850), (.int (1544) 0), (.int (402) 0), (.str (S "/claim/cut.py") 1545)]), #[]⟩
noncomputable def o852 (P : Params) : Obj := ⟨(.type "function"), none, (.func ⟨(S "steady"), (S "steady"), defArgs (topS 72), .stmts (defBody (topS 72)), defScope (topS 72), 3, [], .none, .none, .none, (.str (S "lastbell.lots") 1507), none, (.ref 851), .none, 0⟩), #[]⟩
noncomputable def o853 (P : Params) : Obj := ⟨(.type "tuple"), none, (.seq #[] 0), #[]⟩
noncomputable def o854 (P : Params) : Obj := ⟨.none, none, (.fields #[]), #[]⟩
noncomputable def o855 (P : Params) : Obj := ⟨(.type "tuple"), none, (.seq #[(.str (S "house") 1550), (.str (S "lot") 1551), (.str (S "amount") 1552), (.str (S "chosen") 1553)] 0), #[]⟩
noncomputable def o856 (P : Params) : Obj := ⟨(.type "tuple"), none, (.seq #[] 0), #[]⟩
noncomputable def o857 (P : Params) : Obj := ⟨.none, none, (.func ⟨(S "lot_bell"), (S "lot_bell"), defArgs (topS 73), .stmts (defBody (topS 73)), defScope (topS 73), 0, [], .none, .none, .none, .none, none, .none, .none, 0⟩), #[]⟩
noncomputable def o858 (P : Params) : Obj := ⟨(.type "code"), none, (.fields #[(.str (S "lot_bell") 1547), (.str (S "lot_bell") 1548), (.str (S "/claim/cut.py") 1549), (.int (404) 0), (.int (3) 0), (.int (0) 0), (.int (0) 0), (.int (3) 0), (.ref 853), (.bool true), (.int (453) 0), (.ref 854), .none, (.ref 855), (.ref 856), (.ref 857), (.int (1554) 0), (.int (404) 0), (.str (S "/claim/cut.py") 1555)]), #[]⟩
noncomputable def o859 (P : Params) : Obj := ⟨(.type "function"), none, (.func ⟨(S "lot_bell"), (S "lot_bell"), defArgs (topS 73), .stmts (defBody (topS 73)), defScope (topS 73), 3, [], .none, .none, .none, (.str (S "lastbell.lots") 1507), none, (.ref 858), .none, 0⟩), #[]⟩
noncomputable def o860 (P : Params) : Obj := ⟨(.type "tuple"), none, (.seq #[] 0), #[]⟩
noncomputable def o861 (P : Params) : Obj := ⟨.none, none, (.fields #[]), #[]⟩
noncomputable def o862 (P : Params) : Obj := ⟨.none, none, (.func ⟨(S "most_by"), (S "most_by"), defArgs (topS 74), .stmts (defBody (topS 74)), defScope (topS 74), 0, [], .none, .none, .none, .none, none, .none, .none, 0⟩), #[]⟩
noncomputable def o863 (P : Params) : Obj := ⟨(.type "code"), none, (.fields #[(.str (S "most_by") 1557), (.str (S "most_by") 1558), (.str (S "/claim/cut.py") 1559), (.int (412) 0), (.int (2) 0), (.int (0) 0), (.int (0) 0), (.int (3) 0), (.ref 860), (.bool true), (.int (453) 0), (.ref 861), .none, .none, .none, (.ref 862), (.int (1560) 0), (.int (412) 0), (.str (S "/claim/cut.py") 1561)]), #[]⟩
noncomputable def o864 (P : Params) : Obj := ⟨(.type "function"), none, (.func ⟨(S "most_by"), (S "most_by"), defArgs (topS 74), .stmts (defBody (topS 74)), defScope (topS 74), 3, [], .none, .none, .none, (.str (S "lastbell.lots") 1507), none, (.ref 863), .none, 0⟩), #[]⟩
noncomputable def o865 (P : Params) : Obj := ⟨(.type "tuple"), none, (.seq #[] 0), #[]⟩
noncomputable def o866 (P : Params) : Obj := ⟨.none, none, (.fields #[]), #[]⟩
noncomputable def o867 (P : Params) : Obj := ⟨(.type "tuple"), none, (.seq #[(.str (S "pairs") 1566), (.str (S "amount") 1567), (.str (S "rate") 1568), (.str (S "lost") 1569), (.str (S "bells") 1570), (.str (S "length") 1571), (.str (S "more") 1572)] 0), #[]⟩
noncomputable def o868 (P : Params) : Obj := ⟨(.type "tuple"), none, (.seq #[] 0), #[]⟩
noncomputable def o869 (P : Params) : Obj := ⟨.none, none, (.func ⟨(S "first_bell"), (S "first_bell"), defArgs (topS 75), .stmts (defBody (topS 75)), defScope (topS 75), 0, [], .none, .none, .none, .none, none, .none, .none, 0⟩), #[]⟩
noncomputable def o870 (P : Params) : Obj := ⟨(.type "code"), none, (.fields #[(.str (S "first_bell") 1563), (.str (S "first_bell") 1564), (.str (S "/claim/cut.py") 1565), (.int (414) 0), (.int (2) 0), (.int (0) 0), (.int (0) 0), (.int (3) 0), (.ref 865), (.bool true), (.int (453) 0), (.ref 866), .none, (.ref 867), (.ref 868), (.ref 869), (.int (1573) 0), (.int (414) 0), (.str (S "/claim/cut.py") 1574)]), #[]⟩
noncomputable def o871 (P : Params) : Obj := ⟨(.type "function"), none, (.func ⟨(S "first_bell"), (S "first_bell"), defArgs (topS 75), .stmts (defBody (topS 75)), defScope (topS 75), 3, [], .none, .none, .none, (.str (S "lastbell.lots") 1507), none, (.ref 870), .none, 0⟩), #[]⟩
noncomputable def o872 (P : Params) : Obj := ⟨(.type "tuple"), none, (.seq #[] 0), #[]⟩
noncomputable def o873 (P : Params) : Obj := ⟨.none, none, (.fields #[]), #[]⟩
noncomputable def o874 (P : Params) : Obj := ⟨.none, none, (.func ⟨(S "repeated"), (S "repeated"), defArgs (topS 76), .stmts (defBody (topS 76)), defScope (topS 76), 0, [], .none, .none, .none, .none, none, .none, .none, 0⟩), #[]⟩
noncomputable def o875 (P : Params) : Obj := ⟨(.type "code"), none, (.fields #[(.str (S "repeated") 1576), (.str (S "repeated") 1577), (.str (S "/claim/cut.py") 1578), (.int (423) 0), (.int (2) 0), (.int (0) 0), (.int (0) 0), (.int (3) 0), (.ref 872), (.bool true), (.int (453) 0), (.ref 873), .none, .none, .none, (.ref 874), (.int (1579) 0), (.int (423) 0), (.str (S "/claim/cut.py") 1580)]), #[]⟩
noncomputable def o876 (P : Params) : Obj := ⟨(.type "function"), none, (.func ⟨(S "repeated"), (S "repeated"), defArgs (topS 76), .stmts (defBody (topS 76)), defScope (topS 76), 3, [], .none, .none, .none, (.str (S "lastbell.lots") 1507), none, (.ref 875), .none, 0⟩), #[]⟩
noncomputable def o877 (P : Params) : Obj := ⟨(.type "tuple"), none, (.seq #[] 0), #[]⟩
noncomputable def o878 (P : Params) : Obj := ⟨.none, none, (.fields #[]), #[]⟩
noncomputable def o879 (P : Params) : Obj := ⟨(.type "tuple"), none, (.seq #[(.str (S "net") 1585), (.str (S "way") 1586), (.str (S "turn") 1587), (.str (S "ends") 1588), (.str (S "arc") 1589)] 0), #[]⟩
noncomputable def o880 (P : Params) : Obj := ⟨(.type "tuple"), none, (.seq #[] 0), #[]⟩
noncomputable def o881 (P : Params) : Obj := ⟨.none, none, (.func ⟨(S "turns_behind"), (S "turns_behind"), defArgs (topS 77), .stmts (defBody (topS 77)), defScope (topS 77), 0, [], .none, .none, .none, .none, none, .none, .none, 0⟩), #[]⟩
noncomputable def o882 (P : Params) : Obj := ⟨(.type "code"), none, (.fields #[(.str (S "turns_behind") 1582), (.str (S "turns_behind") 1583), (.str (S "/claim/cut.py") 1584), (.int (431) 0), (.int (2) 0), (.int (0) 0), (.int (0) 0), (.int (3) 0), (.ref 877), (.bool true), (.int (453) 0), (.ref 878), .none, (.ref 879), (.ref 880), (.ref 881), (.int (1590) 0), (.int (431) 0), (.str (S "/claim/cut.py") 1591)]), #[]⟩
noncomputable def o883 (P : Params) : Obj := ⟨(.type "function"), none, (.func ⟨(S "turns_behind"), (S "turns_behind"), defArgs (topS 77), .stmts (defBody (topS 77)), defScope (topS 77), 3, [], .none, .none, .none, (.str (S "lastbell.lots") 1507), none, (.ref 882), .none, 0⟩), #[]⟩
noncomputable def o884 (P : Params) : Obj := ⟨(.type "tuple"), none, (.seq #[] 0), #[]⟩
noncomputable def o885 (P : Params) : Obj := ⟨.none, none, (.fields #[]), #[]⟩
noncomputable def o886 (P : Params) : Obj := ⟨(.type "tuple"), none, (.seq #[(.str (S "house") 1598), (.str (S "lot") 1599), (.str (S "bell") 1600), (.str (S "thing") 1601), (.str (S "chosen") 1602), (.str (S "door") 1603), (.str (S "sort") 1604), (.str (S "place") 1605), (.str (S "hour") 1606)] 0), #[]⟩
noncomputable def o887 (P : Params) : Obj := ⟨(.type "tuple"), none, (.seq #[] 0), #[]⟩
noncomputable def o888 (P : Params) : Obj := ⟨.none, none, (.func ⟨(S "is_moments"), (S "is_moments"), defArgs (topS 79), .stmts (defBody (topS 79)), defScope (topS 79), 0, [], .none, .none, .none, .none, none, .none, .none, 0⟩), #[]⟩
noncomputable def o889 (P : Params) : Obj := ⟨(.type "code"), none, (.fields #[(.str (S "is_moments") 1595), (.str (S "is_moments") 1596), (.str (S "/claim/cut.py") 1597), (.int (439) 0), (.int (4) 0), (.int (0) 0), (.int (0) 0), (.int (3) 0), (.ref 884), (.bool true), (.int (453) 0), (.ref 885), .none, (.ref 886), (.ref 887), (.ref 888), (.int (1607) 0), (.int (439) 0), (.str (S "/claim/cut.py") 1608)]), #[]⟩
noncomputable def o890 (P : Params) : Obj := ⟨(.type "function"), none, (.func ⟨(S "is_moments"), (S "is_moments"), defArgs (topS 79), .stmts (defBody (topS 79)), defScope (topS 79), 3, [], .none, .none, .none, (.str (S "lastbell.moments") 1593), none, (.ref 889), .none, 0⟩), #[]⟩
noncomputable def o891 (P : Params) : Obj := ⟨(.type "tuple"), none, (.seq #[] 0), #[]⟩
noncomputable def o892 (P : Params) : Obj := ⟨.none, none, (.fields #[]), #[]⟩
noncomputable def o893 (P : Params) : Obj := ⟨.none, none, (.func ⟨(S "is_list_of_moments"), (S "is_list_of_moments"), defArgs (topS 80), .stmts (defBody (topS 80)), defScope (topS 80), 0, [], .none, .none, .none, .none, none, .none, .none, 0⟩), #[]⟩
noncomputable def o894 (P : Params) : Obj := ⟨(.type "code"), none, (.fields #[(.str (S "is_list_of_moments") 1610), (.str (S "is_list_of_moments") 1611), (.str (S "/claim/cut.py") 1612), (.int (451) 0), (.int (2) 0), (.int (0) 0), (.int (0) 0), (.int (3) 0), (.ref 891), (.bool true), (.int (453) 0), (.ref 892), .none, .none, .none, (.ref 893), (.int (1613) 0), (.int (451) 0), (.str (S "/claim/cut.py") 1614)]), #[]⟩
noncomputable def o895 (P : Params) : Obj := ⟨(.type "function"), none, (.func ⟨(S "is_list_of_moments"), (S "is_list_of_moments"), defArgs (topS 80), .stmts (defBody (topS 80)), defScope (topS 80), 3, [], .none, .none, .none, (.str (S "lastbell.moments") 1593), none, (.ref 894), .none, 0⟩), #[]⟩
noncomputable def o896 (P : Params) : Obj := ⟨(.type "tuple"), none, (.seq #[] 0), #[]⟩
noncomputable def o897 (P : Params) : Obj := ⟨.none, none, (.fields #[]), #[]⟩
noncomputable def o898 (P : Params) : Obj := ⟨(.type "tuple"), none, (.seq #[(.str (S "house") 1619), (.str (S "moments") 1620), (.str (S "total") 1621), (.str (S "begin") 1622), (.str (S "end") 1623), (.str (S "length") 1624), (.str (S "room") 1625)] 0), #[]⟩
noncomputable def o899 (P : Params) : Obj := ⟨(.type "tuple"), none, (.seq #[] 0), #[]⟩
noncomputable def o900 (P : Params) : Obj := ⟨.none, none, (.func ⟨(S "worth"), (S "worth"), defArgs (topS 81), .stmts (defBody (topS 81)), defScope (topS 81), 0, [], .none, .none, .none, .none, none, .none, .none, 0⟩), #[]⟩
noncomputable def o901 (P : Params) : Obj := ⟨(.type "code"), none, (.fields #[(.str (S "worth") 1616), (.str (S "worth") 1617), (.str (S "/claim/cut.py") 1618), (.int (453) 0), (.int (2) 0), (.int (0) 0), (.int (0) 0), (.int (3) 0), (.ref 896), (.bool true), (.int (453) 0), (.ref 897), .none, (.ref 898), (.ref 899), (.ref 900), (.int (1626) 0), (.int (453) 0), (.str (S "/claim/cut.py") 1627)]), #[]⟩
noncomputable def o902 (P : Params) : Obj := ⟨(.type "function"), none, (.func ⟨(S "worth"), (S "worth"), defArgs (topS 81), .stmts (defBody (topS 81)), defScope (topS 81), 3, [], .none, .none, .none, (.str (S "lastbell.moments") 1593), none, (.ref 901), .none, 0⟩), #[]⟩
noncomputable def o903 (P : Params) : Obj := ⟨(.type "tuple"), none, (.seq #[] 0), #[]⟩
noncomputable def o904 (P : Params) : Obj := ⟨.none, none, (.fields #[]), #[]⟩
noncomputable def o905 (P : Params) : Obj := ⟨.none, none, (.func ⟨(S "moments_for"), (S "moments_for"), defArgs (topS 82), .stmts (defBody (topS 82)), defScope (topS 82), 0, [], .none, .none, .none, .none, none, .none, .none, 0⟩), #[]⟩
noncomputable def o906 (P : Params) : Obj := ⟨(.type "code"), none, (.fields #[(.str (S "moments_for") 1629), (.str (S "moments_for") 1630), (.str (S "/claim/cut.py") 1631), (.int (461) 0), (.int (3) 0), (.int (0) 0), (.int (0) 0), (.int (3) 0), (.ref 903), (.bool true), (.int (453) 0), (.ref 904), .none, .none, .none, (.ref 905), (.int (1632) 0), (.int (461) 0), (.str (S "/claim/cut.py") 1633)]), #[]⟩
noncomputable def o907 (P : Params) : Obj := ⟨(.type "function"), none, (.func ⟨(S "moments_for"), (S "moments_for"), defArgs (topS 82), .stmts (defBody (topS 82)), defScope (topS 82), 3, [], .none, .none, .none, (.str (S "lastbell.moments") 1593), none, (.ref 906), .none, 0⟩), #[]⟩
noncomputable def o908 (P : Params) : Obj := ⟨(.type "tuple"), none, (.seq #[] 0), #[]⟩
noncomputable def o909 (P : Params) : Obj := ⟨.none, none, (.fields #[]), #[]⟩
noncomputable def o910 (P : Params) : Obj := ⟨(.type "tuple"), none, (.seq #[(.str (S "thing") 1640), (.str (S "last") 1641), (.str (S "before") 1642), (.str (S "pair") 1643), (.str (S "turn") 1644), (.str (S "rate") 1645)] 0), #[]⟩
noncomputable def o911 (P : Params) : Obj := ⟨(.type "tuple"), none, (.seq #[] 0), #[]⟩
noncomputable def o912 (P : Params) : Obj := ⟨.none, none, (.func ⟨(S "is_steps"), (S "is_steps"), defArgs (topS 84), .stmts (defBody (topS 84)), defScope (topS 84), 0, [], .none, .none, .none, .none, none, .none, .none, 0⟩), #[]⟩
noncomputable def o913 (P : Params) : Obj := ⟨(.type "code"), none, (.fields #[(.str (S "is_steps") 1637), (.str (S "is_steps") 1638), (.str (S "/claim/cut.py") 1639), (.int (471) 0), (.int (1) 0), (.int (0) 0), (.int (0) 0), (.int (3) 0), (.ref 908), (.bool true), (.int (453) 0), (.ref 909), .none, (.ref 910), (.ref 911), (.ref 912), (.int (1646) 0), (.int (471) 0), (.str (S "/claim/cut.py") 1647)]), #[]⟩
noncomputable def o914 (P : Params) : Obj := ⟨(.type "function"), none, (.func ⟨(S "is_steps"), (S "is_steps"), defArgs (topS 84), .stmts (defBody (topS 84)), defScope (topS 84), 3, [], .none, .none, .none, (.str (S "lastbell.steps") 1635), none, (.ref 913), .none, 0⟩), #[]⟩
noncomputable def o915 (P : Params) : Obj := ⟨(.type "tuple"), none, (.seq #[] 0), #[]⟩
noncomputable def o916 (P : Params) : Obj := ⟨.none, none, (.fields #[]), #[]⟩
noncomputable def o917 (P : Params) : Obj := ⟨(.type "tuple"), none, (.seq #[(.str (S "steps") 1652)] 0), #[]⟩
noncomputable def o918 (P : Params) : Obj := ⟨(.type "tuple"), none, (.seq #[] 0), #[]⟩
noncomputable def o919 (P : Params) : Obj := ⟨.none, none, (.func ⟨(S "need_steps"), (S "need_steps"), defArgs (topS 85), .stmts (defBody (topS 85)), defScope (topS 85), 0, [], .none, .none, .none, .none, none, .none, .none, 0⟩), #[]⟩
noncomputable def o920 (P : Params) : Obj := ⟨(.type "code"), none, (.fields #[(.str (S "need_steps") 1649), (.str (S "need_steps") 1650), (.str (S "/claim/cut.py") 1651), (.int (485) 0), (.int (1) 0), (.int (0) 0), (.int (0) 0), (.int (3) 0), (.ref 915), (.bool true), (.int (453) 0), (.ref 916), .none, (.ref 917), (.ref 918), (.ref 919), (.int (1653) 0), (.int (485) 0), (.str (S "/claim/cut.py") 1654)]), #[]⟩
noncomputable def o921 (P : Params) : Obj := ⟨(.type "function"), none, (.func ⟨(S "need_steps"), (S "need_steps"), defArgs (topS 85), .stmts (defBody (topS 85)), defScope (topS 85), 3, [], .none, .none, .none, (.str (S "lastbell.steps") 1635), none, (.ref 920), .none, 0⟩), #[]⟩
noncomputable def o922 (P : Params) : Obj := ⟨(.type "tuple"), none, (.seq #[] 0), #[]⟩
noncomputable def o923 (P : Params) : Obj := ⟨.none, none, (.fields #[]), #[]⟩
noncomputable def o924 (P : Params) : Obj := ⟨(.type "tuple"), none, (.seq #[(.str (S "steps") 1659), (.str (S "turn") 1660), (.str (S "total") 1661), (.str (S "start") 1662), (.str (S "rate") 1663), (.str (S "end") 1664), (.str (S "_") 1665)] 0), #[]⟩
noncomputable def o925 (P : Params) : Obj := ⟨(.type "tuple"), none, (.seq #[] 0), #[]⟩
noncomputable def o926 (P : Params) : Obj := ⟨.none, none, (.func ⟨(S "passed_ahead"), (S "passed_ahead"), defArgs (topS 86), .stmts (defBody (topS 86)), defScope (topS 86), 0, [], .none, .none, .none, .none, none, .none, .none, 0⟩), #[]⟩
noncomputable def o927 (P : Params) : Obj := ⟨(.type "code"), none, (.fields #[(.str (S "passed_ahead") 1656), (.str (S "passed_ahead") 1657), (.str (S "/claim/cut.py") 1658), (.int (488) 0), (.int (2) 0), (.int (0) 0), (.int (0) 0), (.int (3) 0), (.ref 922), (.bool true), (.int (453) 0), (.ref 923), .none, (.ref 924), (.ref 925), (.ref 926), (.int (1666) 0), (.int (488) 0), (.str (S "/claim/cut.py") 1667)]), #[]⟩
noncomputable def o928 (P : Params) : Obj := ⟨(.type "function"), none, (.func ⟨(S "passed_ahead"), (S "passed_ahead"), defArgs (topS 86), .stmts (defBody (topS 86)), defScope (topS 86), 3, [], .none, .none, .none, (.str (S "lastbell.steps") 1635), none, (.ref 927), .none, 0⟩), #[]⟩
noncomputable def o929 (P : Params) : Obj := ⟨(.type "tuple"), none, (.seq #[] 0), #[]⟩
noncomputable def o930 (P : Params) : Obj := ⟨.none, none, (.fields #[]), #[]⟩
noncomputable def o931 (P : Params) : Obj := ⟨.none, none, (.func ⟨(S "later"), (S "later"), defArgs (topS 87), .stmts (defBody (topS 87)), defScope (topS 87), 0, [], .none, .none, .none, .none, none, .none, .none, 0⟩), #[]⟩
noncomputable def o932 (P : Params) : Obj := ⟨(.type "code"), none, (.fields #[(.str (S "later") 1669), (.str (S "later") 1670), (.str (S "/claim/cut.py") 1671), (.int (494) 0), (.int (2) 0), (.int (0) 0), (.int (0) 0), (.int (3) 0), (.ref 929), (.bool true), (.int (453) 0), (.ref 930), .none, .none, .none, (.ref 931), (.int (1672) 0), (.int (494) 0), (.str (S "/claim/cut.py") 1673)]), #[]⟩
noncomputable def o933 (P : Params) : Obj := ⟨(.type "function"), none, (.func ⟨(S "later"), (S "later"), defArgs (topS 87), .stmts (defBody (topS 87)), defScope (topS 87), 3, [], .none, .none, .none, (.str (S "lastbell.steps") 1635), none, (.ref 932), .none, 0⟩), #[]⟩
noncomputable def o934 (P : Params) : Obj := ⟨(.type "tuple"), none, (.seq #[(.str (S "door") 1677), (.str (S "road") 1678), (.str (S "place") 1679)] 0), #[]⟩
noncomputable def o935 (P : Params) : Obj := ⟨(.type "tuple"), none, (.seq #[] 0), #[]⟩
noncomputable def o936 (P : Params) : Obj := ⟨.none, none, (.fields #[]), #[]⟩
noncomputable def o937 (P : Params) : Obj := ⟨(.type "tuple"), none, (.seq #[(.str (S "house") 1684), (.str (S "thing") 1685), (.str (S "doors") 1686), (.str (S "roads") 1687), (.str (S "faults") 1688), (.str (S "turn") 1689), (.str (S "rank") 1690), (.str (S "number") 1691)] 0), #[]⟩
noncomputable def o938 (P : Params) : Obj := ⟨(.type "tuple"), none, (.seq #[] 0), #[]⟩
noncomputable def o939 (P : Params) : Obj := ⟨.none, none, (.func ⟨(S "plan_fault"), (S "plan_fault"), defArgs (topS 90), .stmts (defBody (topS 90)), defScope (topS 90), 0, [], .none, .none, .none, .none, none, .none, .none, 0⟩), #[]⟩
noncomputable def o940 (P : Params) : Obj := ⟨(.type "code"), none, (.fields #[(.str (S "plan_fault") 1681), (.str (S "plan_fault") 1682), (.str (S "/claim/cut.py") 1683), (.int (501) 0), (.int (2) 0), (.int (0) 0), (.int (0) 0), (.int (3) 0), (.ref 935), (.bool true), (.int (453) 0), (.ref 936), .none, (.ref 937), (.ref 938), (.ref 939), (.int (1692) 0), (.int (501) 0), (.str (S "/claim/cut.py") 1693)]), #[]⟩
noncomputable def o941 (P : Params) : Obj := ⟨(.type "function"), none, (.func ⟨(S "plan_fault"), (S "plan_fault"), defArgs (topS 90), .stmts (defBody (topS 90)), defScope (topS 90), 3, [], .none, .none, .none, (.str (S "lastbell.plans") 1675), none, (.ref 940), .none, 0⟩), #[]⟩
noncomputable def o942 (P : Params) : Obj := ⟨(.type "tuple"), none, (.seq #[] 0), #[]⟩
noncomputable def o943 (P : Params) : Obj := ⟨.none, none, (.fields #[]), #[]⟩
noncomputable def o944 (P : Params) : Obj := ⟨(.type "tuple"), none, (.seq #[(.str (S "house") 1698), (.str (S "thing") 1699)] 0), #[]⟩
noncomputable def o945 (P : Params) : Obj := ⟨(.type "tuple"), none, (.seq #[] 0), #[]⟩
noncomputable def o946 (P : Params) : Obj := ⟨.none, none, (.func ⟨(S "is_plan"), (S "is_plan"), defArgs (topS 91), .stmts (defBody (topS 91)), defScope (topS 91), 0, [], .none, .none, .none, .none, none, .none, .none, 0⟩), #[]⟩
noncomputable def o947 (P : Params) : Obj := ⟨(.type "code"), none, (.fields #[(.str (S "is_plan") 1695), (.str (S "is_plan") 1696), (.str (S "/claim/cut.py") 1697), (.int (511) 0), (.int (2) 0), (.int (0) 0), (.int (0) 0), (.int (3) 0), (.ref 942), (.bool true), (.int (453) 0), (.ref 943), .none, (.ref 944), (.ref 945), (.ref 946), (.int (1700) 0), (.int (511) 0), (.str (S "/claim/cut.py") 1701)]), #[]⟩
noncomputable def o948 (P : Params) : Obj := ⟨(.type "function"), none, (.func ⟨(S "is_plan"), (S "is_plan"), defArgs (topS 91), .stmts (defBody (topS 91)), defScope (topS 91), 3, [], .none, .none, .none, (.str (S "lastbell.plans") 1675), none, (.ref 947), .none, 0⟩), #[]⟩
noncomputable def o949 (P : Params) : Obj := ⟨(.type "tuple"), none, (.seq #[] 0), #[]⟩
noncomputable def o950 (P : Params) : Obj := ⟨.none, none, (.fields #[]), #[]⟩
noncomputable def o951 (P : Params) : Obj := ⟨(.type "tuple"), none, (.seq #[(.str (S "house") 1706), (.str (S "thing") 1707), (.str (S "doors") 1708), (.str (S "roads") 1709)] 0), #[]⟩
noncomputable def o952 (P : Params) : Obj := ⟨(.type "tuple"), none, (.seq #[] 0), #[]⟩
noncomputable def o953 (P : Params) : Obj := ⟨.none, none, (.func ⟨(S "has_form"), (S "has_form"), defArgs (topS 92), .stmts (defBody (topS 92)), defScope (topS 92), 0, [], .none, .none, .none, .none, none, .none, .none, 0⟩), #[]⟩
noncomputable def o954 (P : Params) : Obj := ⟨(.type "code"), none, (.fields #[(.str (S "has_form") 1703), (.str (S "has_form") 1704), (.str (S "/claim/cut.py") 1705), (.int (513) 0), (.int (2) 0), (.int (0) 0), (.int (0) 0), (.int (3) 0), (.ref 949), (.bool true), (.int (453) 0), (.ref 950), .none, (.ref 951), (.ref 952), (.ref 953), (.int (1710) 0), (.int (513) 0), (.str (S "/claim/cut.py") 1711)]), #[]⟩
noncomputable def o955 (P : Params) : Obj := ⟨(.type "function"), none, (.func ⟨(S "has_form"), (S "has_form"), defArgs (topS 92), .stmts (defBody (topS 92)), defScope (topS 92), 3, [], .none, .none, .none, (.str (S "lastbell.plans") 1675), none, (.ref 954), .none, 0⟩), #[]⟩
noncomputable def o956 (P : Params) : Obj := ⟨(.type "tuple"), none, (.seq #[] 0), #[]⟩
noncomputable def o957 (P : Params) : Obj := ⟨.none, none, (.fields #[]), #[]⟩
noncomputable def o958 (P : Params) : Obj := ⟨.none, none, (.func ⟨(S "are_steps"), (S "are_steps"), defArgs (topS 93), .stmts (defBody (topS 93)), defScope (topS 93), 0, [], .none, .none, .none, .none, none, .none, .none, 0⟩), #[]⟩
noncomputable def o959 (P : Params) : Obj := ⟨(.type "code"), none, (.fields #[(.str (S "are_steps") 1713), (.str (S "are_steps") 1714), (.str (S "/claim/cut.py") 1715), (.int (518) 0), (.int (2) 0), (.int (0) 0), (.int (0) 0), (.int (3) 0), (.ref 956), (.bool true), (.int (453) 0), (.ref 957), .none, .none, .none, (.ref 958), (.int (1716) 0), (.int (518) 0), (.str (S "/claim/cut.py") 1717)]), #[]⟩
noncomputable def o960 (P : Params) : Obj := ⟨(.type "function"), none, (.func ⟨(S "are_steps"), (S "are_steps"), defArgs (topS 93), .stmts (defBody (topS 93)), defScope (topS 93), 3, [], .none, .none, .none, (.str (S "lastbell.plans") 1675), none, (.ref 959), .none, 0⟩), #[]⟩
noncomputable def o961 (P : Params) : Obj := ⟨(.type "tuple"), none, (.seq #[] 0), #[]⟩
noncomputable def o962 (P : Params) : Obj := ⟨.none, none, (.fields #[]), #[]⟩
noncomputable def o963 (P : Params) : Obj := ⟨(.type "tuple"), none, (.seq #[(.str (S "house") 1722), (.str (S "doors") 1723), (.str (S "faults") 1724), (.str (S "door") 1725), (.str (S "sort") 1726), (.str (S "_") 1727), (.str (S "hour") 1728)] 0), #[]⟩
noncomputable def o964 (P : Params) : Obj := ⟨(.type "tuple"), none, (.seq #[] 0), #[]⟩
noncomputable def o965 (P : Params) : Obj := ⟨.none, none, (.func ⟨(S "door_faults"), (S "door_faults"), defArgs (topS 94), .stmts (defBody (topS 94)), defScope (topS 94), 0, [], .none, .none, .none, .none, none, .none, .none, 0⟩), #[]⟩
noncomputable def o966 (P : Params) : Obj := ⟨(.type "code"), none, (.fields #[(.str (S "door_faults") 1719), (.str (S "door_faults") 1720), (.str (S "/claim/cut.py") 1721), (.int (520) 0), (.int (2) 0), (.int (0) 0), (.int (0) 0), (.int (3) 0), (.ref 961), (.bool true), (.int (453) 0), (.ref 962), .none, (.ref 963), (.ref 964), (.ref 965), (.int (1729) 0), (.int (520) 0), (.str (S "/claim/cut.py") 1730)]), #[]⟩
noncomputable def o967 (P : Params) : Obj := ⟨(.type "function"), none, (.func ⟨(S "door_faults"), (S "door_faults"), defArgs (topS 94), .stmts (defBody (topS 94)), defScope (topS 94), 3, [], .none, .none, .none, (.str (S "lastbell.plans") 1675), none, (.ref 966), .none, 0⟩), #[]⟩
noncomputable def o968 (P : Params) : Obj := ⟨(.type "tuple"), none, (.seq #[] 0), #[]⟩
noncomputable def o969 (P : Params) : Obj := ⟨.none, none, (.fields #[]), #[]⟩
noncomputable def o970 (P : Params) : Obj := ⟨.none, none, (.func ⟨(S "road_faults"), (S "road_faults"), defArgs (topS 95), .stmts (defBody (topS 95)), defScope (topS 95), 0, [], .none, .none, .none, .none, none, .none, .none, 0⟩), #[]⟩
noncomputable def o971 (P : Params) : Obj := ⟨(.type "code"), none, (.fields #[(.str (S "road_faults") 1732), (.str (S "road_faults") 1733), (.str (S "/claim/cut.py") 1734), (.int (526) 0), (.int (2) 0), (.int (0) 0), (.int (0) 0), (.int (3) 0), (.ref 968), (.bool true), (.int (453) 0), (.ref 969), .none, .none, .none, (.ref 970), (.int (1735) 0), (.int (526) 0), (.str (S "/claim/cut.py") 1736)]), #[]⟩
noncomputable def o972 (P : Params) : Obj := ⟨(.type "function"), none, (.func ⟨(S "road_faults"), (S "road_faults"), defArgs (topS 95), .stmts (defBody (topS 95)), defScope (topS 95), 3, [], .none, .none, .none, (.str (S "lastbell.plans") 1675), none, (.ref 971), .none, 0⟩), #[]⟩
noncomputable def o973 (P : Params) : Obj := ⟨(.type "tuple"), none, (.seq #[] 0), #[]⟩
noncomputable def o974 (P : Params) : Obj := ⟨.none, none, (.fields #[]), #[]⟩
noncomputable def o975 (P : Params) : Obj := ⟨(.type "tuple"), none, (.seq #[(.str (S "house") 1741), (.str (S "doors") 1742), (.str (S "roads") 1743), (.str (S "faults") 1744), (.str (S "place") 1745), (.str (S "changes") 1746), (.str (S "uneven") 1747)] 0), #[]⟩
noncomputable def o976 (P : Params) : Obj := ⟨(.type "tuple"), none, (.seq #[] 0), #[]⟩
noncomputable def o977 (P : Params) : Obj := ⟨.none, none, (.func ⟨(S "place_faults"), (S "place_faults"), defArgs (topS 96), .stmts (defBody (topS 96)), defScope (topS 96), 0, [], .none, .none, .none, .none, none, .none, .none, 0⟩), #[]⟩
noncomputable def o978 (P : Params) : Obj := ⟨(.type "code"), none, (.fields #[(.str (S "place_faults") 1738), (.str (S "place_faults") 1739), (.str (S "/claim/cut.py") 1740), (.int (533) 0), (.int (3) 0), (.int (0) 0), (.int (0) 0), (.int (3) 0), (.ref 973), (.bool true), (.int (453) 0), (.ref 974), .none, (.ref 975), (.ref 976), (.ref 977), (.int (1748) 0), (.int (533) 0), (.str (S "/claim/cut.py") 1749)]), #[]⟩
noncomputable def o979 (P : Params) : Obj := ⟨(.type "function"), none, (.func ⟨(S "place_faults"), (S "place_faults"), defArgs (topS 96), .stmts (defBody (topS 96)), defScope (topS 96), 3, [], .none, .none, .none, (.str (S "lastbell.plans") 1675), none, (.ref 978), .none, 0⟩), #[]⟩
noncomputable def o980 (P : Params) : Obj := ⟨(.type "tuple"), none, (.seq #[] 0), #[]⟩
noncomputable def o981 (P : Params) : Obj := ⟨.none, none, (.fields #[]), #[]⟩
noncomputable def o982 (P : Params) : Obj := ⟨.none, none, (.func ⟨(S "place_changes"), (S "place_changes"), defArgs (topS 97), .stmts (defBody (topS 97)), defScope (topS 97), 0, [], .none, .none, .none, .none, none, .none, .none, 0⟩), #[]⟩
noncomputable def o983 (P : Params) : Obj := ⟨(.type "code"), none, (.fields #[(.str (S "place_changes") 1751), (.str (S "place_changes") 1752), (.str (S "/claim/cut.py") 1753), (.int (540) 0), (.int (3) 0), (.int (0) 0), (.int (0) 0), (.int (3) 0), (.ref 980), (.bool true), (.int (453) 0), (.ref 981), .none, .none, .none, (.ref 982), (.int (1754) 0), (.int (540) 0), (.str (S "/claim/cut.py") 1755)]), #[]⟩
noncomputable def o984 (P : Params) : Obj := ⟨(.type "function"), none, (.func ⟨(S "place_changes"), (S "place_changes"), defArgs (topS 97), .stmts (defBody (topS 97)), defScope (topS 97), 3, [], .none, .none, .none, (.str (S "lastbell.plans") 1675), none, (.ref 983), .none, 0⟩), #[]⟩
noncomputable def o985 (P : Params) : Obj := ⟨(.type "tuple"), none, (.seq #[] 0), #[]⟩
noncomputable def o986 (P : Params) : Obj := ⟨.none, none, (.fields #[]), #[]⟩
noncomputable def o987 (P : Params) : Obj := ⟨(.type "tuple"), none, (.seq #[(.str (S "house") 1760), (.str (S "plan") 1761)] 0), #[]⟩
noncomputable def o988 (P : Params) : Obj := ⟨(.type "tuple"), none, (.seq #[] 0), #[]⟩
noncomputable def o989 (P : Params) : Obj := ⟨.none, none, (.func ⟨(S "need_plan"), (S "need_plan"), defArgs (topS 98), .stmts (defBody (topS 98)), defScope (topS 98), 0, [], .none, .none, .none, .none, none, .none, .none, 0⟩), #[]⟩
noncomputable def o990 (P : Params) : Obj := ⟨(.type "code"), none, (.fields #[(.str (S "need_plan") 1757), (.str (S "need_plan") 1758), (.str (S "/claim/cut.py") 1759), (.int (548) 0), (.int (2) 0), (.int (0) 0), (.int (0) 0), (.int (3) 0), (.ref 985), (.bool true), (.int (453) 0), (.ref 986), .none, (.ref 987), (.ref 988), (.ref 989), (.int (1762) 0), (.int (548) 0), (.str (S "/claim/cut.py") 1763)]), #[]⟩
noncomputable def o991 (P : Params) : Obj := ⟨(.type "function"), none, (.func ⟨(S "need_plan"), (S "need_plan"), defArgs (topS 98), .stmts (defBody (topS 98)), defScope (topS 98), 3, [], .none, .none, .none, (.str (S "lastbell.plans") 1675), none, (.ref 990), .none, 0⟩), #[]⟩
noncomputable def o992 (P : Params) : Obj := ⟨(.type "tuple"), none, (.seq #[] 0), #[]⟩
noncomputable def o993 (P : Params) : Obj := ⟨.none, none, (.fields #[]), #[]⟩
noncomputable def o994 (P : Params) : Obj := ⟨.none, none, (.func ⟨(S "brings"), (S "brings"), defArgs (topS 99), .stmts (defBody (topS 99)), defScope (topS 99), 0, [], .none, .none, .none, .none, none, .none, .none, 0⟩), #[]⟩
noncomputable def o995 (P : Params) : Obj := ⟨(.type "code"), none, (.fields #[(.str (S "brings") 1765), (.str (S "brings") 1766), (.str (S "/claim/cut.py") 1767), (.int (551) 0), (.int (2) 0), (.int (0) 0), (.int (0) 0), (.int (3) 0), (.ref 992), (.bool true), (.int (453) 0), (.ref 993), .none, .none, .none, (.ref 994), (.int (1768) 0), (.int (551) 0), (.str (S "/claim/cut.py") 1769)]), #[]⟩
noncomputable def o996 (P : Params) : Obj := ⟨(.type "function"), none, (.func ⟨(S "brings"), (S "brings"), defArgs (topS 99), .stmts (defBody (topS 99)), defScope (topS 99), 3, [], .none, .none, .none, (.str (S "lastbell.plans") 1675), none, (.ref 995), .none, 0⟩), #[]⟩
noncomputable def o997 (P : Params) : Obj := ⟨(.type "tuple"), none, (.seq #[] 0), #[]⟩
noncomputable def o998 (P : Params) : Obj := ⟨.none, none, (.fields #[]), #[]⟩
noncomputable def o999 (P : Params) : Obj := ⟨(.type "tuple"), none, (.seq #[(.str (S "house") 1774), (.str (S "plan") 1775), (.str (S "bells") 1776), (.str (S "sort") 1777), (.str (S "_") 1778), (.str (S "hour") 1779), (.str (S "steps") 1780)] 0), #[]⟩
noncomputable def o1000 (P : Params) : Obj := ⟨(.type "tuple"), none, (.seq #[] 0), #[]⟩
noncomputable def o1001 (P : Params) : Obj := ⟨.none, none, (.func ⟨(S "bell_of"), (S "bell_of"), defArgs (topS 100), .stmts (defBody (topS 100)), defScope (topS 100), 0, [], .none, .none, .none, .none, none, .none, .none, 0⟩), #[]⟩
noncomputable def o1002 (P : Params) : Obj := ⟨(.type "code"), none, (.fields #[(.str (S "bell_of") 1771), (.str (S "bell_of") 1772), (.str (S "/claim/cut.py") 1773), (.int (555) 0), (.int (2) 0), (.int (0) 0), (.int (0) 0), (.int (3) 0), (.ref 997), (.bool true), (.int (453) 0), (.ref 998), .none, (.ref 999), (.ref 1000), (.ref 1001), (.int (1781) 0), (.int (555) 0), (.str (S "/claim/cut.py") 1782)]), #[]⟩
noncomputable def o1003 (P : Params) : Obj := ⟨(.type "function"), none, (.func ⟨(S "bell_of"), (S "bell_of"), defArgs (topS 100), .stmts (defBody (topS 100)), defScope (topS 100), 3, [], .none, .none, .none, (.str (S "lastbell.plans") 1675), none, (.ref 1002), .none, 0⟩), #[]⟩
noncomputable def o1004 (P : Params) : Obj := ⟨(.type "tuple"), none, (.seq #[] 0), #[]⟩
noncomputable def o1005 (P : Params) : Obj := ⟨.none, none, (.fields #[]), #[]⟩
noncomputable def o1006 (P : Params) : Obj := ⟨(.type "tuple"), none, (.seq #[(.str (S "house") 1787), (.str (S "plan") 1788), (.str (S "turn") 1789), (.str (S "told") 1790), (.str (S "_") 1791), (.str (S "length") 1792), (.str (S "steps") 1793)] 0), #[]⟩
noncomputable def o1007 (P : Params) : Obj := ⟨(.type "tuple"), none, (.seq #[] 0), #[]⟩
noncomputable def o1008 (P : Params) : Obj := ⟨.none, none, (.func ⟨(S "on_roads"), (S "on_roads"), defArgs (topS 101), .stmts (defBody (topS 101)), defScope (topS 101), 0, [], .none, .none, .none, .none, none, .none, .none, 0⟩), #[]⟩
noncomputable def o1009 (P : Params) : Obj := ⟨(.type "code"), none, (.fields #[(.str (S "on_roads") 1784), (.str (S "on_roads") 1785), (.str (S "/claim/cut.py") 1786), (.int (563) 0), (.int (3) 0), (.int (0) 0), (.int (0) 0), (.int (3) 0), (.ref 1004), (.bool true), (.int (453) 0), (.ref 1005), .none, (.ref 1006), (.ref 1007), (.ref 1008), (.int (1794) 0), (.int (563) 0), (.str (S "/claim/cut.py") 1795)]), #[]⟩
noncomputable def o1010 (P : Params) : Obj := ⟨(.type "function"), none, (.func ⟨(S "on_roads"), (S "on_roads"), defArgs (topS 101), .stmts (defBody (topS 101)), defScope (topS 101), 3, [], .none, .none, .none, (.str (S "lastbell.plans") 1675), none, (.ref 1009), .none, 0⟩), #[]⟩
noncomputable def o1011 (P : Params) : Obj := ⟨(.type "tuple"), none, (.seq #[] 0), #[]⟩
noncomputable def o1012 (P : Params) : Obj := ⟨.none, none, (.fields #[]), #[]⟩
noncomputable def o1013 (P : Params) : Obj := ⟨(.type "tuple"), none, (.seq #[(.str (S "house") 1802), (.str (S "wishes") 1803), (.str (S "lot") 1804), (.str (S "chosen") 1805)] 0), #[]⟩
noncomputable def o1014 (P : Params) : Obj := ⟨(.type "tuple"), none, (.seq #[] 0), #[]⟩
noncomputable def o1015 (P : Params) : Obj := ⟨.none, none, (.func ⟨(S "asked"), (S "asked"), defArgs (topS 103), .stmts (defBody (topS 103)), defScope (topS 103), 0, [], .none, .none, .none, .none, none, .none, .none, 0⟩), #[]⟩
noncomputable def o1016 (P : Params) : Obj := ⟨(.type "code"), none, (.fields #[(.str (S "asked") 1799), (.str (S "asked") 1800), (.str (S "/claim/cut.py") 1801), (.int (572) 0), (.int (3) 0), (.int (0) 0), (.int (0) 0), (.int (3) 0), (.ref 1011), (.bool true), (.int (453) 0), (.ref 1012), .none, (.ref 1013), (.ref 1014), (.ref 1015), (.int (1806) 0), (.int (572) 0), (.str (S "/claim/cut.py") 1807)]), #[]⟩
noncomputable def o1017 (P : Params) : Obj := ⟨(.type "function"), none, (.func ⟨(S "asked"), (S "asked"), defArgs (topS 103), .stmts (defBody (topS 103)), defScope (topS 103), 3, [], .none, .none, .none, (.str (S "lastbell.kept") 1797), none, (.ref 1016), .none, 0⟩), #[]⟩
noncomputable def o1018 (P : Params) : Obj := ⟨(.type "tuple"), none, (.seq #[] 0), #[]⟩
noncomputable def o1019 (P : Params) : Obj := ⟨.none, none, (.fields #[]), #[]⟩
noncomputable def o1020 (P : Params) : Obj := ⟨.none, none, (.func ⟨(S "lacking"), (S "lacking"), defArgs (topS 104), .stmts (defBody (topS 104)), defScope (topS 104), 0, [], .none, .none, .none, .none, none, .none, .none, 0⟩), #[]⟩
noncomputable def o1021 (P : Params) : Obj := ⟨(.type "code"), none, (.fields #[(.str (S "lacking") 1809), (.str (S "lacking") 1810), (.str (S "/claim/cut.py") 1811), (.int (577) 0), (.int (3) 0), (.int (0) 0), (.int (0) 0), (.int (3) 0), (.ref 1018), (.bool true), (.int (453) 0), (.ref 1019), .none, .none, .none, (.ref 1020), (.int (1812) 0), (.int (577) 0), (.str (S "/claim/cut.py") 1813)]), #[]⟩
noncomputable def o1022 (P : Params) : Obj := ⟨(.type "function"), none, (.func ⟨(S "lacking"), (S "lacking"), defArgs (topS 104), .stmts (defBody (topS 104)), defScope (topS 104), 3, [], .none, .none, .none, (.str (S "lastbell.kept") 1797), none, (.ref 1021), .none, 0⟩), #[]⟩
noncomputable def o1023 (P : Params) : Obj := ⟨(.type "tuple"), none, (.seq #[] 0), #[]⟩
noncomputable def o1024 (P : Params) : Obj := ⟨.none, none, (.fields #[]), #[]⟩
noncomputable def o1025 (P : Params) : Obj := ⟨.none, none, (.func ⟨(S "spares"), (S "spares"), defArgs (topS 105), .stmts (defBody (topS 105)), defScope (topS 105), 0, [], .none, .none, .none, .none, none, .none, .none, 0⟩), #[]⟩
noncomputable def o1026 (P : Params) : Obj := ⟨(.type "code"), none, (.fields #[(.str (S "spares") 1815), (.str (S "spares") 1816), (.str (S "/claim/cut.py") 1817), (.int (582) 0), (.int (3) 0), (.int (0) 0), (.int (0) 0), (.int (3) 0), (.ref 1023), (.bool true), (.int (453) 0), (.ref 1024), .none, .none, .none, (.ref 1025), (.int (1818) 0), (.int (582) 0), (.str (S "/claim/cut.py") 1819)]), #[]⟩
noncomputable def o1027 (P : Params) : Obj := ⟨(.type "function"), none, (.func ⟨(S "spares"), (S "spares"), defArgs (topS 105), .stmts (defBody (topS 105)), defScope (topS 105), 3, [], .none, .none, .none, (.str (S "lastbell.kept") 1797), none, (.ref 1026), .none, 0⟩), #[]⟩
noncomputable def o1028 (P : Params) : Obj := ⟨(.type "tuple"), none, (.seq #[] 0), #[]⟩
noncomputable def o1029 (P : Params) : Obj := ⟨.none, none, (.fields #[]), #[]⟩
noncomputable def o1030 (P : Params) : Obj := ⟨(.type "tuple"), none, (.seq #[(.str (S "house") 1824), (.str (S "wishes") 1825), (.str (S "bell") 1826), (.str (S "lots") 1827), (.str (S "lot") 1828)] 0), #[]⟩
noncomputable def o1031 (P : Params) : Obj := ⟨(.type "tuple"), none, (.seq #[] 0), #[]⟩
noncomputable def o1032 (P : Params) : Obj := ⟨.none, none, (.func ⟨(S "lot_for"), (S "lot_for"), defArgs (topS 106), .stmts (defBody (topS 106)), defScope (topS 106), 0, [], .none, .none, .none, .none, none, .none, .none, 0⟩), #[]⟩
noncomputable def o1033 (P : Params) : Obj := ⟨(.type "code"), none, (.fields #[(.str (S "lot_for") 1821), (.str (S "lot_for") 1822), (.str (S "/claim/cut.py") 1823), (.int (584) 0), (.int (3) 0), (.int (0) 0), (.int (0) 0), (.int (3) 0), (.ref 1028), (.bool true), (.int (453) 0), (.ref 1029), .none, (.ref 1030), (.ref 1031), (.ref 1032), (.int (1829) 0), (.int (584) 0), (.str (S "/claim/cut.py") 1830)]), #[]⟩
noncomputable def o1034 (P : Params) : Obj := ⟨(.type "function"), none, (.func ⟨(S "lot_for"), (S "lot_for"), defArgs (topS 106), .stmts (defBody (topS 106)), defScope (topS 106), 3, [], .none, .none, .none, (.str (S "lastbell.kept") 1797), none, (.ref 1033), .none, 0⟩), #[]⟩
noncomputable def o1035 (P : Params) : Obj := ⟨(.type "tuple"), none, (.seq #[] 0), #[]⟩
noncomputable def o1036 (P : Params) : Obj := ⟨.none, none, (.fields #[]), #[]⟩
noncomputable def o1037 (P : Params) : Obj := ⟨(.type "tuple"), none, (.seq #[(.str (S "house") 1835), (.str (S "wishes") 1836), (.str (S "bell") 1837), (.str (S "thing") 1838), (.str (S "lot") 1839), (.str (S "moments") 1840)] 0), #[]⟩
noncomputable def o1038 (P : Params) : Obj := ⟨(.type "tuple"), none, (.seq #[] 0), #[]⟩
noncomputable def o1039 (P : Params) : Obj := ⟨.none, none, (.func ⟨(S "is_lot_for"), (S "is_lot_for"), defArgs (topS 107), .stmts (defBody (topS 107)), defScope (topS 107), 0, [], .none, .none, .none, .none, none, .none, .none, 0⟩), #[]⟩
noncomputable def o1040 (P : Params) : Obj := ⟨(.type "code"), none, (.fields #[(.str (S "is_lot_for") 1832), (.str (S "is_lot_for") 1833), (.str (S "/claim/cut.py") 1834), (.int (590) 0), (.int (4) 0), (.int (0) 0), (.int (0) 0), (.int (3) 0), (.ref 1035), (.bool true), (.int (453) 0), (.ref 1036), .none, (.ref 1037), (.ref 1038), (.ref 1039), (.int (1841) 0), (.int (590) 0), (.str (S "/claim/cut.py") 1842)]), #[]⟩
noncomputable def o1041 (P : Params) : Obj := ⟨(.type "function"), none, (.func ⟨(S "is_lot_for"), (S "is_lot_for"), defArgs (topS 107), .stmts (defBody (topS 107)), defScope (topS 107), 3, [], .none, .none, .none, (.str (S "lastbell.kept") 1797), none, (.ref 1040), .none, 0⟩), #[]⟩
noncomputable def o1042 (P : Params) : Obj := ⟨(.type "tuple"), none, (.seq #[] 0), #[]⟩
noncomputable def o1043 (P : Params) : Obj := ⟨.none, none, (.fields #[]), #[]⟩
noncomputable def o1044 (P : Params) : Obj := ⟨(.type "tuple"), none, (.seq #[(.str (S "house") 1847), (.str (S "wishes") 1848), (.str (S "bell") 1849), (.str (S "thing") 1850)] 0), #[]⟩
noncomputable def o1045 (P : Params) : Obj := ⟨(.type "tuple"), none, (.seq #[] 0), #[]⟩
noncomputable def o1046 (P : Params) : Obj := ⟨.none, none, (.func ⟨(S "is_plan_for"), (S "is_plan_for"), defArgs (topS 108), .stmts (defBody (topS 108)), defScope (topS 108), 0, [], .none, .none, .none, .none, none, .none, .none, 0⟩), #[]⟩
noncomputable def o1047 (P : Params) : Obj := ⟨(.type "code"), none, (.fields #[(.str (S "is_plan_for") 1844), (.str (S "is_plan_for") 1845), (.str (S "/claim/cut.py") 1846), (.int (600) 0), (.int (4) 0), (.int (0) 0), (.int (0) 0), (.int (3) 0), (.ref 1042), (.bool true), (.int (453) 0), (.ref 1043), .none, (.ref 1044), (.ref 1045), (.ref 1046), (.int (1851) 0), (.int (600) 0), (.str (S "/claim/cut.py") 1852)]), #[]⟩
noncomputable def o1048 (P : Params) : Obj := ⟨(.type "function"), none, (.func ⟨(S "is_plan_for"), (S "is_plan_for"), defArgs (topS 108), .stmts (defBody (topS 108)), defScope (topS 108), 3, [], .none, .none, .none, (.str (S "lastbell.kept") 1797), none, (.ref 1047), .none, 0⟩), #[]⟩
noncomputable def o1049 (P : Params) : Obj := ⟨(.type "tuple"), none, (.seq #[] 0), #[]⟩
noncomputable def o1050 (P : Params) : Obj := ⟨(.type "builtin_function_or_method"), none, (.fields #[(.builtin "type.__prepare__"), (.type "type")]), #[]⟩
noncomputable def o1051 (P : Params) : Obj := ⟨(.type "dict"), none, (.dict #[E P "__module__" 1863 (.str (S "lastbell.traffic") 1854), E P "__qualname__" 1865 (.str (S "Traffic") 1864), E P "__firstlineno__" 1867 (.int (608) 1866), E P "__init__" 1873 (.ref 1060), E P "begin_arc" 1881 (.ref 1067), E P "end_arc" 1889 (.ref 1074), E P "turn_over" 1899 (.ref 1081), E P "shut" 1908 (.ref 1088), E P "let_come" 1917 (.ref 1095), E P "send" 1928 (.ref 1102), E P "closed" 1938 (.ref 1109), E P "plan" 1944 (.ref 1114), E P "change_door" 1960 (.ref 1121), E P "__static_attributes__" 1966 (.ref 1122)] 14), #[]⟩
noncomputable def o1052 (P : Params) : Obj := ⟨(.type "tuple"), none, (.seq #[] 0), #[]⟩
noncomputable def o1053 (P : Params) : Obj := ⟨.none, none, (.fields #[(.int (610) 0), (.int (4) 0), (.ref 1059), (.int (626) 0), (.int (4) 0), (.ref 1066), (.int (629) 0), (.int (4) 0), (.ref 1073), (.int (632) 0), (.int (4) 0), (.ref 1080), (.int (639) 0), (.int (4) 0), (.ref 1087), (.int (643) 0), (.int (4) 0), (.ref 1094), (.int (647) 0), (.int (4) 0), (.ref 1101), (.int (653) 0), (.int (4) 0), (.ref 1108), (.int (660) 0), (.int (4) 0), (.ref 1113), (.int (672) 0), (.int (4) 0), (.ref 1120)]), #[]⟩
noncomputable def o1054 (P : Params) : Obj := ⟨(.type "code"), none, (.fields #[(.str (S "Traffic") 1858), (.str (S "Traffic") 1859), (.str (S "/claim/cut.py") 1860), (.int (608) 0), (.int (0) 0), (.int (0) 0), (.int (0) 0), (.int (0) 0), (.ref 1052), (.bool false), (.int (453) 0), (.ref 1053), .none, .none, .none, .none, (.int (1861) 0), (.int (608) 0), (.str (S "/claim/cut.py") 1862)]), #[]⟩
noncomputable def o1055 (P : Params) : Obj := ⟨(.type "frame"), none, .plain, #[some (.ref 1054), some (.ref 3), some (.ref 1051), none, some (.str (S "lastbell.traffic") 1854), none, some (.ref 0)]⟩
noncomputable def o1056 (P : Params) : Obj := ⟨(.type "tuple"), none, (.seq #[] 0), #[]⟩
noncomputable def o1057 (P : Params) : Obj := ⟨.none, none, (.fields #[]), #[]⟩
noncomputable def o1058 (P : Params) : Obj := ⟨.none, none, (.func ⟨(S "__init__"), (S "Traffic.__init__"), defArgs (inClass (topS 110) 0), .stmts (defBody (inClass (topS 110) 0)), defScope (inClass (topS 110) 0), 0, [], .none, .none, .none, .none, none, .none, .none, 0⟩), #[]⟩
noncomputable def o1059 (P : Params) : Obj := ⟨(.type "code"), none, (.fields #[(.str (S "__init__") 1868), (.str (S "Traffic.__init__") 1869), (.str (S "/claim/cut.py") 1870), (.int (610) 0), (.int (3) 0), (.int (0) 0), (.int (0) 0), (.int (3) 0), (.ref 1056), (.bool true), (.int (453) 0), (.ref 1057), .none, .none, .none, (.ref 1058), (.int (1871) 0), (.int (610) 0), (.str (S "/claim/cut.py") 1872)]), #[]⟩
noncomputable def o1060 (P : Params) : Obj := ⟨(.type "function"), none, (.func ⟨(S "__init__"), (S "Traffic.__init__"), defArgs (inClass (topS 110) 0), .stmts (defBody (inClass (topS 110) 0)), defScope (inClass (topS 110) 0), 3, [], .none, .none, .none, (.str (S "lastbell.traffic") 1854), none, (.ref 1059), .none, 0⟩), #[]⟩
noncomputable def o1061 (P : Params) : Obj := ⟨(.type "tuple"), none, (.seq #[] 0), #[]⟩
noncomputable def o1062 (P : Params) : Obj := ⟨.none, none, (.fields #[]), #[]⟩
noncomputable def o1063 (P : Params) : Obj := ⟨(.type "tuple"), none, (.seq #[(.str (S "self") 1877), (.str (S "door") 1878)] 0), #[]⟩
noncomputable def o1064 (P : Params) : Obj := ⟨(.type "tuple"), none, (.seq #[] 0), #[]⟩
noncomputable def o1065 (P : Params) : Obj := ⟨.none, none, (.func ⟨(S "begin_arc"), (S "Traffic.begin_arc"), defArgs (inClass (topS 110) 1), .stmts (defBody (inClass (topS 110) 1)), defScope (inClass (topS 110) 1), 0, [], .none, .none, .none, .none, none, .none, .none, 0⟩), #[]⟩
noncomputable def o1066 (P : Params) : Obj := ⟨(.type "code"), none, (.fields #[(.str (S "begin_arc") 1874), (.str (S "Traffic.begin_arc") 1875), (.str (S "/claim/cut.py") 1876), (.int (626) 0), (.int (2) 0), (.int (0) 0), (.int (0) 0), (.int (3) 0), (.ref 1061), (.bool true), (.int (453) 0), (.ref 1062), .none, (.ref 1063), (.ref 1064), (.ref 1065), (.int (1879) 0), (.int (626) 0), (.str (S "/claim/cut.py") 1880)]), #[]⟩
noncomputable def o1067 (P : Params) : Obj := ⟨(.type "function"), none, (.func ⟨(S "begin_arc"), (S "Traffic.begin_arc"), defArgs (inClass (topS 110) 1), .stmts (defBody (inClass (topS 110) 1)), defScope (inClass (topS 110) 1), 3, [], .none, .none, .none, (.str (S "lastbell.traffic") 1854), none, (.ref 1066), .none, 0⟩), #[]⟩
noncomputable def o1068 (P : Params) : Obj := ⟨(.type "tuple"), none, (.seq #[] 0), #[]⟩
noncomputable def o1069 (P : Params) : Obj := ⟨.none, none, (.fields #[]), #[]⟩
noncomputable def o1070 (P : Params) : Obj := ⟨(.type "tuple"), none, (.seq #[(.str (S "self") 1885), (.str (S "door") 1886)] 0), #[]⟩
noncomputable def o1071 (P : Params) : Obj := ⟨(.type "tuple"), none, (.seq #[] 0), #[]⟩
noncomputable def o1072 (P : Params) : Obj := ⟨.none, none, (.func ⟨(S "end_arc"), (S "Traffic.end_arc"), defArgs (inClass (topS 110) 2), .stmts (defBody (inClass (topS 110) 2)), defScope (inClass (topS 110) 2), 0, [], .none, .none, .none, .none, none, .none, .none, 0⟩), #[]⟩
noncomputable def o1073 (P : Params) : Obj := ⟨(.type "code"), none, (.fields #[(.str (S "end_arc") 1882), (.str (S "Traffic.end_arc") 1883), (.str (S "/claim/cut.py") 1884), (.int (629) 0), (.int (2) 0), (.int (0) 0), (.int (0) 0), (.int (3) 0), (.ref 1068), (.bool true), (.int (453) 0), (.ref 1069), .none, (.ref 1070), (.ref 1071), (.ref 1072), (.int (1887) 0), (.int (629) 0), (.str (S "/claim/cut.py") 1888)]), #[]⟩
noncomputable def o1074 (P : Params) : Obj := ⟨(.type "function"), none, (.func ⟨(S "end_arc"), (S "Traffic.end_arc"), defArgs (inClass (topS 110) 2), .stmts (defBody (inClass (topS 110) 2)), defScope (inClass (topS 110) 2), 3, [], .none, .none, .none, (.str (S "lastbell.traffic") 1854), none, (.ref 1073), .none, 0⟩), #[]⟩
noncomputable def o1075 (P : Params) : Obj := ⟨(.type "tuple"), none, (.seq #[] 0), #[]⟩
noncomputable def o1076 (P : Params) : Obj := ⟨.none, none, (.fields #[]), #[]⟩
noncomputable def o1077 (P : Params) : Obj := ⟨(.type "tuple"), none, (.seq #[(.str (S "self") 1893), (.str (S "door") 1894), (.str (S "sort") 1895), (.str (S "_") 1896)] 0), #[]⟩
noncomputable def o1078 (P : Params) : Obj := ⟨(.type "tuple"), none, (.seq #[] 0), #[]⟩
noncomputable def o1079 (P : Params) : Obj := ⟨.none, none, (.func ⟨(S "turn_over"), (S "Traffic.turn_over"), defArgs (inClass (topS 110) 3), .stmts (defBody (inClass (topS 110) 3)), defScope (inClass (topS 110) 3), 0, [], .none, .none, .none, .none, none, .none, .none, 0⟩), #[]⟩
noncomputable def o1080 (P : Params) : Obj := ⟨(.type "code"), none, (.fields #[(.str (S "turn_over") 1890), (.str (S "Traffic.turn_over") 1891), (.str (S "/claim/cut.py") 1892), (.int (632) 0), (.int (2) 0), (.int (0) 0), (.int (0) 0), (.int (3) 0), (.ref 1075), (.bool true), (.int (453) 0), (.ref 1076), .none, (.ref 1077), (.ref 1078), (.ref 1079), (.int (1897) 0), (.int (632) 0), (.str (S "/claim/cut.py") 1898)]), #[]⟩
noncomputable def o1081 (P : Params) : Obj := ⟨(.type "function"), none, (.func ⟨(S "turn_over"), (S "Traffic.turn_over"), defArgs (inClass (topS 110) 3), .stmts (defBody (inClass (topS 110) 3)), defScope (inClass (topS 110) 3), 3, [], .none, .none, .none, (.str (S "lastbell.traffic") 1854), none, (.ref 1080), .none, 0⟩), #[]⟩
noncomputable def o1082 (P : Params) : Obj := ⟨(.type "tuple"), none, (.seq #[] 0), #[]⟩
noncomputable def o1083 (P : Params) : Obj := ⟨.none, none, (.fields #[]), #[]⟩
noncomputable def o1084 (P : Params) : Obj := ⟨(.type "tuple"), none, (.seq #[(.str (S "self") 1903), (.str (S "door") 1904), (.str (S "leaving") 1905)] 0), #[]⟩
noncomputable def o1085 (P : Params) : Obj := ⟨(.type "tuple"), none, (.seq #[] 0), #[]⟩
noncomputable def o1086 (P : Params) : Obj := ⟨.none, none, (.func ⟨(S "shut"), (S "Traffic.shut"), defArgs (inClass (topS 110) 4), .stmts (defBody (inClass (topS 110) 4)), defScope (inClass (topS 110) 4), 0, [], .none, .none, .none, .none, none, .none, .none, 0⟩), #[]⟩
noncomputable def o1087 (P : Params) : Obj := ⟨(.type "code"), none, (.fields #[(.str (S "shut") 1900), (.str (S "Traffic.shut") 1901), (.str (S "/claim/cut.py") 1902), (.int (639) 0), (.int (2) 0), (.int (0) 0), (.int (0) 0), (.int (3) 0), (.ref 1082), (.bool true), (.int (453) 0), (.ref 1083), .none, (.ref 1084), (.ref 1085), (.ref 1086), (.int (1906) 0), (.int (639) 0), (.str (S "/claim/cut.py") 1907)]), #[]⟩
noncomputable def o1088 (P : Params) : Obj := ⟨(.type "function"), none, (.func ⟨(S "shut"), (S "Traffic.shut"), defArgs (inClass (topS 110) 4), .stmts (defBody (inClass (topS 110) 4)), defScope (inClass (topS 110) 4), 3, [], .none, .none, .none, (.str (S "lastbell.traffic") 1854), none, (.ref 1087), .none, 0⟩), #[]⟩
noncomputable def o1089 (P : Params) : Obj := ⟨(.type "tuple"), none, (.seq #[] 0), #[]⟩
noncomputable def o1090 (P : Params) : Obj := ⟨.none, none, (.fields #[]), #[]⟩
noncomputable def o1091 (P : Params) : Obj := ⟨(.type "tuple"), none, (.seq #[(.str (S "self") 1912), (.str (S "door") 1913), (.str (S "free") 1914)] 0), #[]⟩
noncomputable def o1092 (P : Params) : Obj := ⟨(.type "tuple"), none, (.seq #[] 0), #[]⟩
noncomputable def o1093 (P : Params) : Obj := ⟨.none, none, (.func ⟨(S "let_come"), (S "Traffic.let_come"), defArgs (inClass (topS 110) 5), .stmts (defBody (inClass (topS 110) 5)), defScope (inClass (topS 110) 5), 0, [], .none, .none, .none, .none, none, .none, .none, 0⟩), #[]⟩
noncomputable def o1094 (P : Params) : Obj := ⟨(.type "code"), none, (.fields #[(.str (S "let_come") 1909), (.str (S "Traffic.let_come") 1910), (.str (S "/claim/cut.py") 1911), (.int (643) 0), (.int (2) 0), (.int (0) 0), (.int (0) 0), (.int (3) 0), (.ref 1089), (.bool true), (.int (453) 0), (.ref 1090), .none, (.ref 1091), (.ref 1092), (.ref 1093), (.int (1915) 0), (.int (643) 0), (.str (S "/claim/cut.py") 1916)]), #[]⟩
noncomputable def o1095 (P : Params) : Obj := ⟨(.type "function"), none, (.func ⟨(S "let_come"), (S "Traffic.let_come"), defArgs (inClass (topS 110) 5), .stmts (defBody (inClass (topS 110) 5)), defScope (inClass (topS 110) 5), 3, [], .none, .none, .none, (.str (S "lastbell.traffic") 1854), none, (.ref 1094), .none, 0⟩), #[]⟩
noncomputable def o1096 (P : Params) : Obj := ⟨(.type "tuple"), none, (.seq #[] 0), #[]⟩
noncomputable def o1097 (P : Params) : Obj := ⟨.none, none, (.fields #[]), #[]⟩
noncomputable def o1098 (P : Params) : Obj := ⟨(.type "tuple"), none, (.seq #[(.str (S "self") 1921), (.str (S "door") 1922), (.str (S "amount") 1923), (.str (S "limit") 1924), (.str (S "free") 1925)] 0), #[]⟩
noncomputable def o1099 (P : Params) : Obj := ⟨(.type "tuple"), none, (.seq #[] 0), #[]⟩
noncomputable def o1100 (P : Params) : Obj := ⟨.none, none, (.func ⟨(S "send"), (S "Traffic.send"), defArgs (inClass (topS 110) 6), .stmts (defBody (inClass (topS 110) 6)), defScope (inClass (topS 110) 6), 0, [], .none, .none, .none, .none, none, .none, .none, 0⟩), #[]⟩
noncomputable def o1101 (P : Params) : Obj := ⟨(.type "code"), none, (.fields #[(.str (S "send") 1918), (.str (S "Traffic.send") 1919), (.str (S "/claim/cut.py") 1920), (.int (647) 0), (.int (4) 0), (.int (0) 0), (.int (0) 0), (.int (3) 0), (.ref 1096), (.bool true), (.int (453) 0), (.ref 1097), .none, (.ref 1098), (.ref 1099), (.ref 1100), (.int (1926) 0), (.int (647) 0), (.str (S "/claim/cut.py") 1927)]), #[]⟩
noncomputable def o1102 (P : Params) : Obj := ⟨(.type "function"), none, (.func ⟨(S "send"), (S "Traffic.send"), defArgs (inClass (topS 110) 6), .stmts (defBody (inClass (topS 110) 6)), defScope (inClass (topS 110) 6), 3, [], .none, .none, .none, (.str (S "lastbell.traffic") 1854), none, (.ref 1101), .none, 0⟩), #[]⟩
noncomputable def o1103 (P : Params) : Obj := ⟨(.type "tuple"), none, (.seq #[] 0), #[]⟩
noncomputable def o1104 (P : Params) : Obj := ⟨.none, none, (.fields #[]), #[]⟩
noncomputable def o1105 (P : Params) : Obj := ⟨(.type "tuple"), none, (.seq #[(.str (S "self") 1932), (.str (S "arc") 1933), (.str (S "free") 1934), (.str (S "going") 1935)] 0), #[]⟩
noncomputable def o1106 (P : Params) : Obj := ⟨(.type "tuple"), none, (.seq #[] 0), #[]⟩
noncomputable def o1107 (P : Params) : Obj := ⟨.none, none, (.func ⟨(S "closed"), (S "Traffic.closed"), defArgs (inClass (topS 110) 7), .stmts (defBody (inClass (topS 110) 7)), defScope (inClass (topS 110) 7), 0, [], .none, .none, .none, .none, none, .none, .none, 0⟩), #[]⟩
noncomputable def o1108 (P : Params) : Obj := ⟨(.type "code"), none, (.fields #[(.str (S "closed") 1929), (.str (S "Traffic.closed") 1930), (.str (S "/claim/cut.py") 1931), (.int (653) 0), (.int (2) 0), (.int (0) 0), (.int (0) 0), (.int (3) 0), (.ref 1103), (.bool true), (.int (453) 0), (.ref 1104), .none, (.ref 1105), (.ref 1106), (.ref 1107), (.int (1936) 0), (.int (653) 0), (.str (S "/claim/cut.py") 1937)]), #[]⟩
noncomputable def o1109 (P : Params) : Obj := ⟨(.type "function"), none, (.func ⟨(S "closed"), (S "Traffic.closed"), defArgs (inClass (topS 110) 7), .stmts (defBody (inClass (topS 110) 7)), defScope (inClass (topS 110) 7), 3, [], .none, .none, .none, (.str (S "lastbell.traffic") 1854), none, (.ref 1108), .none, 0⟩), #[]⟩
noncomputable def o1110 (P : Params) : Obj := ⟨(.type "tuple"), none, (.seq #[] 0), #[]⟩
noncomputable def o1111 (P : Params) : Obj := ⟨.none, none, (.fields #[]), #[]⟩
noncomputable def o1112 (P : Params) : Obj := ⟨.none, none, (.func ⟨(S "plan"), (S "Traffic.plan"), defArgs (inClass (topS 110) 8), .stmts (defBody (inClass (topS 110) 8)), defScope (inClass (topS 110) 8), 0, [], .none, .none, .none, .none, none, .none, .none, 0⟩), #[]⟩
noncomputable def o1113 (P : Params) : Obj := ⟨(.type "code"), none, (.fields #[(.str (S "plan") 1939), (.str (S "Traffic.plan") 1940), (.str (S "/claim/cut.py") 1941), (.int (660) 0), (.int (1) 0), (.int (0) 0), (.int (0) 0), (.int (3) 0), (.ref 1110), (.bool true), (.int (453) 0), (.ref 1111), .none, .none, .none, (.ref 1112), (.int (1942) 0), (.int (660) 0), (.str (S "/claim/cut.py") 1943)]), #[]⟩
noncomputable def o1114 (P : Params) : Obj := ⟨(.type "function"), none, (.func ⟨(S "plan"), (S "Traffic.plan"), defArgs (inClass (topS 110) 8), .stmts (defBody (inClass (topS 110) 8)), defScope (inClass (topS 110) 8), 3, [], .none, .none, .none, (.str (S "lastbell.traffic") 1854), none, (.ref 1113), .none, 0⟩), #[]⟩
noncomputable def o1115 (P : Params) : Obj := ⟨(.type "tuple"), none, (.seq #[] 0), #[]⟩
noncomputable def o1116 (P : Params) : Obj := ⟨.none, none, (.fields #[]), #[]⟩
noncomputable def o1117 (P : Params) : Obj := ⟨(.type "tuple"), none, (.seq #[(.str (S "self") 1948), (.str (S "doors") 1949), (.str (S "near") 1950), (.str (S "arc") 1951), (.str (S "amount") 1952), (.str (S "door") 1953), (.str (S "sort") 1954), (.str (S "place") 1955), (.str (S "_") 1956), (.str (S "begins") 1957)] 0), #[]⟩
noncomputable def o1118 (P : Params) : Obj := ⟨(.type "tuple"), none, (.seq #[] 0), #[]⟩
noncomputable def o1119 (P : Params) : Obj := ⟨.none, none, (.func ⟨(S "change_door"), (S "Traffic.change_door"), defArgs (inClass (topS 110) 9), .stmts (defBody (inClass (topS 110) 9)), defScope (inClass (topS 110) 9), 0, [], .none, .none, .none, .none, none, .none, .none, 0⟩), #[]⟩
noncomputable def o1120 (P : Params) : Obj := ⟨(.type "code"), none, (.fields #[(.str (S "change_door") 1945), (.str (S "Traffic.change_door") 1946), (.str (S "/claim/cut.py") 1947), (.int (672) 0), (.int (5) 0), (.int (0) 0), (.int (0) 0), (.int (3) 0), (.ref 1115), (.bool true), (.int (453) 0), (.ref 1116), .none, (.ref 1117), (.ref 1118), (.ref 1119), (.int (1958) 0), (.int (672) 0), (.str (S "/claim/cut.py") 1959)]), #[]⟩
noncomputable def o1121 (P : Params) : Obj := ⟨(.type "function"), none, (.func ⟨(S "change_door"), (S "Traffic.change_door"), defArgs (inClass (topS 110) 9), .stmts (defBody (inClass (topS 110) 9)), defScope (inClass (topS 110) 9), 3, [], .none, .none, .none, (.str (S "lastbell.traffic") 1854), none, (.ref 1120), .none, 0⟩), #[]⟩
noncomputable def o1122 (P : Params) : Obj := ⟨(.type "tuple"), none, (.seq #[(.str (S "bell") 1961), (.str (S "doors") 1962), (.str (S "net") 1963), (.str (S "roads") 1964), (.str (S "wide") 1965)] 0), #[]⟩
noncomputable def o1123 (P : Params) : Obj := ⟨(.type "dict"), none, (.dict #[E P "__module__" 1863 (.str (S "lastbell.traffic") 1854), E P "__firstlineno__" 1867 (.int (608) 1866), E P "__init__" 1873 (.ref 1060), E P "begin_arc" 1881 (.ref 1067), E P "end_arc" 1889 (.ref 1074), E P "turn_over" 1899 (.ref 1081), E P "shut" 1908 (.ref 1088), E P "let_come" 1917 (.ref 1095), E P "send" 1928 (.ref 1102), E P "closed" 1938 (.ref 1109), E P "plan" 1944 (.ref 1114), E P "change_door" 1960 (.ref 1121), E P "__static_attributes__" 1966 (.ref 1122), E P "__dict__" 1968 (.ref 1125), E P "__weakref__" 1970 (.ref 1126), E P "__doc__" 1971 .none] 4), #[]⟩
noncomputable def o1124 (P : Params) : Obj := ⟨(.type "type"), none, (.cls ⟨(S "Traffic"), [(.type "object")], [(.ref 1124), (.type "object")], 1123, (S "Traffic"), true, [], [], false, none, false⟩), #[none, none, some (.str (S "Traffic") 1856), some (.str (S "Traffic") 1864), some (.builtin "object.__new__"), some (.bool true)]⟩
noncomputable def o1125 (P : Params) : Obj := ⟨(.type "getset_descriptor"), none, (.fields #[(.str (S "__dict__") 1967), (.ref 1124), (.builtin "function.__dict__"), (.builtin "function.__dict__#set")]), #[]⟩
noncomputable def o1126 (P : Params) : Obj := ⟨(.type "getset_descriptor"), none, (.fields #[(.str (S "__weakref__") 1969), (.ref 1124), (.builtin "ExceptionGroup.__weakref__"), .none]), #[]⟩
noncomputable def o1127 (P : Params) : Obj := ⟨(.type "super"), none, (.fields #[(.ref 1124), (.ref 1124), (.ref 1124)]), #[]⟩
noncomputable def o1128 (P : Params) : Obj := ⟨(.type "builtin_function_or_method"), none, (.fields #[(.builtin "object.__init_subclass__"), (.ref 1124)]), #[]⟩
noncomputable def o1129 (P : Params) : Obj := ⟨(.type "tuple"), none, (.seq #[] 0), #[]⟩
noncomputable def o1130 (P : Params) : Obj := ⟨.none, none, (.fields #[]), #[]⟩
noncomputable def o1131 (P : Params) : Obj := ⟨(.type "tuple"), none, (.seq #[(.str (S "house") 1979), (.str (S "order") 1980), (.str (S "bell") 1981), (.str (S "traffic") 1982), (.str (S "door") 1983)] 0), #[]⟩
noncomputable def o1132 (P : Params) : Obj := ⟨(.type "tuple"), none, (.seq #[] 0), #[]⟩
noncomputable def o1133 (P : Params) : Obj := ⟨.none, none, (.func ⟨(S "plan_by_order"), (S "plan_by_order"), defArgs (topS 112), .stmts (defBody (topS 112)), defScope (topS 112), 0, [], .none, .none, .none, .none, none, .none, .none, 0⟩), #[]⟩
noncomputable def o1134 (P : Params) : Obj := ⟨(.type "code"), none, (.fields #[(.str (S "plan_by_order") 1976), (.str (S "plan_by_order") 1977), (.str (S "/claim/cut.py") 1978), (.int (678) 0), (.int (3) 0), (.int (0) 0), (.int (0) 0), (.int (3) 0), (.ref 1129), (.bool true), (.int (453) 0), (.ref 1130), .none, (.ref 1131), (.ref 1132), (.ref 1133), (.int (1984) 0), (.int (678) 0), (.str (S "/claim/cut.py") 1985)]), #[]⟩
noncomputable def o1135 (P : Params) : Obj := ⟨(.type "function"), none, (.func ⟨(S "plan_by_order"), (S "plan_by_order"), defArgs (topS 112), .stmts (defBody (topS 112)), defScope (topS 112), 3, [], .none, .none, .none, (.str (S "lastbell.orders") 1974), none, (.ref 1134), .none, 0⟩), #[]⟩
noncomputable def o1136 (P : Params) : Obj := ⟨(.type "tuple"), none, (.seq #[] 0), #[]⟩
noncomputable def o1137 (P : Params) : Obj := ⟨.none, none, (.fields #[]), #[]⟩
noncomputable def o1138 (P : Params) : Obj := ⟨.none, none, (.func ⟨(S "corner"), (S "corner"), defArgs (topS 113), .stmts (defBody (topS 113)), defScope (topS 113), 0, [], .none, .none, .none, .none, none, .none, .none, 0⟩), #[]⟩
noncomputable def o1139 (P : Params) : Obj := ⟨(.type "code"), none, (.fields #[(.str (S "corner") 1987), (.str (S "corner") 1988), (.str (S "/claim/cut.py") 1989), (.int (686) 0), (.int (3) 0), (.int (0) 0), (.int (0) 0), (.int (3) 0), (.ref 1136), (.bool true), (.int (453) 0), (.ref 1137), .none, .none, .none, (.ref 1138), (.int (1990) 0), (.int (686) 0), (.str (S "/claim/cut.py") 1991)]), #[]⟩
noncomputable def o1140 (P : Params) : Obj := ⟨(.type "function"), none, (.func ⟨(S "corner"), (S "corner"), defArgs (topS 113), .stmts (defBody (topS 113)), defScope (topS 113), 3, [], .none, .none, .none, (.str (S "lastbell.orders") 1974), none, (.ref 1139), .none, 0⟩), #[]⟩
noncomputable def o1141 (P : Params) : Obj := ⟨(.type "tuple"), none, (.seq #[] 0), #[]⟩
noncomputable def o1142 (P : Params) : Obj := ⟨.none, none, (.fields #[]), #[]⟩
noncomputable def o1143 (P : Params) : Obj := ⟨(.type "tuple"), none, (.seq #[(.str (S "order") 1996), (.str (S "mosts") 1997), (.str (S "told") 1998), (.str (S "at") 1999), (.str (S "door") 2000)] 0), #[]⟩
noncomputable def o1144 (P : Params) : Obj := ⟨(.type "tuple"), none, (.seq #[] 0), #[]⟩
noncomputable def o1145 (P : Params) : Obj := ⟨.none, none, (.func ⟨(S "differences"), (S "differences"), defArgs (topS 114), .stmts (defBody (topS 114)), defScope (topS 114), 0, [], .none, .none, .none, .none, none, .none, .none, 0⟩), #[]⟩
noncomputable def o1146 (P : Params) : Obj := ⟨(.type "code"), none, (.fields #[(.str (S "differences") 1993), (.str (S "differences") 1994), (.str (S "/claim/cut.py") 1995), (.int (691) 0), (.int (2) 0), (.int (0) 0), (.int (0) 0), (.int (3) 0), (.ref 1141), (.bool true), (.int (453) 0), (.ref 1142), .none, (.ref 1143), (.ref 1144), (.ref 1145), (.int (2001) 0), (.int (691) 0), (.str (S "/claim/cut.py") 2002)]), #[]⟩
noncomputable def o1147 (P : Params) : Obj := ⟨(.type "function"), none, (.func ⟨(S "differences"), (S "differences"), defArgs (topS 114), .stmts (defBody (topS 114)), defScope (topS 114), 3, [], .none, .none, .none, (.str (S "lastbell.orders") 1974), none, (.ref 1146), .none, 0⟩), #[]⟩
noncomputable def o1148 (P : Params) : Obj := ⟨(.type "tuple"), none, (.seq #[] 0), #[]⟩
noncomputable def o1149 (P : Params) : Obj := ⟨.none, none, (.fields #[]), #[]⟩
noncomputable def o1150 (P : Params) : Obj := ⟨.none, none, (.func ⟨(S "corners"), (S "corners"), defArgs (topS 115), .stmts (defBody (topS 115)), defScope (topS 115), 0, [], .none, .none, .none, .none, none, .none, .none, 0⟩), #[]⟩
noncomputable def o1151 (P : Params) : Obj := ⟨(.type "code"), none, (.fields #[(.str (S "corners") 2004), (.str (S "corners") 2005), (.str (S "/claim/cut.py") 2006), (.int (696) 0), (.int (2) 0), (.int (0) 0), (.int (0) 0), (.int (3) 0), (.ref 1148), (.bool true), (.int (453) 0), (.ref 1149), .none, .none, .none, (.ref 1150), (.int (2007) 0), (.int (696) 0), (.str (S "/claim/cut.py") 2008)]), #[]⟩
noncomputable def o1152 (P : Params) : Obj := ⟨(.type "function"), none, (.func ⟨(S "corners"), (S "corners"), defArgs (topS 115), .stmts (defBody (topS 115)), defScope (topS 115), 3, [], .none, .none, .none, (.str (S "lastbell.orders") 1974), none, (.ref 1151), .none, 0⟩), #[]⟩
noncomputable def o1153 (P : Params) : Obj := ⟨(.type "tuple"), none, (.seq #[] 0), #[]⟩
noncomputable def o1154 (P : Params) : Obj := ⟨.none, none, (.fields #[]), #[]⟩
noncomputable def o1155 (P : Params) : Obj := ⟨.none, none, (.func ⟨(S "corner_by"), (S "corner_by"), defArgs (topS 116), .stmts (defBody (topS 116)), defScope (topS 116), 0, [], .none, .none, .none, .none, none, .none, .none, 0⟩), #[]⟩
noncomputable def o1156 (P : Params) : Obj := ⟨(.type "code"), none, (.fields #[(.str (S "corner_by") 2010), (.str (S "corner_by") 2011), (.str (S "/claim/cut.py") 2012), (.int (704) 0), (.int (2) 0), (.int (0) 0), (.int (0) 0), (.int (3) 0), (.ref 1153), (.bool true), (.int (453) 0), (.ref 1154), .none, .none, .none, (.ref 1155), (.int (2013) 0), (.int (704) 0), (.str (S "/claim/cut.py") 2014)]), #[]⟩
noncomputable def o1157 (P : Params) : Obj := ⟨(.type "function"), none, (.func ⟨(S "corner_by"), (S "corner_by"), defArgs (topS 116), .stmts (defBody (topS 116)), defScope (topS 116), 3, [], .none, .none, .none, (.str (S "lastbell.orders") 1974), none, (.ref 1156), .none, 0⟩), #[]⟩
noncomputable def o1158 (P : Params) : Obj := ⟨(.type "tuple"), none, (.seq #[] 0), #[]⟩
noncomputable def o1159 (P : Params) : Obj := ⟨.none, none, (.fields #[]), #[]⟩
noncomputable def o1160 (P : Params) : Obj := ⟨.none, none, (.func ⟨(S "order_of"), (S "order_of"), defArgs (topS 117), .stmts (defBody (topS 117)), defScope (topS 117), 0, [], .none, .none, .none, .none, none, .none, .none, 0⟩), #[]⟩
noncomputable def o1161 (P : Params) : Obj := ⟨(.type "code"), none, (.fields #[(.str (S "order_of") 2016), (.str (S "order_of") 2017), (.str (S "/claim/cut.py") 2018), (.int (706) 0), (.int (3) 0), (.int (0) 0), (.int (0) 0), (.int (3) 0), (.ref 1158), (.bool true), (.int (453) 0), (.ref 1159), .none, .none, .none, (.ref 1160), (.int (2019) 0), (.int (706) 0), (.str (S "/claim/cut.py") 2020)]), #[]⟩
noncomputable def o1162 (P : Params) : Obj := ⟨(.type "function"), none, (.func ⟨(S "order_of"), (S "order_of"), defArgs (topS 117), .stmts (defBody (topS 117)), defScope (topS 117), 3, [], .none, .none, .none, (.str (S "lastbell.orders") 1974), none, (.ref 1161), .none, 0⟩), #[]⟩
noncomputable def o1163 (P : Params) : Obj := ⟨(.type "tuple"), none, (.seq #[] 0), #[]⟩
noncomputable def o1164 (P : Params) : Obj := ⟨.none, none, (.fields #[]), #[]⟩
noncomputable def o1165 (P : Params) : Obj := ⟨.none, none, (.func ⟨(S "mosts_of_lots"), (S "mosts_of_lots"), defArgs (topS 118), .stmts (defBody (topS 118)), defScope (topS 118), 0, [], .none, .none, .none, .none, none, .none, .none, 0⟩), #[]⟩
noncomputable def o1166 (P : Params) : Obj := ⟨(.type "code"), none, (.fields #[(.str (S "mosts_of_lots") 2022), (.str (S "mosts_of_lots") 2023), (.str (S "/claim/cut.py") 2024), (.int (716) 0), (.int (2) 0), (.int (0) 0), (.int (0) 0), (.int (3) 0), (.ref 1163), (.bool true), (.int (453) 0), (.ref 1164), .none, .none, .none, (.ref 1165), (.int (2025) 0), (.int (716) 0), (.str (S "/claim/cut.py") 2026)]), #[]⟩
noncomputable def o1167 (P : Params) : Obj := ⟨(.type "function"), none, (.func ⟨(S "mosts_of_lots"), (S "mosts_of_lots"), defArgs (topS 118), .stmts (defBody (topS 118)), defScope (topS 118), 3, [], .none, .none, .none, (.str (S "lastbell.orders") 1974), none, (.ref 1166), .none, 0⟩), #[]⟩
noncomputable def o1168 (P : Params) : Obj := ⟨(.type "tuple"), none, (.seq #[] 0), #[]⟩
noncomputable def o1169 (P : Params) : Obj := ⟨.none, none, (.fields #[]), #[]⟩
noncomputable def o1170 (P : Params) : Obj := ⟨.none, none, (.func ⟨(S "beginnings"), (S "beginnings"), defArgs (topS 119), .stmts (defBody (topS 119)), defScope (topS 119), 0, [], .none, .none, .none, .none, none, .none, .none, 0⟩), #[]⟩
noncomputable def o1171 (P : Params) : Obj := ⟨(.type "code"), none, (.fields #[(.str (S "beginnings") 2028), (.str (S "beginnings") 2029), (.str (S "/claim/cut.py") 2030), (.int (718) 0), (.int (1) 0), (.int (0) 0), (.int (0) 0), (.int (3) 0), (.ref 1168), (.bool true), (.int (453) 0), (.ref 1169), .none, .none, .none, (.ref 1170), (.int (2031) 0), (.int (718) 0), (.str (S "/claim/cut.py") 2032)]), #[]⟩
noncomputable def o1172 (P : Params) : Obj := ⟨(.type "function"), none, (.func ⟨(S "beginnings"), (S "beginnings"), defArgs (topS 119), .stmts (defBody (topS 119)), defScope (topS 119), 3, [], .none, .none, .none, (.str (S "lastbell.orders") 1974), none, (.ref 1171), .none, 0⟩), #[]⟩
noncomputable def o1173 (P : Params) : Obj := ⟨(.type "tuple"), none, (.seq #[] 0), #[]⟩
noncomputable def o1174 (P : Params) : Obj := ⟨.none, none, (.fields #[]), #[]⟩
noncomputable def o1175 (P : Params) : Obj := ⟨.none, none, (.func ⟨(S "first_unlike"), (S "first_unlike"), defArgs (topS 121), .stmts (defBody (topS 121)), defScope (topS 121), 0, [], .none, .none, .none, .none, none, .none, .none, 0⟩), #[]⟩
noncomputable def o1176 (P : Params) : Obj := ⟨(.type "code"), none, (.fields #[(.str (S "first_unlike") 2036), (.str (S "first_unlike") 2037), (.str (S "/claim/cut.py") 2038), (.int (721) 0), (.int (2) 0), (.int (0) 0), (.int (0) 0), (.int (3) 0), (.ref 1173), (.bool true), (.int (453) 0), (.ref 1174), .none, .none, .none, (.ref 1175), (.int (2039) 0), (.int (721) 0), (.str (S "/claim/cut.py") 2040)]), #[]⟩
noncomputable def o1177 (P : Params) : Obj := ⟨(.type "function"), none, (.func ⟨(S "first_unlike"), (S "first_unlike"), defArgs (topS 121), .stmts (defBody (topS 121)), defScope (topS 121), 3, [], .none, .none, .none, (.str (S "lastbell.alike") 2034), none, (.ref 1176), .none, 0⟩), #[]⟩
noncomputable def o1178 (P : Params) : Obj := ⟨(.type "tuple"), none, (.seq #[] 0), #[]⟩
noncomputable def o1179 (P : Params) : Obj := ⟨.none, none, (.fields #[]), #[]⟩
noncomputable def o1180 (P : Params) : Obj := ⟨(.type "tuple"), none, (.seq #[(.str (S "levels_here") 2045), (.str (S "levels_there") 2046), (.str (S "here") 2047), (.str (S "there") 2048), (.str (S "shared") 2049), (.str (S "further") 2050)] 0), #[]⟩
noncomputable def o1181 (P : Params) : Obj := ⟨(.type "tuple"), none, (.seq #[] 0), #[]⟩
noncomputable def o1182 (P : Params) : Obj := ⟨.none, none, (.func ⟨(S "first_unlike_bell"), (S "first_unlike_bell"), defArgs (topS 122), .stmts (defBody (topS 122)), defScope (topS 122), 0, [], .none, .none, .none, .none, none, .none, .none, 0⟩), #[]⟩
noncomputable def o1183 (P : Params) : Obj := ⟨(.type "code"), none, (.fields #[(.str (S "first_unlike_bell") 2042), (.str (S "first_unlike_bell") 2043), (.str (S "/claim/cut.py") 2044), (.int (732) 0), (.int (2) 0), (.int (0) 0), (.int (0) 0), (.int (3) 0), (.ref 1178), (.bool true), (.int (453) 0), (.ref 1179), .none, (.ref 1180), (.ref 1181), (.ref 1182), (.int (2051) 0), (.int (732) 0), (.str (S "/claim/cut.py") 2052)]), #[]⟩
noncomputable def o1184 (P : Params) : Obj := ⟨(.type "function"), none, (.func ⟨(S "first_unlike_bell"), (S "first_unlike_bell"), defArgs (topS 122), .stmts (defBody (topS 122)), defScope (topS 122), 3, [], .none, .none, .none, (.str (S "lastbell.alike") 2034), none, (.ref 1183), .none, 0⟩), #[]⟩
noncomputable def o1185 (P : Params) : Obj := ⟨(.type "tuple"), none, (.seq #[] 0), #[]⟩
noncomputable def o1186 (P : Params) : Obj := ⟨.none, none, (.fields #[]), #[]⟩
noncomputable def o1187 (P : Params) : Obj := ⟨.none, none, (.func ⟨(S "parting"), (S "parting"), defArgs (topS 123), .stmts (defBody (topS 123)), defScope (topS 123), 0, [], .none, .none, .none, .none, none, .none, .none, 0⟩), #[]⟩
noncomputable def o1188 (P : Params) : Obj := ⟨(.type "code"), none, (.fields #[(.str (S "parting") 2054), (.str (S "parting") 2055), (.str (S "/claim/cut.py") 2056), (.int (739) 0), (.int (2) 0), (.int (0) 0), (.int (0) 0), (.int (3) 0), (.ref 1185), (.bool true), (.int (453) 0), (.ref 1186), .none, .none, .none, (.ref 1187), (.int (2057) 0), (.int (739) 0), (.str (S "/claim/cut.py") 2058)]), #[]⟩
noncomputable def o1189 (P : Params) : Obj := ⟨(.type "function"), none, (.func ⟨(S "parting"), (S "parting"), defArgs (topS 123), .stmts (defBody (topS 123)), defScope (topS 123), 3, [], .none, .none, .none, (.str (S "lastbell.alike") 2034), none, (.ref 1188), .none, 0⟩), #[]⟩
noncomputable def o1190 (P : Params) : Obj := ⟨(.type "tuple"), none, (.seq #[] 0), #[]⟩
noncomputable def o1191 (P : Params) : Obj := ⟨.none, none, (.fields #[]), #[]⟩
noncomputable def o1192 (P : Params) : Obj := ⟨(.type "tuple"), none, (.seq #[(.str (S "house") 2065), (.str (S "wishes") 2066), (.str (S "bells") 2067), (.str (S "_") 2068), (.str (S "amount") 2069), (.str (S "pairs") 2070)] 0), #[]⟩
noncomputable def o1193 (P : Params) : Obj := ⟨(.type "tuple"), none, (.seq #[] 0), #[]⟩
noncomputable def o1194 (P : Params) : Obj := ⟨.none, none, (.func ⟨(S "least_bell"), (S "least_bell"), defArgs (topS 125), .stmts (defBody (topS 125)), defScope (topS 125), 0, [], .none, .none, .none, .none, none, .none, .none, 0⟩), #[]⟩
noncomputable def o1195 (P : Params) : Obj := ⟨(.type "code"), none, (.fields #[(.str (S "least_bell") 2062), (.str (S "least_bell") 2063), (.str (S "/claim/cut.py") 2064), (.int (748) 0), (.int (2) 0), (.int (0) 0), (.int (0) 0), (.int (3) 0), (.ref 1190), (.bool true), (.int (453) 0), (.ref 1191), .none, (.ref 1192), (.ref 1193), (.ref 1194), (.int (2071) 0), (.int (748) 0), (.str (S "/claim/cut.py") 2072)]), #[]⟩
noncomputable def o1196 (P : Params) : Obj := ⟨(.type "function"), none, (.func ⟨(S "least_bell"), (S "least_bell"), defArgs (topS 125), .stmts (defBody (topS 125)), defScope (topS 125), 3, [], .none, .none, .none, (.str (S "lastbell.bells") 2060), none, (.ref 1195), .none, 0⟩), #[]⟩
noncomputable def o1197 (P : Params) : Obj := ⟨(.type "tuple"), none, (.seq #[] 0), #[]⟩
noncomputable def o1198 (P : Params) : Obj := ⟨.none, none, (.fields #[]), #[]⟩
noncomputable def o1199 (P : Params) : Obj := ⟨(.type "tuple"), none, (.seq #[(.str (S "house") 2077), (.str (S "wishes") 2078)] 0), #[]⟩
noncomputable def o1200 (P : Params) : Obj := ⟨(.type "tuple"), none, (.seq #[] 0), #[]⟩
noncomputable def o1201 (P : Params) : Obj := ⟨.none, none, (.func ⟨(S "never"), (S "never"), defArgs (topS 126), .stmts (defBody (topS 126)), defScope (topS 126), 0, [], .none, .none, .none, .none, none, .none, .none, 0⟩), #[]⟩
noncomputable def o1202 (P : Params) : Obj := ⟨(.type "code"), none, (.fields #[(.str (S "never") 2074), (.str (S "never") 2075), (.str (S "/claim/cut.py") 2076), (.int (758) 0), (.int (2) 0), (.int (0) 0), (.int (0) 0), (.int (3) 0), (.ref 1197), (.bool true), (.int (453) 0), (.ref 1198), .none, (.ref 1199), (.ref 1200), (.ref 1201), (.int (2079) 0), (.int (758) 0), (.str (S "/claim/cut.py") 2080)]), #[]⟩
noncomputable def o1203 (P : Params) : Obj := ⟨(.type "function"), none, (.func ⟨(S "never"), (S "never"), defArgs (topS 126), .stmts (defBody (topS 126)), defScope (topS 126), 3, [], .none, .none, .none, (.str (S "lastbell.bells") 2060), none, (.ref 1202), .none, 0⟩), #[]⟩
noncomputable def o1204 (P : Params) : Obj := ⟨(.type "tuple"), none, (.seq #[] 0), #[]⟩
noncomputable def o1205 (P : Params) : Obj := ⟨.none, none, (.fields #[]), #[]⟩
noncomputable def o1206 (P : Params) : Obj := ⟨(.type "tuple"), none, (.seq #[(.str (S "house") 2085), (.str (S "wishes") 2086), (.str (S "lots") 2087), (.str (S "lot") 2088), (.str (S "told") 2089), (.str (S "bell") 2090), (.str (S "lacks") 2091)] 0), #[]⟩
noncomputable def o1207 (P : Params) : Obj := ⟨(.type "tuple"), none, (.seq #[] 0), #[]⟩
noncomputable def o1208 (P : Params) : Obj := ⟨.none, none, (.func ⟨(S "rising"), (S "rising"), defArgs (topS 127), .stmts (defBody (topS 127)), defScope (topS 127), 0, [], .none, .none, .none, .none, none, .none, .none, 0⟩), #[]⟩
noncomputable def o1209 (P : Params) : Obj := ⟨(.type "code"), none, (.fields #[(.str (S "rising") 2082), (.str (S "rising") 2083), (.str (S "/claim/cut.py") 2084), (.int (762) 0), (.int (2) 0), (.int (0) 0), (.int (0) 0), (.int (3) 0), (.ref 1204), (.bool true), (.int (453) 0), (.ref 1205), .none, (.ref 1206), (.ref 1207), (.ref 1208), (.int (2092) 0), (.int (762) 0), (.str (S "/claim/cut.py") 2093)]), #[]⟩
noncomputable def o1210 (P : Params) : Obj := ⟨(.type "function"), none, (.func ⟨(S "rising"), (S "rising"), defArgs (topS 127), .stmts (defBody (topS 127)), defScope (topS 127), 3, [], .none, .none, .none, (.str (S "lastbell.bells") 2060), none, (.ref 1209), .none, 0⟩), #[]⟩
noncomputable def o1211 (P : Params) : Obj := ⟨(.type "tuple"), none, (.seq #[] 0), #[]⟩
noncomputable def o1212 (P : Params) : Obj := ⟨.none, none, (.fields #[]), #[]⟩
noncomputable def o1213 (P : Params) : Obj := ⟨(.type "tuple"), none, (.seq #[(.str (S "house") 2098), (.str (S "wishes") 2099), (.str (S "door") 2100), (.str (S "other") 2101), (.str (S "more") 2102)] 0), #[]⟩
noncomputable def o1214 (P : Params) : Obj := ⟨(.type "tuple"), none, (.seq #[] 0), #[]⟩
noncomputable def o1215 (P : Params) : Obj := ⟨.none, none, (.func ⟨(S "bell_with"), (S "bell_with"), defArgs (topS 128), .stmts (defBody (topS 128)), defScope (topS 128), 0, [], .none, .none, .none, .none, none, .none, .none, 0⟩), #[]⟩
noncomputable def o1216 (P : Params) : Obj := ⟨(.type "code"), none, (.fields #[(.str (S "bell_with") 2095), (.str (S "bell_with") 2096), (.str (S "/claim/cut.py") 2097), (.int (779) 0), (.int (4) 0), (.int (0) 0), (.int (0) 0), (.int (3) 0), (.ref 1211), (.bool true), (.int (453) 0), (.ref 1212), .none, (.ref 1213), (.ref 1214), (.ref 1215), (.int (2103) 0), (.int (779) 0), (.str (S "/claim/cut.py") 2104)]), #[]⟩
noncomputable def o1217 (P : Params) : Obj := ⟨(.type "function"), none, (.func ⟨(S "bell_with"), (S "bell_with"), defArgs (topS 128), .stmts (defBody (topS 128)), defScope (topS 128), 3, [], .none, .none, .none, (.str (S "lastbell.bells") 2060), none, (.ref 1216), .none, 0⟩), #[]⟩
noncomputable def o1218 (P : Params) : Obj := ⟨(.type "tuple"), none, (.seq #[] 0), #[]⟩
noncomputable def o1219 (P : Params) : Obj := ⟨.none, none, (.fields #[]), #[]⟩
noncomputable def o1220 (P : Params) : Obj := ⟨.none, none, (.func ⟨(S "asked_lots"), (S "asked_lots"), defArgs (topS 129), .stmts (defBody (topS 129)), defScope (topS 129), 0, [], .none, .none, .none, .none, none, .none, .none, 0⟩), #[]⟩
noncomputable def o1221 (P : Params) : Obj := ⟨(.type "code"), none, (.fields #[(.str (S "asked_lots") 2106), (.str (S "asked_lots") 2107), (.str (S "/claim/cut.py") 2108), (.int (788) 0), (.int (2) 0), (.int (0) 0), (.int (0) 0), (.int (3) 0), (.ref 1218), (.bool true), (.int (453) 0), (.ref 1219), .none, .none, .none, (.ref 1220), (.int (2109) 0), (.int (788) 0), (.str (S "/claim/cut.py") 2110)]), #[]⟩
noncomputable def o1222 (P : Params) : Obj := ⟨(.type "function"), none, (.func ⟨(S "asked_lots"), (S "asked_lots"), defArgs (topS 129), .stmts (defBody (topS 129)), defScope (topS 129), 3, [], .none, .none, .none, (.str (S "lastbell.bells") 2060), none, (.ref 1221), .none, 0⟩), #[]⟩
noncomputable def o1223 (P : Params) : Obj := ⟨(.type "tuple"), none, (.seq #[] 0), #[]⟩
noncomputable def o1224 (P : Params) : Obj := ⟨.none, none, (.fields #[]), #[]⟩
noncomputable def o1225 (P : Params) : Obj := ⟨.none, none, (.func ⟨(S "least_that_never"), (S "least_that_never"), defArgs (topS 130), .stmts (defBody (topS 130)), defScope (topS 130), 0, [], .none, .none, .none, .none, none, .none, .none, 0⟩), #[]⟩
noncomputable def o1226 (P : Params) : Obj := ⟨(.type "code"), none, (.fields #[(.str (S "least_that_never") 2112), (.str (S "least_that_never") 2113), (.str (S "/claim/cut.py") 2114), (.int (790) 0), (.int (1) 0), (.int (0) 0), (.int (0) 0), (.int (3) 0), (.ref 1223), (.bool true), (.int (453) 0), (.ref 1224), .none, .none, .none, (.ref 1225), (.int (2115) 0), (.int (790) 0), (.str (S "/claim/cut.py") 2116)]), #[]⟩
noncomputable def o1227 (P : Params) : Obj := ⟨(.type "function"), none, (.func ⟨(S "least_that_never"), (S "least_that_never"), defArgs (topS 130), .stmts (defBody (topS 130)), defScope (topS 130), 3, [], .none, .none, .none, (.str (S "lastbell.bells") 2060), none, (.ref 1226), .none, 0⟩), #[]⟩
noncomputable def o1228 (P : Params) : Obj := ⟨(.type "tuple"), none, (.seq #[] 0), #[]⟩
noncomputable def o1229 (P : Params) : Obj := ⟨.none, none, (.fields #[]), #[]⟩
noncomputable def o1230 (P : Params) : Obj := ⟨.none, none, (.func ⟨(S "lacking_at"), (S "lacking_at"), defArgs (topS 131), .stmts (defBody (topS 131)), defScope (topS 131), 0, [], .none, .none, .none, .none, none, .none, .none, 0⟩), #[]⟩
noncomputable def o1231 (P : Params) : Obj := ⟨(.type "code"), none, (.fields #[(.str (S "lacking_at") 2118), (.str (S "lacking_at") 2119), (.str (S "/claim/cut.py") 2120), (.int (793) 0), (.int (2) 0), (.int (0) 0), (.int (0) 0), (.int (3) 0), (.ref 1228), (.bool true), (.int (453) 0), (.ref 1229), .none, .none, .none, (.ref 1230), (.int (2121) 0), (.int (793) 0), (.str (S "/claim/cut.py") 2122)]), #[]⟩
noncomputable def o1232 (P : Params) : Obj := ⟨(.type "function"), none, (.func ⟨(S "lacking_at"), (S "lacking_at"), defArgs (topS 131), .stmts (defBody (topS 131)), defScope (topS 131), 3, [], .none, .none, .none, (.str (S "lastbell.bells") 2060), none, (.ref 1231), .none, 0⟩), #[]⟩
noncomputable def o1233 (P : Params) : Obj := ⟨(.type "tuple"), none, (.seq #[] 0), #[]⟩
noncomputable def o1234 (P : Params) : Obj := ⟨.none, none, (.fields #[]), #[]⟩
noncomputable def o1235 (P : Params) : Obj := ⟨.none, none, (.func ⟨(S "dearest_order"), (S "dearest_order"), defArgs (topS 133), .stmts (defBody (topS 133)), defScope (topS 133), 0, [], .none, .none, .none, .none, none, .none, .none, 0⟩), #[]⟩
noncomputable def o1236 (P : Params) : Obj := ⟨(.type "code"), none, (.fields #[(.str (S "dearest_order") 2126), (.str (S "dearest_order") 2127), (.str (S "/claim/cut.py") 2128), (.int (796) 0), (.int (3) 0), (.int (0) 0), (.int (0) 0), (.int (3) 0), (.ref 1233), (.bool true), (.int (453) 0), (.ref 1234), .none, .none, .none, (.ref 1235), (.int (2129) 0), (.int (796) 0), (.str (S "/claim/cut.py") 2130)]), #[]⟩
noncomputable def o1237 (P : Params) : Obj := ⟨(.type "function"), none, (.func ⟨(S "dearest_order"), (S "dearest_order"), defArgs (topS 133), .stmts (defBody (topS 133)), defScope (topS 133), 3, [], .none, .none, .none, (.str (S "lastbell.dearest") 2124), none, (.ref 1236), .none, 0⟩), #[]⟩
noncomputable def o1238 (P : Params) : Obj := ⟨(.type "tuple"), none, (.seq #[] 0), #[]⟩
noncomputable def o1239 (P : Params) : Obj := ⟨.none, none, (.fields #[]), #[]⟩
noncomputable def o1240 (P : Params) : Obj := ⟨.none, none, (.func ⟨(S "dearest"), (S "dearest"), defArgs (topS 134), .stmts (defBody (topS 134)), defScope (topS 134), 0, [], .none, .none, .none, .none, none, .none, .none, 0⟩), #[]⟩
noncomputable def o1241 (P : Params) : Obj := ⟨(.type "code"), none, (.fields #[(.str (S "dearest") 2132), (.str (S "dearest") 2133), (.str (S "/claim/cut.py") 2134), (.int (805) 0), (.int (3) 0), (.int (0) 0), (.int (0) 0), (.int (3) 0), (.ref 1238), (.bool true), (.int (453) 0), (.ref 1239), .none, .none, .none, (.ref 1240), (.int (2135) 0), (.int (805) 0), (.str (S "/claim/cut.py") 2136)]), #[]⟩
noncomputable def o1242 (P : Params) : Obj := ⟨(.type "function"), none, (.func ⟨(S "dearest"), (S "dearest"), defArgs (topS 134), .stmts (defBody (topS 134)), defScope (topS 134), 3, [], .none, .none, .none, (.str (S "lastbell.dearest") 2124), none, (.ref 1241), .none, 0⟩), #[]⟩
noncomputable def o1243 (P : Params) : Obj := ⟨(.type "tuple"), none, (.seq #[] 0), #[]⟩
noncomputable def o1244 (P : Params) : Obj := ⟨.none, none, (.fields #[]), #[]⟩
noncomputable def o1245 (P : Params) : Obj := ⟨(.type "tuple"), none, (.seq #[(.str (S "thing") 2143), (.str (S "top") 2144), (.str (S "bottom") 2145)] 0), #[]⟩
noncomputable def o1246 (P : Params) : Obj := ⟨(.type "tuple"), none, (.seq #[] 0), #[]⟩
noncomputable def o1247 (P : Params) : Obj := ⟨.none, none, (.func ⟨(S "is_fraction"), (S "is_fraction"), defArgs (topS 136), .stmts (defBody (topS 136)), defScope (topS 136), 0, [], .none, .none, .none, .none, none, .none, .none, 0⟩), #[]⟩
noncomputable def o1248 (P : Params) : Obj := ⟨(.type "code"), none, (.fields #[(.str (S "is_fraction") 2140), (.str (S "is_fraction") 2141), (.str (S "/claim/cut.py") 2142), (.int (809) 0), (.int (1) 0), (.int (0) 0), (.int (0) 0), (.int (3) 0), (.ref 1243), (.bool true), (.int (453) 0), (.ref 1244), .none, (.ref 1245), (.ref 1246), (.ref 1247), (.int (2146) 0), (.int (809) 0), (.str (S "/claim/cut.py") 2147)]), #[]⟩
noncomputable def o1249 (P : Params) : Obj := ⟨(.type "function"), none, (.func ⟨(S "is_fraction"), (S "is_fraction"), defArgs (topS 136), .stmts (defBody (topS 136)), defScope (topS 136), 3, [], .none, .none, .none, (.str (S "lastbell.ratios") 2138), none, (.ref 1248), .none, 0⟩), #[]⟩
noncomputable def o1250 (P : Params) : Obj := ⟨(.type "tuple"), none, (.seq #[] 0), #[]⟩
noncomputable def o1251 (P : Params) : Obj := ⟨.none, none, (.fields #[]), #[]⟩
noncomputable def o1252 (P : Params) : Obj := ⟨(.type "tuple"), none, (.seq #[(.str (S "top") 2152), (.str (S "bottom") 2153), (.str (S "common") 2154)] 0), #[]⟩
noncomputable def o1253 (P : Params) : Obj := ⟨(.type "tuple"), none, (.seq #[] 0), #[]⟩
noncomputable def o1254 (P : Params) : Obj := ⟨.none, none, (.func ⟨(S "fraction"), (S "fraction"), defArgs (topS 137), .stmts (defBody (topS 137)), defScope (topS 137), 0, [], .none, .none, .none, .none, none, .none, .none, 0⟩), #[]⟩
noncomputable def o1255 (P : Params) : Obj := ⟨(.type "code"), none, (.fields #[(.str (S "fraction") 2149), (.str (S "fraction") 2150), (.str (S "/claim/cut.py") 2151), (.int (814) 0), (.int (2) 0), (.int (0) 0), (.int (0) 0), (.int (3) 0), (.ref 1250), (.bool true), (.int (453) 0), (.ref 1251), .none, (.ref 1252), (.ref 1253), (.ref 1254), (.int (2155) 0), (.int (814) 0), (.str (S "/claim/cut.py") 2156)]), #[]⟩
noncomputable def o1256 (P : Params) : Obj := ⟨(.type "function"), none, (.func ⟨(S "fraction"), (S "fraction"), defArgs (topS 137), .stmts (defBody (topS 137)), defScope (topS 137), 3, [], .none, .none, .none, (.str (S "lastbell.ratios") 2138), none, (.ref 1255), .none, 0⟩), #[]⟩
noncomputable def o1257 (P : Params) : Obj := ⟨(.type "tuple"), none, (.seq #[] 0), #[]⟩
noncomputable def o1258 (P : Params) : Obj := ⟨.none, none, (.fields #[]), #[]⟩
noncomputable def o1259 (P : Params) : Obj := ⟨(.type "tuple"), none, (.seq #[(.str (S "pairs") 2161), (.str (S "least") 2162), (.str (S "by") 2163), (.str (S "top") 2164), (.str (S "bottom") 2165)] 0), #[]⟩
noncomputable def o1260 (P : Params) : Obj := ⟨(.type "tuple"), none, (.seq #[] 0), #[]⟩
noncomputable def o1261 (P : Params) : Obj := ⟨.none, none, (.func ⟨(S "least_fraction"), (S "least_fraction"), defArgs (topS 138), .stmts (defBody (topS 138)), defScope (topS 138), 0, [], .none, .none, .none, .none, none, .none, .none, 0⟩), #[]⟩
noncomputable def o1262 (P : Params) : Obj := ⟨(.type "code"), none, (.fields #[(.str (S "least_fraction") 2158), (.str (S "least_fraction") 2159), (.str (S "/claim/cut.py") 2160), (.int (817) 0), (.int (1) 0), (.int (0) 0), (.int (0) 0), (.int (3) 0), (.ref 1257), (.bool true), (.int (453) 0), (.ref 1258), .none, (.ref 1259), (.ref 1260), (.ref 1261), (.int (2166) 0), (.int (817) 0), (.str (S "/claim/cut.py") 2167)]), #[]⟩
noncomputable def o1263 (P : Params) : Obj := ⟨(.type "function"), none, (.func ⟨(S "least_fraction"), (S "least_fraction"), defArgs (topS 138), .stmts (defBody (topS 138)), defScope (topS 138), 3, [], .none, .none, .none, (.str (S "lastbell.ratios") 2138), none, (.ref 1262), .none, 0⟩), #[]⟩
noncomputable def o1264 (P : Params) : Obj := ⟨(.type "tuple"), none, (.seq #[] 0), #[]⟩
noncomputable def o1265 (P : Params) : Obj := ⟨.none, none, (.fields #[]), #[]⟩
noncomputable def o1266 (P : Params) : Obj := ⟨(.type "tuple"), none, (.seq #[(.str (S "house") 2174), (.str (S "wishes") 2175), (.str (S "bell") 2176), (.str (S "up") 2177), (.str (S "down") 2178)] 0), #[]⟩
noncomputable def o1267 (P : Params) : Obj := ⟨(.type "tuple"), none, (.seq #[] 0), #[]⟩
noncomputable def o1268 (P : Params) : Obj := ⟨.none, none, (.func ⟨(S "further"), (S "further"), defArgs (topS 140), .stmts (defBody (topS 140)), defScope (topS 140), 0, [], .none, .none, .none, .none, none, .none, .none, 0⟩), #[]⟩
noncomputable def o1269 (P : Params) : Obj := ⟨(.type "code"), none, (.fields #[(.str (S "further") 2171), (.str (S "further") 2172), (.str (S "/claim/cut.py") 2173), (.int (825) 0), (.int (5) 0), (.int (0) 0), (.int (0) 0), (.int (3) 0), (.ref 1264), (.bool true), (.int (453) 0), (.ref 1265), .none, (.ref 1266), (.ref 1267), (.ref 1268), (.int (2179) 0), (.int (825) 0), (.str (S "/claim/cut.py") 2180)]), #[]⟩
noncomputable def o1270 (P : Params) : Obj := ⟨(.type "function"), none, (.func ⟨(S "further"), (S "further"), defArgs (topS 140), .stmts (defBody (topS 140)), defScope (topS 140), 3, [], .none, .none, .none, (.str (S "lastbell.further") 2169), none, (.ref 1269), .none, 0⟩), #[]⟩
noncomputable def o1271 (P : Params) : Obj := ⟨(.type "tuple"), none, (.seq #[] 0), #[]⟩
noncomputable def o1272 (P : Params) : Obj := ⟨.none, none, (.fields #[]), #[]⟩
noncomputable def o1273 (P : Params) : Obj := ⟨.none, none, (.func ⟨(S "least_between"), (S "least_between"), defArgs (topS 141), .stmts (defBody (topS 141)), defScope (topS 141), 0, [], .none, .none, .none, .none, none, .none, .none, 0⟩), #[]⟩
noncomputable def o1274 (P : Params) : Obj := ⟨(.type "code"), none, (.fields #[(.str (S "least_between") 2182), (.str (S "least_between") 2183), (.str (S "/claim/cut.py") 2184), (.int (834) 0), (.int (3) 0), (.int (0) 0), (.int (0) 0), (.int (3) 0), (.ref 1271), (.bool true), (.int (453) 0), (.ref 1272), .none, .none, .none, (.ref 1273), (.int (2185) 0), (.int (834) 0), (.str (S "/claim/cut.py") 2186)]), #[]⟩
noncomputable def o1275 (P : Params) : Obj := ⟨(.type "function"), none, (.func ⟨(S "least_between"), (S "least_between"), defArgs (topS 141), .stmts (defBody (topS 141)), defScope (topS 141), 3, [], .none, .none, .none, (.str (S "lastbell.further") 2169), none, (.ref 1274), .none, 0⟩), #[]⟩
noncomputable def o1276 (P : Params) : Obj := ⟨(.type "tuple"), none, (.seq #[] 0), #[]⟩
noncomputable def o1277 (P : Params) : Obj := ⟨.none, none, (.fields #[]), #[]⟩
noncomputable def o1278 (P : Params) : Obj := ⟨.none, none, (.func ⟨(S "kept_spares"), (S "kept_spares"), defArgs (topS 142), .stmts (defBody (topS 142)), defScope (topS 142), 0, [], .none, .none, .none, .none, none, .none, .none, 0⟩), #[]⟩
noncomputable def o1279 (P : Params) : Obj := ⟨(.type "code"), none, (.fields #[(.str (S "kept_spares") 2188), (.str (S "kept_spares") 2189), (.str (S "/claim/cut.py") 2190), (.int (836) 0), (.int (3) 0), (.int (0) 0), (.int (0) 0), (.int (3) 0), (.ref 1276), (.bool true), (.int (453) 0), (.ref 1277), .none, .none, .none, (.ref 1278), (.int (2191) 0), (.int (836) 0), (.str (S "/claim/cut.py") 2192)]), #[]⟩
noncomputable def o1280 (P : Params) : Obj := ⟨(.type "function"), none, (.func ⟨(S "kept_spares"), (S "kept_spares"), defArgs (topS 142), .stmts (defBody (topS 142)), defScope (topS 142), 3, [], .none, .none, .none, (.str (S "lastbell.further") 2169), none, (.ref 1279), .none, 0⟩), #[]⟩
noncomputable def o1281 (P : Params) : Obj := ⟨(.type "tuple"), none, (.seq #[] 0), #[]⟩
noncomputable def o1282 (P : Params) : Obj := ⟨.none, none, (.fields #[]), #[]⟩
noncomputable def o1283 (P : Params) : Obj := ⟨.none, none, (.func ⟨(S "tight"), (S "tight"), defArgs (topS 143), .stmts (defBody (topS 143)), defScope (topS 143), 0, [], .none, .none, .none, .none, none, .none, .none, 0⟩), #[]⟩
noncomputable def o1284 (P : Params) : Obj := ⟨(.type "code"), none, (.fields #[(.str (S "tight") 2194), (.str (S "tight") 2195), (.str (S "/claim/cut.py") 2196), (.int (842) 0), (.int (3) 0), (.int (0) 0), (.int (0) 0), (.int (3) 0), (.ref 1281), (.bool true), (.int (453) 0), (.ref 1282), .none, .none, .none, (.ref 1283), (.int (2197) 0), (.int (842) 0), (.str (S "/claim/cut.py") 2198)]), #[]⟩
noncomputable def o1285 (P : Params) : Obj := ⟨(.type "function"), none, (.func ⟨(S "tight"), (S "tight"), defArgs (topS 143), .stmts (defBody (topS 143)), defScope (topS 143), 3, [], .none, .none, .none, (.str (S "lastbell.further") 2169), none, (.ref 1284), .none, 0⟩), #[]⟩
noncomputable def o1286 (P : Params) : Obj := ⟨(.type "tuple"), none, (.seq #[] 0), #[]⟩
noncomputable def o1287 (P : Params) : Obj := ⟨.none, none, (.fields #[]), #[]⟩
noncomputable def o1288 (P : Params) : Obj := ⟨.none, none, (.func ⟨(S "bound"), (S "bound"), defArgs (topS 144), .stmts (defBody (topS 144)), defScope (topS 144), 0, [], .none, .none, .none, .none, none, .none, .none, 0⟩), #[]⟩
noncomputable def o1289 (P : Params) : Obj := ⟨(.type "code"), none, (.fields #[(.str (S "bound") 2200), (.str (S "bound") 2201), (.str (S "/claim/cut.py") 2202), (.int (847) 0), (.int (4) 0), (.int (0) 0), (.int (0) 0), (.int (3) 0), (.ref 1286), (.bool true), (.int (453) 0), (.ref 1287), .none, .none, .none, (.ref 1288), (.int (2203) 0), (.int (847) 0), (.str (S "/claim/cut.py") 2204)]), #[]⟩
noncomputable def o1290 (P : Params) : Obj := ⟨(.type "function"), none, (.func ⟨(S "bound"), (S "bound"), defArgs (topS 144), .stmts (defBody (topS 144)), defScope (topS 144), 3, [], .none, .none, .none, (.str (S "lastbell.further") 2169), none, (.ref 1289), .none, 0⟩), #[]⟩
noncomputable def o1291 (P : Params) : Obj := ⟨(.type "tuple"), none, (.seq #[] 0), #[]⟩
noncomputable def o1292 (P : Params) : Obj := ⟨.none, none, (.fields #[]), #[]⟩
noncomputable def o1293 (P : Params) : Obj := ⟨.none, none, (.func ⟨(S "times"), (S "times"), defArgs (topS 145), .stmts (defBody (topS 145)), defScope (topS 145), 0, [], .none, .none, .none, .none, none, .none, .none, 0⟩), #[]⟩
noncomputable def o1294 (P : Params) : Obj := ⟨(.type "code"), none, (.fields #[(.str (S "times") 2206), (.str (S "times") 2207), (.str (S "/claim/cut.py") 2208), (.int (853) 0), (.int (3) 0), (.int (0) 0), (.int (0) 0), (.int (3) 0), (.ref 1291), (.bool true), (.int (453) 0), (.ref 1292), .none, .none, .none, (.ref 1293), (.int (2209) 0), (.int (853) 0), (.str (S "/claim/cut.py") 2210)]), #[]⟩
noncomputable def o1295 (P : Params) : Obj := ⟨(.type "function"), none, (.func ⟨(S "times"), (S "times"), defArgs (topS 145), .stmts (defBody (topS 145)), defScope (topS 145), 3, [], .none, .none, .none, (.str (S "lastbell.further") 2169), none, (.ref 1294), .none, 0⟩), #[]⟩
noncomputable def o1296 (P : Params) : Obj := ⟨(.type "tuple"), none, (.seq #[] 0), #[]⟩
noncomputable def o1297 (P : Params) : Obj := ⟨.none, none, (.fields #[]), #[]⟩
noncomputable def o1298 (P : Params) : Obj := ⟨(.type "tuple"), none, (.seq #[(.str (S "house") 2215), (.str (S "wishes") 2216), (.str (S "bell") 2217), (.str (S "told") 2218)] 0), #[]⟩
noncomputable def o1299 (P : Params) : Obj := ⟨(.type "tuple"), none, (.seq #[] 0), #[]⟩
noncomputable def o1300 (P : Params) : Obj := ⟨.none, none, (.func ⟨(S "whole_times"), (S "whole_times"), defArgs (topS 146), .stmts (defBody (topS 146)), defScope (topS 146), 0, [], .none, .none, .none, .none, none, .none, .none, 0⟩), #[]⟩
noncomputable def o1301 (P : Params) : Obj := ⟨(.type "code"), none, (.fields #[(.str (S "whole_times") 2212), (.str (S "whole_times") 2213), (.str (S "/claim/cut.py") 2214), (.int (861) 0), (.int (3) 0), (.int (0) 0), (.int (0) 0), (.int (3) 0), (.ref 1296), (.bool true), (.int (453) 0), (.ref 1297), .none, (.ref 1298), (.ref 1299), (.ref 1300), (.int (2219) 0), (.int (861) 0), (.str (S "/claim/cut.py") 2220)]), #[]⟩
noncomputable def o1302 (P : Params) : Obj := ⟨(.type "function"), none, (.func ⟨(S "whole_times"), (S "whole_times"), defArgs (topS 146), .stmts (defBody (topS 146)), defScope (topS 146), 3, [], .none, .none, .none, (.str (S "lastbell.further") 2169), none, (.ref 1301), .none, 0⟩), #[]⟩
noncomputable def o1303 (P : Params) : Obj := ⟨(.type "tuple"), none, (.seq #[] 0), #[]⟩
noncomputable def o1304 (P : Params) : Obj := ⟨.none, none, (.fields #[]), #[]⟩
noncomputable def o1305 (P : Params) : Obj := ⟨.none, none, (.func ⟨(S "are_let"), (S "are_let"), defArgs (topS 148), .stmts (defBody (topS 148)), defScope (topS 148), 0, [], .none, .none, .none, .none, none, .none, .none, 0⟩), #[]⟩
noncomputable def o1306 (P : Params) : Obj := ⟨(.type "code"), none, (.fields #[(.str (S "are_let") 2224), (.str (S "are_let") 2225), (.str (S "/claim/cut.py") 2226), (.int (865) 0), (.int (3) 0), (.int (0) 0), (.int (0) 0), (.int (3) 0), (.ref 1303), (.bool true), (.int (453) 0), (.ref 1304), .none, .none, .none, (.ref 1305), (.int (2227) 0), (.int (865) 0), (.str (S "/claim/cut.py") 2228)]), #[]⟩
noncomputable def o1307 (P : Params) : Obj := ⟨(.type "function"), none, (.func ⟨(S "are_let"), (S "are_let"), defArgs (topS 148), .stmts (defBody (topS 148)), defScope (topS 148), 3, [], .none, .none, .none, (.str (S "lastbell.chains") 2222), none, (.ref 1306), .none, 0⟩), #[]⟩
noncomputable def o1308 (P : Params) : Obj := ⟨(.type "tuple"), none, (.seq #[] 0), #[]⟩
noncomputable def o1309 (P : Params) : Obj := ⟨.none, none, (.fields #[]), #[]⟩
noncomputable def o1310 (P : Params) : Obj := ⟨.none, none, (.func ⟨(S "tight_lots"), (S "tight_lots"), defArgs (topS 149), .stmts (defBody (topS 149)), defScope (topS 149), 0, [], .none, .none, .none, .none, none, .none, .none, 0⟩), #[]⟩
noncomputable def o1311 (P : Params) : Obj := ⟨(.type "code"), none, (.fields #[(.str (S "tight_lots") 2230), (.str (S "tight_lots") 2231), (.str (S "/claim/cut.py") 2232), (.int (867) 0), (.int (4) 0), (.int (0) 0), (.int (0) 0), (.int (3) 0), (.ref 1308), (.bool true), (.int (453) 0), (.ref 1309), .none, .none, .none, (.ref 1310), (.int (2233) 0), (.int (867) 0), (.str (S "/claim/cut.py") 2234)]), #[]⟩
noncomputable def o1312 (P : Params) : Obj := ⟨(.type "function"), none, (.func ⟨(S "tight_lots"), (S "tight_lots"), defArgs (topS 149), .stmts (defBody (topS 149)), defScope (topS 149), 3, [], .none, .none, .none, (.str (S "lastbell.chains") 2222), none, (.ref 1311), .none, 0⟩), #[]⟩
noncomputable def o1313 (P : Params) : Obj := ⟨(.type "tuple"), none, (.seq #[] 0), #[]⟩
noncomputable def o1314 (P : Params) : Obj := ⟨.none, none, (.fields #[]), #[]⟩
noncomputable def o1315 (P : Params) : Obj := ⟨.none, none, (.func ⟨(S "groups_between"), (S "groups_between"), defArgs (topS 150), .stmts (defBody (topS 150)), defScope (topS 150), 0, [], .none, .none, .none, .none, none, .none, .none, 0⟩), #[]⟩
noncomputable def o1316 (P : Params) : Obj := ⟨(.type "code"), none, (.fields #[(.str (S "groups_between") 2236), (.str (S "groups_between") 2237), (.str (S "/claim/cut.py") 2238), (.int (869) 0), (.int (1) 0), (.int (0) 0), (.int (0) 0), (.int (3) 0), (.ref 1313), (.bool true), (.int (453) 0), (.ref 1314), .none, .none, .none, (.ref 1315), (.int (2239) 0), (.int (869) 0), (.str (S "/claim/cut.py") 2240)]), #[]⟩
noncomputable def o1317 (P : Params) : Obj := ⟨(.type "function"), none, (.func ⟨(S "groups_between"), (S "groups_between"), defArgs (topS 150), .stmts (defBody (topS 150)), defScope (topS 150), 3, [], .none, .none, .none, (.str (S "lastbell.chains") 2222), none, (.ref 1316), .none, 0⟩), #[]⟩
noncomputable def o1318 (P : Params) : Obj := ⟨(.type "tuple"), none, (.seq #[] 0), #[]⟩
noncomputable def o1319 (P : Params) : Obj := ⟨.none, none, (.fields #[]), #[]⟩
noncomputable def o1320 (P : Params) : Obj := ⟨.none, none, (.func ⟨(S "in_one"), (S "in_one"), defArgs (topS 151), .stmts (defBody (topS 151)), defScope (topS 151), 0, [], .none, .none, .none, .none, none, .none, .none, 0⟩), #[]⟩
noncomputable def o1321 (P : Params) : Obj := ⟨(.type "code"), none, (.fields #[(.str (S "in_one") 2242), (.str (S "in_one") 2243), (.str (S "/claim/cut.py") 2244), (.int (877) 0), (.int (1) 0), (.int (0) 0), (.int (0) 0), (.int (3) 0), (.ref 1318), (.bool true), (.int (453) 0), (.ref 1319), .none, .none, .none, (.ref 1320), (.int (2245) 0), (.int (877) 0), (.str (S "/claim/cut.py") 2246)]), #[]⟩
noncomputable def o1322 (P : Params) : Obj := ⟨(.type "function"), none, (.func ⟨(S "in_one"), (S "in_one"), defArgs (topS 151), .stmts (defBody (topS 151)), defScope (topS 151), 3, [], .none, .none, .none, (.str (S "lastbell.chains") 2222), none, (.ref 1321), .none, 0⟩), #[]⟩
noncomputable def o1323 (P : Params) : Obj := ⟨(.type "tuple"), none, (.seq #[] 0), #[]⟩
noncomputable def o1324 (P : Params) : Obj := ⟨.none, none, (.fields #[]), #[]⟩
noncomputable def o1325 (P : Params) : Obj := ⟨(.type "tuple"), none, (.seq #[(.str (S "house") 2253), (.str (S "parts") 2254), (.str (S "wrong") 2255), (.str (S "places") 2256), (.str (S "roads") 2257), (.str (S "doors") 2258), (.str (S "door") 2259), (.str (S "room") 2260), (.str (S "late") 2261), (.str (S "sort") 2262), (.str (S "place") 2263), (.str (S "hour") 2264)] 0), #[]⟩
noncomputable def o1326 (P : Params) : Obj := ⟨(.type "tuple"), none, (.seq #[] 0), #[]⟩
noncomputable def o1327 (P : Params) : Obj := ⟨.none, none, (.func ⟨(S "parted"), (S "parted"), defArgs (topS 153), .stmts (defBody (topS 153)), defScope (topS 153), 0, [], .none, .none, .none, .none, none, .none, .none, 0⟩), #[]⟩
noncomputable def o1328 (P : Params) : Obj := ⟨(.type "code"), none, (.fields #[(.str (S "parted") 2250), (.str (S "parted") 2251), (.str (S "/claim/cut.py") 2252), (.int (880) 0), (.int (2) 0), (.int (0) 0), (.int (0) 0), (.int (3) 0), (.ref 1323), (.bool true), (.int (453) 0), (.ref 1324), .none, (.ref 1325), (.ref 1326), (.ref 1327), (.int (2265) 0), (.int (880) 0), (.str (S "/claim/cut.py") 2266)]), #[]⟩
noncomputable def o1329 (P : Params) : Obj := ⟨(.type "function"), none, (.func ⟨(S "parted"), (S "parted"), defArgs (topS 153), .stmts (defBody (topS 153)), defScope (topS 153), 3, [], .none, .none, .none, (.str (S "lastbell.parts") 2248), none, (.ref 1328), .none, 0⟩), #[]⟩
noncomputable def o1330 (P : Params) : Obj := ⟨(.type "tuple"), none, (.seq #[] 0), #[]⟩
noncomputable def o1331 (P : Params) : Obj := ⟨.none, none, (.fields #[]), #[]⟩
noncomputable def o1332 (P : Params) : Obj := ⟨(.type "tuple"), none, (.seq #[(.str (S "house") 2271), (.str (S "thing") 2272), (.str (S "many") 2273), (.str (S "index") 2274), (.str (S "part") 2275)] 0), #[]⟩
noncomputable def o1333 (P : Params) : Obj := ⟨(.type "tuple"), none, (.seq #[] 0), #[]⟩
noncomputable def o1334 (P : Params) : Obj := ⟨.none, none, (.func ⟨(S "first_wrong_part"), (S "first_wrong_part"), defArgs (topS 154), .stmts (defBody (topS 154)), defScope (topS 154), 0, [], .none, .none, .none, .none, none, .none, .none, 0⟩), #[]⟩
noncomputable def o1335 (P : Params) : Obj := ⟨(.type "code"), none, (.fields #[(.str (S "first_wrong_part") 2268), (.str (S "first_wrong_part") 2269), (.str (S "/claim/cut.py") 2270), (.int (897) 0), (.int (2) 0), (.int (0) 0), (.int (0) 0), (.int (3) 0), (.ref 1330), (.bool true), (.int (453) 0), (.ref 1331), .none, (.ref 1332), (.ref 1333), (.ref 1334), (.int (2276) 0), (.int (897) 0), (.str (S "/claim/cut.py") 2277)]), #[]⟩
noncomputable def o1336 (P : Params) : Obj := ⟨(.type "function"), none, (.func ⟨(S "first_wrong_part"), (S "first_wrong_part"), defArgs (topS 154), .stmts (defBody (topS 154)), defScope (topS 154), 3, [], .none, .none, .none, (.str (S "lastbell.parts") 2248), none, (.ref 1335), .none, 0⟩), #[]⟩
noncomputable def o1337 (P : Params) : Obj := ⟨(.type "tuple"), none, (.seq #[] 0), #[]⟩
noncomputable def o1338 (P : Params) : Obj := ⟨.none, none, (.fields #[]), #[]⟩
noncomputable def o1339 (P : Params) : Obj := ⟨(.type "tuple"), none, (.seq #[(.str (S "many") 2282), (.str (S "thing") 2283), (.str (S "door") 2284), (.str (S "room") 2285), (.str (S "late") 2286)] 0), #[]⟩
noncomputable def o1340 (P : Params) : Obj := ⟨(.type "tuple"), none, (.seq #[] 0), #[]⟩
noncomputable def o1341 (P : Params) : Obj := ⟨.none, none, (.func ⟨(S "is_part"), (S "is_part"), defArgs (topS 155), .stmts (defBody (topS 155)), defScope (topS 155), 0, [], .none, .none, .none, .none, none, .none, .none, 0⟩), #[]⟩
noncomputable def o1342 (P : Params) : Obj := ⟨(.type "code"), none, (.fields #[(.str (S "is_part") 2279), (.str (S "is_part") 2280), (.str (S "/claim/cut.py") 2281), (.int (905) 0), (.int (2) 0), (.int (0) 0), (.int (0) 0), (.int (3) 0), (.ref 1337), (.bool true), (.int (453) 0), (.ref 1338), .none, (.ref 1339), (.ref 1340), (.ref 1341), (.int (2287) 0), (.int (905) 0), (.str (S "/claim/cut.py") 2288)]), #[]⟩
noncomputable def o1343 (P : Params) : Obj := ⟨(.type "function"), none, (.func ⟨(S "is_part"), (S "is_part"), defArgs (topS 155), .stmts (defBody (topS 155)), defScope (topS 155), 3, [], .none, .none, .none, (.str (S "lastbell.parts") 2248), none, (.ref 1342), .none, 0⟩), #[]⟩
noncomputable def o1344 (P : Params) : Obj := ⟨(.type "tuple"), none, (.seq #[] 0), #[]⟩
noncomputable def o1345 (P : Params) : Obj := ⟨(.type "builtin_function_or_method"), none, (.fields #[(.builtin "type.__prepare__"), (.type "type")]), #[]⟩
noncomputable def o1346 (P : Params) : Obj := ⟨(.type "dict"), none, (.dict #[E P "__module__" 2299 (.str (S "lastbell.gaps") 2290), E P "__qualname__" 2301 (.str (S "Gap") 2300), E P "__firstlineno__" 2303 (.int (911) 2302), E P "__init__" 2316 (.ref 1357), E P "parting" 2322 (.ref 1362), E P "in_order" 2330 (.ref 1369), E P "new_doors" 2339 (.ref 1376), E P "width" 2345 (.ref 1381), E P "weakest" 2359 (.ref 1388), E P "parts_of" 2369 (.ref 1395), E P "lacks" 2375 (.ref 1400), E P "__static_attributes__" 2384 (.ref 1401)] 12), #[]⟩
noncomputable def o1347 (P : Params) : Obj := ⟨(.type "tuple"), none, (.seq #[] 0), #[]⟩
noncomputable def o1348 (P : Params) : Obj := ⟨.none, none, (.fields #[(.int (913) 0), (.int (4) 0), (.ref 1356), (.int (923) 0), (.int (4) 0), (.ref 1361), (.int (932) 0), (.int (4) 0), (.ref 1368), (.int (935) 0), (.int (4) 0), (.ref 1375), (.int (939) 0), (.int (4) 0), (.ref 1380), (.int (944) 0), (.int (4) 0), (.ref 1387), (.int (960) 0), (.int (4) 0), (.ref 1394), (.int (966) 0), (.int (4) 0), (.ref 1399)]), #[]⟩
noncomputable def o1349 (P : Params) : Obj := ⟨(.type "code"), none, (.fields #[(.str (S "Gap") 2294), (.str (S "Gap") 2295), (.str (S "/claim/cut.py") 2296), (.int (911) 0), (.int (0) 0), (.int (0) 0), (.int (0) 0), (.int (0) 0), (.ref 1347), (.bool false), (.int (453) 0), (.ref 1348), .none, .none, .none, .none, (.int (2297) 0), (.int (911) 0), (.str (S "/claim/cut.py") 2298)]), #[]⟩
noncomputable def o1350 (P : Params) : Obj := ⟨(.type "frame"), none, .plain, #[some (.ref 1349), some (.ref 3), some (.ref 1346), none, some (.str (S "lastbell.gaps") 2290), none, some (.ref 0)]⟩
noncomputable def o1351 (P : Params) : Obj := ⟨(.type "tuple"), none, (.seq #[] 0), #[]⟩
noncomputable def o1352 (P : Params) : Obj := ⟨.none, none, (.fields #[]), #[]⟩
noncomputable def o1353 (P : Params) : Obj := ⟨(.type "tuple"), none, (.seq #[(.str (S "self") 2307), (.str (S "house") 2308), (.str (S "wishes") 2309), (.str (S "bell") 2310), (.str (S "parts") 2311), (.str (S "ahead") 2312), (.str (S "group") 2313)] 0), #[]⟩
noncomputable def o1354 (P : Params) : Obj := ⟨(.type "tuple"), none, (.seq #[] 0), #[]⟩
noncomputable def o1355 (P : Params) : Obj := ⟨.none, none, (.func ⟨(S "__init__"), (S "Gap.__init__"), defArgs (inClass (topS 157) 0), .stmts (defBody (inClass (topS 157) 0)), defScope (inClass (topS 157) 0), 0, [], .none, .none, .none, .none, none, .none, .none, 0⟩), #[]⟩
noncomputable def o1356 (P : Params) : Obj := ⟨(.type "code"), none, (.fields #[(.str (S "__init__") 2304), (.str (S "Gap.__init__") 2305), (.str (S "/claim/cut.py") 2306), (.int (913) 0), (.int (7) 0), (.int (0) 0), (.int (0) 0), (.int (3) 0), (.ref 1351), (.bool true), (.int (453) 0), (.ref 1352), .none, (.ref 1353), (.ref 1354), (.ref 1355), (.int (2314) 0), (.int (913) 0), (.str (S "/claim/cut.py") 2315)]), #[]⟩
noncomputable def o1357 (P : Params) : Obj := ⟨(.type "function"), none, (.func ⟨(S "__init__"), (S "Gap.__init__"), defArgs (inClass (topS 157) 0), .stmts (defBody (inClass (topS 157) 0)), defScope (inClass (topS 157) 0), 3, [], .none, .none, .none, (.str (S "lastbell.gaps") 2290), none, (.ref 1356), .none, 0⟩), #[]⟩
noncomputable def o1358 (P : Params) : Obj := ⟨(.type "tuple"), none, (.seq #[] 0), #[]⟩
noncomputable def o1359 (P : Params) : Obj := ⟨.none, none, (.fields #[]), #[]⟩
noncomputable def o1360 (P : Params) : Obj := ⟨.none, none, (.func ⟨(S "parting"), (S "Gap.parting"), defArgs (inClass (topS 157) 1), .stmts (defBody (inClass (topS 157) 1)), defScope (inClass (topS 157) 1), 0, [], .none, .none, .none, .none, none, .none, .none, 0⟩), #[]⟩
noncomputable def o1361 (P : Params) : Obj := ⟨(.type "code"), none, (.fields #[(.str (S "parting") 2317), (.str (S "Gap.parting") 2318), (.str (S "/claim/cut.py") 2319), (.int (923) 0), (.int (1) 0), (.int (0) 0), (.int (0) 0), (.int (3) 0), (.ref 1358), (.bool true), (.int (453) 0), (.ref 1359), .none, .none, .none, (.ref 1360), (.int (2320) 0), (.int (923) 0), (.str (S "/claim/cut.py") 2321)]), #[]⟩
noncomputable def o1362 (P : Params) : Obj := ⟨(.type "function"), none, (.func ⟨(S "parting"), (S "Gap.parting"), defArgs (inClass (topS 157) 1), .stmts (defBody (inClass (topS 157) 1)), defScope (inClass (topS 157) 1), 3, [], .none, .none, .none, (.str (S "lastbell.gaps") 2290), none, (.ref 1361), .none, 0⟩), #[]⟩
noncomputable def o1363 (P : Params) : Obj := ⟨(.type "tuple"), none, (.seq #[] 0), #[]⟩
noncomputable def o1364 (P : Params) : Obj := ⟨.none, none, (.fields #[]), #[]⟩
noncomputable def o1365 (P : Params) : Obj := ⟨(.type "tuple"), none, (.seq #[(.str (S "self") 2326), (.str (S "groups") 2327)] 0), #[]⟩
noncomputable def o1366 (P : Params) : Obj := ⟨(.type "tuple"), none, (.seq #[] 0), #[]⟩
noncomputable def o1367 (P : Params) : Obj := ⟨.none, none, (.func ⟨(S "in_order"), (S "Gap.in_order"), defArgs (inClass (topS 157) 2), .stmts (defBody (inClass (topS 157) 2)), defScope (inClass (topS 157) 2), 0, [], .none, .none, .none, .none, none, .none, .none, 0⟩), #[]⟩
noncomputable def o1368 (P : Params) : Obj := ⟨(.type "code"), none, (.fields #[(.str (S "in_order") 2323), (.str (S "Gap.in_order") 2324), (.str (S "/claim/cut.py") 2325), (.int (932) 0), (.int (2) 0), (.int (0) 0), (.int (0) 0), (.int (3) 0), (.ref 1363), (.bool true), (.int (453) 0), (.ref 1364), .none, (.ref 1365), (.ref 1366), (.ref 1367), (.int (2328) 0), (.int (932) 0), (.str (S "/claim/cut.py") 2329)]), #[]⟩
noncomputable def o1369 (P : Params) : Obj := ⟨(.type "function"), none, (.func ⟨(S "in_order"), (S "Gap.in_order"), defArgs (inClass (topS 157) 2), .stmts (defBody (inClass (topS 157) 2)), defScope (inClass (topS 157) 2), 3, [], .none, .none, .none, (.str (S "lastbell.gaps") 2290), none, (.ref 1368), .none, 0⟩), #[]⟩
noncomputable def o1370 (P : Params) : Obj := ⟨(.type "tuple"), none, (.seq #[] 0), #[]⟩
noncomputable def o1371 (P : Params) : Obj := ⟨.none, none, (.fields #[]), #[]⟩
noncomputable def o1372 (P : Params) : Obj := ⟨(.type "tuple"), none, (.seq #[(.str (S "self") 2334), (.str (S "parts") 2335), (.str (S "first") 2336)] 0), #[]⟩
noncomputable def o1373 (P : Params) : Obj := ⟨(.type "tuple"), none, (.seq #[] 0), #[]⟩
noncomputable def o1374 (P : Params) : Obj := ⟨.none, none, (.func ⟨(S "new_doors"), (S "Gap.new_doors"), defArgs (inClass (topS 157) 3), .stmts (defBody (inClass (topS 157) 3)), defScope (inClass (topS 157) 3), 0, [], .none, .none, .none, .none, none, .none, .none, 0⟩), #[]⟩
noncomputable def o1375 (P : Params) : Obj := ⟨(.type "code"), none, (.fields #[(.str (S "new_doors") 2331), (.str (S "Gap.new_doors") 2332), (.str (S "/claim/cut.py") 2333), (.int (935) 0), (.int (2) 0), (.int (0) 0), (.int (0) 0), (.int (3) 0), (.ref 1370), (.bool true), (.int (453) 0), (.ref 1371), .none, (.ref 1372), (.ref 1373), (.ref 1374), (.int (2337) 0), (.int (935) 0), (.str (S "/claim/cut.py") 2338)]), #[]⟩
noncomputable def o1376 (P : Params) : Obj := ⟨(.type "function"), none, (.func ⟨(S "new_doors"), (S "Gap.new_doors"), defArgs (inClass (topS 157) 3), .stmts (defBody (inClass (topS 157) 3)), defScope (inClass (topS 157) 3), 3, [], .none, .none, .none, (.str (S "lastbell.gaps") 2290), none, (.ref 1375), .none, 0⟩), #[]⟩
noncomputable def o1377 (P : Params) : Obj := ⟨(.type "tuple"), none, (.seq #[] 0), #[]⟩
noncomputable def o1378 (P : Params) : Obj := ⟨.none, none, (.fields #[]), #[]⟩
noncomputable def o1379 (P : Params) : Obj := ⟨.none, none, (.func ⟨(S "width"), (S "Gap.width"), defArgs (inClass (topS 157) 4), .stmts (defBody (inClass (topS 157) 4)), defScope (inClass (topS 157) 4), 0, [], .none, .none, .none, .none, none, .none, .none, 0⟩), #[]⟩
noncomputable def o1380 (P : Params) : Obj := ⟨(.type "code"), none, (.fields #[(.str (S "width") 2340), (.str (S "Gap.width") 2341), (.str (S "/claim/cut.py") 2342), (.int (939) 0), (.int (1) 0), (.int (0) 0), (.int (0) 0), (.int (3) 0), (.ref 1377), (.bool true), (.int (453) 0), (.ref 1378), .none, .none, .none, (.ref 1379), (.int (2343) 0), (.int (939) 0), (.str (S "/claim/cut.py") 2344)]), #[]⟩
noncomputable def o1381 (P : Params) : Obj := ⟨(.type "function"), none, (.func ⟨(S "width"), (S "Gap.width"), defArgs (inClass (topS 157) 4), .stmts (defBody (inClass (topS 157) 4)), defScope (inClass (topS 157) 4), 3, [], .none, .none, .none, (.str (S "lastbell.gaps") 2290), none, (.ref 1380), .none, 0⟩), #[]⟩
noncomputable def o1382 (P : Params) : Obj := ⟨(.type "tuple"), none, (.seq #[] 0), #[]⟩
noncomputable def o1383 (P : Params) : Obj := ⟨.none, none, (.fields #[]), #[]⟩
noncomputable def o1384 (P : Params) : Obj := ⟨(.type "tuple"), none, (.seq #[(.str (S "self") 2349), (.str (S "room") 2350), (.str (S "top") 2351), (.str (S "least") 2352), (.str (S "found") 2353), (.str (S "others") 2354), (.str (S "low") 2355), (.str (S "middle") 2356)] 0), #[]⟩
noncomputable def o1385 (P : Params) : Obj := ⟨(.type "tuple"), none, (.seq #[] 0), #[]⟩
noncomputable def o1386 (P : Params) : Obj := ⟨.none, none, (.func ⟨(S "weakest"), (S "Gap.weakest"), defArgs (inClass (topS 157) 5), .stmts (defBody (inClass (topS 157) 5)), defScope (inClass (topS 157) 5), 0, [], .none, .none, .none, .none, none, .none, .none, 0⟩), #[]⟩
noncomputable def o1387 (P : Params) : Obj := ⟨(.type "code"), none, (.fields #[(.str (S "weakest") 2346), (.str (S "Gap.weakest") 2347), (.str (S "/claim/cut.py") 2348), (.int (944) 0), (.int (3) 0), (.int (0) 0), (.int (0) 0), (.int (3) 0), (.ref 1382), (.bool true), (.int (453) 0), (.ref 1383), .none, (.ref 1384), (.ref 1385), (.ref 1386), (.int (2357) 0), (.int (944) 0), (.str (S "/claim/cut.py") 2358)]), #[]⟩
noncomputable def o1388 (P : Params) : Obj := ⟨(.type "function"), none, (.func ⟨(S "weakest"), (S "Gap.weakest"), defArgs (inClass (topS 157) 5), .stmts (defBody (inClass (topS 157) 5)), defScope (inClass (topS 157) 5), 3, [], .none, .none, .none, (.str (S "lastbell.gaps") 2290), none, (.ref 1387), .none, 0⟩), #[]⟩
noncomputable def o1389 (P : Params) : Obj := ⟨(.type "tuple"), none, (.seq #[] 0), #[]⟩
noncomputable def o1390 (P : Params) : Obj := ⟨.none, none, (.fields #[]), #[]⟩
noncomputable def o1391 (P : Params) : Obj := ⟨(.type "tuple"), none, (.seq #[(.str (S "self") 2363), (.str (S "room") 2364), (.str (S "strength") 2365), (.str (S "wide") 2366)] 0), #[]⟩
noncomputable def o1392 (P : Params) : Obj := ⟨(.type "tuple"), none, (.seq #[] 0), #[]⟩
noncomputable def o1393 (P : Params) : Obj := ⟨.none, none, (.func ⟨(S "parts_of"), (S "Gap.parts_of"), defArgs (inClass (topS 157) 6), .stmts (defBody (inClass (topS 157) 6)), defScope (inClass (topS 157) 6), 0, [], .none, .none, .none, .none, none, .none, .none, 0⟩), #[]⟩
noncomputable def o1394 (P : Params) : Obj := ⟨(.type "code"), none, (.fields #[(.str (S "parts_of") 2360), (.str (S "Gap.parts_of") 2361), (.str (S "/claim/cut.py") 2362), (.int (960) 0), (.int (3) 0), (.int (0) 0), (.int (0) 0), (.int (3) 0), (.ref 1389), (.bool true), (.int (453) 0), (.ref 1390), .none, (.ref 1391), (.ref 1392), (.ref 1393), (.int (2367) 0), (.int (960) 0), (.str (S "/claim/cut.py") 2368)]), #[]⟩
noncomputable def o1395 (P : Params) : Obj := ⟨(.type "function"), none, (.func ⟨(S "parts_of"), (S "Gap.parts_of"), defArgs (inClass (topS 157) 6), .stmts (defBody (inClass (topS 157) 6)), defScope (inClass (topS 157) 6), 3, [], .none, .none, .none, (.str (S "lastbell.gaps") 2290), none, (.ref 1394), .none, 0⟩), #[]⟩
noncomputable def o1396 (P : Params) : Obj := ⟨(.type "tuple"), none, (.seq #[] 0), #[]⟩
noncomputable def o1397 (P : Params) : Obj := ⟨.none, none, (.fields #[]), #[]⟩
noncomputable def o1398 (P : Params) : Obj := ⟨.none, none, (.func ⟨(S "lacks"), (S "Gap.lacks"), defArgs (inClass (topS 157) 7), .stmts (defBody (inClass (topS 157) 7)), defScope (inClass (topS 157) 7), 0, [], .none, .none, .none, .none, none, .none, .none, 0⟩), #[]⟩
noncomputable def o1399 (P : Params) : Obj := ⟨(.type "code"), none, (.fields #[(.str (S "lacks") 2370), (.str (S "Gap.lacks") 2371), (.str (S "/claim/cut.py") 2372), (.int (966) 0), (.int (3) 0), (.int (0) 0), (.int (0) 0), (.int (3) 0), (.ref 1396), (.bool true), (.int (453) 0), (.ref 1397), .none, .none, .none, (.ref 1398), (.int (2373) 0), (.int (966) 0), (.str (S "/claim/cut.py") 2374)]), #[]⟩
noncomputable def o1400 (P : Params) : Obj := ⟨(.type "function"), none, (.func ⟨(S "lacks"), (S "Gap.lacks"), defArgs (inClass (topS 157) 7), .stmts (defBody (inClass (topS 157) 7)), defScope (inClass (topS 157) 7), 3, [], .none, .none, .none, (.str (S "lastbell.gaps") 2290), none, (.ref 1399), .none, 0⟩), #[]⟩
noncomputable def o1401 (P : Params) : Obj := ⟨(.type "tuple"), none, (.seq #[(.str (S "ahead") 2376), (.str (S "bell") 2377), (.str (S "door") 2378), (.str (S "group") 2379), (.str (S "house") 2380), (.str (S "is_in") 2381), (.str (S "parts") 2382), (.str (S "wishes") 2383)] 0), #[]⟩
noncomputable def o1402 (P : Params) : Obj := ⟨(.type "dict"), none, (.dict #[E P "__module__" 2299 (.str (S "lastbell.gaps") 2290), E P "__firstlineno__" 2303 (.int (911) 2302), E P "__init__" 2316 (.ref 1357), E P "parting" 2322 (.ref 1362), E P "in_order" 2330 (.ref 1369), E P "new_doors" 2339 (.ref 1376), E P "width" 2345 (.ref 1381), E P "weakest" 2359 (.ref 1388), E P "parts_of" 2369 (.ref 1395), E P "lacks" 2375 (.ref 1400), E P "__static_attributes__" 2384 (.ref 1401), E P "__dict__" 2386 (.ref 1404), E P "__weakref__" 2388 (.ref 1405), E P "__doc__" 2389 .none] 4), #[]⟩
noncomputable def o1403 (P : Params) : Obj := ⟨(.type "type"), none, (.cls ⟨(S "Gap"), [(.type "object")], [(.ref 1403), (.type "object")], 1402, (S "Gap"), true, [], [], false, none, false⟩), #[none, none, some (.str (S "Gap") 2292), some (.str (S "Gap") 2300), some (.builtin "object.__new__"), some (.bool true)]⟩
noncomputable def o1404 (P : Params) : Obj := ⟨(.type "getset_descriptor"), none, (.fields #[(.str (S "__dict__") 2385), (.ref 1403), (.builtin "function.__dict__"), (.builtin "function.__dict__#set")]), #[]⟩
noncomputable def o1405 (P : Params) : Obj := ⟨(.type "getset_descriptor"), none, (.fields #[(.str (S "__weakref__") 2387), (.ref 1403), (.builtin "ExceptionGroup.__weakref__"), .none]), #[]⟩
noncomputable def o1406 (P : Params) : Obj := ⟨(.type "super"), none, (.fields #[(.ref 1403), (.ref 1403), (.ref 1403)]), #[]⟩
noncomputable def o1407 (P : Params) : Obj := ⟨(.type "builtin_function_or_method"), none, (.fields #[(.builtin "object.__init_subclass__"), (.ref 1403)]), #[]⟩
noncomputable def o1408 (P : Params) : Obj := ⟨(.type "tuple"), none, (.seq #[] 0), #[]⟩
noncomputable def o1409 (P : Params) : Obj := ⟨.none, none, (.fields #[]), #[]⟩
noncomputable def o1410 (P : Params) : Obj := ⟨(.type "tuple"), none, (.seq #[(.str (S "house") 2397), (.str (S "wishes") 2398), (.str (S "bell") 2399), (.str (S "mosts") 2400), (.str (S "parts") 2401), (.str (S "groups") 2402), (.str (S "wide") 2403), (.str (S "gap") 2404), (.str (S "more") 2405), (.str (S "between") 2406)] 0), #[]⟩
noncomputable def o1411 (P : Params) : Obj := ⟨(.type "tuple"), none, (.seq #[] 0), #[]⟩
noncomputable def o1412 (P : Params) : Obj := ⟨.none, none, (.func ⟨(S "row_for"), (S "row_for"), defArgs (topS 159), .stmts (defBody (topS 159)), defScope (topS 159), 0, [], .none, .none, .none, .none, none, .none, .none, 0⟩), #[]⟩
noncomputable def o1413 (P : Params) : Obj := ⟨(.type "code"), none, (.fields #[(.str (S "row_for") 2394), (.str (S "row_for") 2395), (.str (S "/claim/cut.py") 2396), (.int (978) 0), (.int (3) 0), (.int (0) 0), (.int (0) 0), (.int (3) 0), (.ref 1408), (.bool true), (.int (453) 0), (.ref 1409), .none, (.ref 1410), (.ref 1411), (.ref 1412), (.int (2407) 0), (.int (978) 0), (.str (S "/claim/cut.py") 2408)]), #[]⟩
noncomputable def o1414 (P : Params) : Obj := ⟨(.type "function"), none, (.func ⟨(S "row_for"), (S "row_for"), defArgs (topS 159), .stmts (defBody (topS 159)), defScope (topS 159), 3, [], .none, .none, .none, (.str (S "lastbell.rows") 2392), none, (.ref 1413), .none, 0⟩), #[]⟩
noncomputable def o1415 (P : Params) : Obj := ⟨(.type "tuple"), none, (.seq #[] 0), #[]⟩
noncomputable def o1416 (P : Params) : Obj := ⟨.none, none, (.fields #[]), #[]⟩
noncomputable def o1417 (P : Params) : Obj := ⟨(.type "tuple"), none, (.seq #[(.str (S "groups") 2413), (.str (S "index") 2414), (.str (S "group") 2415)] 0), #[]⟩
noncomputable def o1418 (P : Params) : Obj := ⟨(.type "tuple"), none, (.seq #[] 0), #[]⟩
noncomputable def o1419 (P : Params) : Obj := ⟨.none, none, (.func ⟨(S "first_wide"), (S "first_wide"), defArgs (topS 160), .stmts (defBody (topS 160)), defScope (topS 160), 0, [], .none, .none, .none, .none, none, .none, .none, 0⟩), #[]⟩
noncomputable def o1420 (P : Params) : Obj := ⟨(.type "code"), none, (.fields #[(.str (S "first_wide") 2410), (.str (S "first_wide") 2411), (.str (S "/claim/cut.py") 2412), (.int (995) 0), (.int (1) 0), (.int (0) 0), (.int (0) 0), (.int (3) 0), (.ref 1415), (.bool true), (.int (453) 0), (.ref 1416), .none, (.ref 1417), (.ref 1418), (.ref 1419), (.int (2416) 0), (.int (995) 0), (.str (S "/claim/cut.py") 2417)]), #[]⟩
noncomputable def o1421 (P : Params) : Obj := ⟨(.type "function"), none, (.func ⟨(S "first_wide"), (S "first_wide"), defArgs (topS 160), .stmts (defBody (topS 160)), defScope (topS 160), 3, [], .none, .none, .none, (.str (S "lastbell.rows") 2392), none, (.ref 1420), .none, 0⟩), #[]⟩
noncomputable def o1422 (P : Params) : Obj := ⟨(.type "tuple"), none, (.seq #[] 0), #[]⟩
noncomputable def o1423 (P : Params) : Obj := ⟨.none, none, (.fields #[]), #[]⟩
noncomputable def o1424 (P : Params) : Obj := ⟨(.type "tuple"), none, (.seq #[(.str (S "house") 2422), (.str (S "wishes") 2423), (.str (S "bell") 2424), (.str (S "thing") 2425), (.str (S "parts") 2426), (.str (S "order") 2427), (.str (S "whole") 2428), (.str (S "told") 2429), (.str (S "sums") 2430), (.str (S "door") 2431), (.str (S "_") 2432), (.str (S "more") 2433)] 0), #[]⟩
noncomputable def o1425 (P : Params) : Obj := ⟨(.type "tuple"), none, (.seq #[] 0), #[]⟩
noncomputable def o1426 (P : Params) : Obj := ⟨.none, none, (.func ⟨(S "is_row_for"), (S "is_row_for"), defArgs (topS 161), .stmts (defBody (topS 161)), defScope (topS 161), 0, [], .none, .none, .none, .none, none, .none, .none, 0⟩), #[]⟩
noncomputable def o1427 (P : Params) : Obj := ⟨(.type "code"), none, (.fields #[(.str (S "is_row_for") 2419), (.str (S "is_row_for") 2420), (.str (S "/claim/cut.py") 2421), (.int (1000) 0), (.int (4) 0), (.int (0) 0), (.int (0) 0), (.int (3) 0), (.ref 1422), (.bool true), (.int (453) 0), (.ref 1423), .none, (.ref 1424), (.ref 1425), (.ref 1426), (.int (2434) 0), (.int (1000) 0), (.str (S "/claim/cut.py") 2435)]), #[]⟩
noncomputable def o1428 (P : Params) : Obj := ⟨(.type "function"), none, (.func ⟨(S "is_row_for"), (S "is_row_for"), defArgs (topS 161), .stmts (defBody (topS 161)), defScope (topS 161), 3, [], .none, .none, .none, (.str (S "lastbell.rows") 2392), none, (.ref 1427), .none, 0⟩), #[]⟩
noncomputable def tree1 (P : Params) : BT := (N (o0 P) (N (o1 P) (N (o3 P) (N (o7 P) (N (o15 P) (N (o31 P) (N (o63 P) (N (o127 P) (N (o255 P) (N (o511 P) L L) L) (N (o383 P) (N (o639 P) L L) L)) (N (o191 P) (N (o319 P) (N (o575 P) L L) L) (N (o447 P) L L))) (N (o95 P) (N (o159 P) (N (o287 P) (N (o543 P) L L) L) (N (o415 P) L L)) (N (o223 P) (N (o351 P) (N (o607 P) L L) L) (N (o479 P) L L)))) (N (o47 P) (N (o79 P) (N (o143 P) (N (o271 P) (N (o527 P) L L) L) (N (o399 P) L L)) (N (o207 P) (N (o335 P) (N (o591 P) L L) L) (N (o463 P) L L))) (N (o111 P) (N (o175 P) (N (o303 P) (N (o559 P) L L) L) (N (o431 P) L L)) (N (o239 P) (N (o367 P) (N (o623 P) L L) L) (N (o495 P) L L))))) (N (o23 P) (N (o39 P) (N (o71 P) (N (o135 P) (N (o263 P) (N (o519 P) L L) L) (N (o391 P) L L)) (N (o199 P) (N (o327 P) (N (o583 P) L L) L) (N (o455 P) L L))) (N (o103 P) (N (o167 P) (N (o295 P) (N (o551 P) L L) L) (N (o423 P) L L)) (N (o231 P) (N (o359 P) (N (o615 P) L L) L) (N (o487 P) L L)))) (N (o55 P) (N (o87 P) (N (o151 P) (N (o279 P) (N (o535 P) L L) L) (N (o407 P) L L)) (N (o215 P) (N (o343 P) (N (o599 P) L L) L) (N (o471 P) L L))) (N (o119 P) (N (o183 P) (N (o311 P) (N (o567 P) L L) L) (N (o439 P) L L)) (N (o247 P) (N (o375 P) (N (o631 P) L L) L) (N (o503 P) L L)))))) (N (o11 P) (N (o19 P) (N (o35 P) (N (o67 P) (N (o131 P) (N (o259 P) (N (o515 P) L L) L) (N (o387 P) (N (o643 P) L L) L)) (N (o195 P) (N (o323 P) (N (o579 P) L L) L) (N (o451 P) L L))) (N (o99 P) (N (o163 P) (N (o291 P) (N (o547 P) L L) L) (N (o419 P) L L)) (N (o227 P) (N (o355 P) (N (o611 P) L L) L) (N (o483 P) L L)))) (N (o51 P) (N (o83 P) (N (o147 P) (N (o275 P) (N (o531 P) L L) L) (N (o403 P) L L)) (N (o211 P) (N (o339 P) (N (o595 P) L L) L) (N (o467 P) L L))) (N (o115 P) (N (o179 P) (N (o307 P) (N (o563 P) L L) L) (N (o435 P) L L)) (N (o243 P) (N (o371 P) (N (o627 P) L L) L) (N (o499 P) L L))))) (N (o27 P) (N (o43 P) (N (o75 P) (N (o139 P) (N (o267 P) (N (o523 P) L L) L) (N (o395 P) L L)) (N (o203 P) (N (o331 P) (N (o587 P) L L) L) (N (o459 P) L L))) (N (o107 P) (N (o171 P) (N (o299 P) (N (o555 P) L L) L) (N (o427 P) L L)) (N (o235 P) (N (o363 P) (N (o619 P) L L) L) (N (o491 P) L L)))) (N (o59 P) (N (o91 P) (N (o155 P) (N (o283 P) (N (o539 P) L L) L) (N (o411 P) L L)) (N (o219 P) (N (o347 P) (N (o603 P) L L) L) (N (o475 P) L L))) (N (o123 P) (N (o187 P) (N (o315 P) (N (o571 P) L L) L) (N (o443 P) L L)) (N (o251 P) (N (o379 P) (N (o635 P) L L) L) (N (o507 P) L L))))))) (N (o5 P) (N (o9 P) (N (o17 P) (N (o33 P) (N (o65 P) (N (o129 P) (N (o257 P) (N (o513 P) L L) L) (N (o385 P) (N (o641 P) L L) L)) (N (o193 P) (N (o321 P) (N (o577 P) L L) L) (N (o449 P) L L))) (N (o97 P) (N (o161 P) (N (o289 P) (N (o545 P) L L) L) (N (o417 P) L L)) (N (o225 P) (N (o353 P) (N (o609 P) L L) L) (N (o481 P) L L)))) (N (o49 P) (N (o81 P) (N (o145 P) (N (o273 P) (N (o529 P) L L) L) (N (o401 P) L L)) (N (o209 P) (N (o337 P) (N (o593 P) L L) L) (N (o465 P) L L))) (N (o113 P) (N (o177 P) (N (o305 P) (N (o561 P) L L) L) (N (o433 P) L L)) (N (o241 P) (N (o369 P) (N (o625 P) L L) L) (N (o497 P) L L))))) (N (o25 P) (N (o41 P) (N (o73 P) (N (o137 P) (N (o265 P) (N (o521 P) L L) L) (N (o393 P) L L)) (N (o201 P) (N (o329 P) (N (o585 P) L L) L) (N (o457 P) L L))) (N (o105 P) (N (o169 P) (N (o297 P) (N (o553 P) L L) L) (N (o425 P) L L)) (N (o233 P) (N (o361 P) (N (o617 P) L L) L) (N (o489 P) L L)))) (N (o57 P) (N (o89 P) (N (o153 P) (N (o281 P) (N (o537 P) L L) L) (N (o409 P) L L)) (N (o217 P) (N (o345 P) (N (o601 P) L L) L) (N (o473 P) L L))) (N (o121 P) (N (o185 P) (N (o313 P) (N (o569 P) L L) L) (N (o441 P) L L)) (N (o249 P) (N (o377 P) (N (o633 P) L L) L) (N (o505 P) L L)))))) (N (o13 P) (N (o21 P) (N (o37 P) (N (o69 P) (N (o133 P) (N (o261 P) (N (o517 P) L L) L) (N (o389 P) L L)) (N (o197 P) (N (o325 P) (N (o581 P) L L) L) (N (o453 P) L L))) (N (o101 P) (N (o165 P) (N (o293 P) (N (o549 P) L L) L) (N (o421 P) L L)) (N (o229 P) (N (o357 P) (N (o613 P) L L) L) (N (o485 P) L L)))) (N (o53 P) (N (o85 P) (N (o149 P) (N (o277 P) (N (o533 P) L L) L) (N (o405 P) L L)) (N (o213 P) (N (o341 P) (N (o597 P) L L) L) (N (o469 P) L L))) (N (o117 P) (N (o181 P) (N (o309 P) (N (o565 P) L L) L) (N (o437 P) L L)) (N (o245 P) (N (o373 P) (N (o629 P) L L) L) (N (o501 P) L L))))) (N (o29 P) (N (o45 P) (N (o77 P) (N (o141 P) (N (o269 P) (N (o525 P) L L) L) (N (o397 P) L L)) (N (o205 P) (N (o333 P) (N (o589 P) L L) L) (N (o461 P) L L))) (N (o109 P) (N (o173 P) (N (o301 P) (N (o557 P) L L) L) (N (o429 P) L L)) (N (o237 P) (N (o365 P) (N (o621 P) L L) L) (N (o493 P) L L)))) (N (o61 P) (N (o93 P) (N (o157 P) (N (o285 P) (N (o541 P) L L) L) (N (o413 P) L L)) (N (o221 P) (N (o349 P) (N (o605 P) L L) L) (N (o477 P) L L))) (N (o125 P) (N (o189 P) (N (o317 P) (N (o573 P) L L) L) (N (o445 P) L L)) (N (o253 P) (N (o381 P) (N (o637 P) L L) L) (N (o509 P) L L)))))))) (N (o2 P) (N (o4 P) (N (o8 P) (N (o16 P) (N (o32 P) (N (o64 P) (N (o128 P) (N (o256 P) (N (o512 P) L L) L) (N (o384 P) (N (o640 P) L L) L)) (N (o192 P) (N (o320 P) (N (o576 P) L L) L) (N (o448 P) L L))) (N (o96 P) (N (o160 P) (N (o288 P) (N (o544 P) L L) L) (N (o416 P) L L)) (N (o224 P) (N (o352 P) (N (o608 P) L L) L) (N (o480 P) L L)))) (N (o48 P) (N (o80 P) (N (o144 P) (N (o272 P) (N (o528 P) L L) L) (N (o400 P) L L)) (N (o208 P) (N (o336 P) (N (o592 P) L L) L) (N (o464 P) L L))) (N (o112 P) (N (o176 P) (N (o304 P) (N (o560 P) L L) L) (N (o432 P) L L)) (N (o240 P) (N (o368 P) (N (o624 P) L L) L) (N (o496 P) L L))))) (N (o24 P) (N (o40 P) (N (o72 P) (N (o136 P) (N (o264 P) (N (o520 P) L L) L) (N (o392 P) L L)) (N (o200 P) (N (o328 P) (N (o584 P) L L) L) (N (o456 P) L L))) (N (o104 P) (N (o168 P) (N (o296 P) (N (o552 P) L L) L) (N (o424 P) L L)) (N (o232 P) (N (o360 P) (N (o616 P) L L) L) (N (o488 P) L L)))) (N (o56 P) (N (o88 P) (N (o152 P) (N (o280 P) (N (o536 P) L L) L) (N (o408 P) L L)) (N (o216 P) (N (o344 P) (N (o600 P) L L) L) (N (o472 P) L L))) (N (o120 P) (N (o184 P) (N (o312 P) (N (o568 P) L L) L) (N (o440 P) L L)) (N (o248 P) (N (o376 P) (N (o632 P) L L) L) (N (o504 P) L L)))))) (N (o12 P) (N (o20 P) (N (o36 P) (N (o68 P) (N (o132 P) (N (o260 P) (N (o516 P) L L) L) (N (o388 P) (N (o644 P) L L) L)) (N (o196 P) (N (o324 P) (N (o580 P) L L) L) (N (o452 P) L L))) (N (o100 P) (N (o164 P) (N (o292 P) (N (o548 P) L L) L) (N (o420 P) L L)) (N (o228 P) (N (o356 P) (N (o612 P) L L) L) (N (o484 P) L L)))) (N (o52 P) (N (o84 P) (N (o148 P) (N (o276 P) (N (o532 P) L L) L) (N (o404 P) L L)) (N (o212 P) (N (o340 P) (N (o596 P) L L) L) (N (o468 P) L L))) (N (o116 P) (N (o180 P) (N (o308 P) (N (o564 P) L L) L) (N (o436 P) L L)) (N (o244 P) (N (o372 P) (N (o628 P) L L) L) (N (o500 P) L L))))) (N (o28 P) (N (o44 P) (N (o76 P) (N (o140 P) (N (o268 P) (N (o524 P) L L) L) (N (o396 P) L L)) (N (o204 P) (N (o332 P) (N (o588 P) L L) L) (N (o460 P) L L))) (N (o108 P) (N (o172 P) (N (o300 P) (N (o556 P) L L) L) (N (o428 P) L L)) (N (o236 P) (N (o364 P) (N (o620 P) L L) L) (N (o492 P) L L)))) (N (o60 P) (N (o92 P) (N (o156 P) (N (o284 P) (N (o540 P) L L) L) (N (o412 P) L L)) (N (o220 P) (N (o348 P) (N (o604 P) L L) L) (N (o476 P) L L))) (N (o124 P) (N (o188 P) (N (o316 P) (N (o572 P) L L) L) (N (o444 P) L L)) (N (o252 P) (N (o380 P) (N (o636 P) L L) L) (N (o508 P) L L))))))) (N (o6 P) (N (o10 P) (N (o18 P) (N (o34 P) (N (o66 P) (N (o130 P) (N (o258 P) (N (o514 P) L L) L) (N (o386 P) (N (o642 P) L L) L)) (N (o194 P) (N (o322 P) (N (o578 P) L L) L) (N (o450 P) L L))) (N (o98 P) (N (o162 P) (N (o290 P) (N (o546 P) L L) L) (N (o418 P) L L)) (N (o226 P) (N (o354 P) (N (o610 P) L L) L) (N (o482 P) L L)))) (N (o50 P) (N (o82 P) (N (o146 P) (N (o274 P) (N (o530 P) L L) L) (N (o402 P) L L)) (N (o210 P) (N (o338 P) (N (o594 P) L L) L) (N (o466 P) L L))) (N (o114 P) (N (o178 P) (N (o306 P) (N (o562 P) L L) L) (N (o434 P) L L)) (N (o242 P) (N (o370 P) (N (o626 P) L L) L) (N (o498 P) L L))))) (N (o26 P) (N (o42 P) (N (o74 P) (N (o138 P) (N (o266 P) (N (o522 P) L L) L) (N (o394 P) L L)) (N (o202 P) (N (o330 P) (N (o586 P) L L) L) (N (o458 P) L L))) (N (o106 P) (N (o170 P) (N (o298 P) (N (o554 P) L L) L) (N (o426 P) L L)) (N (o234 P) (N (o362 P) (N (o618 P) L L) L) (N (o490 P) L L)))) (N (o58 P) (N (o90 P) (N (o154 P) (N (o282 P) (N (o538 P) L L) L) (N (o410 P) L L)) (N (o218 P) (N (o346 P) (N (o602 P) L L) L) (N (o474 P) L L))) (N (o122 P) (N (o186 P) (N (o314 P) (N (o570 P) L L) L) (N (o442 P) L L)) (N (o250 P) (N (o378 P) (N (o634 P) L L) L) (N (o506 P) L L)))))) (N (o14 P) (N (o22 P) (N (o38 P) (N (o70 P) (N (o134 P) (N (o262 P) (N (o518 P) L L) L) (N (o390 P) L L)) (N (o198 P) (N (o326 P) (N (o582 P) L L) L) (N (o454 P) L L))) (N (o102 P) (N (o166 P) (N (o294 P) (N (o550 P) L L) L) (N (o422 P) L L)) (N (o230 P) (N (o358 P) (N (o614 P) L L) L) (N (o486 P) L L)))) (N (o54 P) (N (o86 P) (N (o150 P) (N (o278 P) (N (o534 P) L L) L) (N (o406 P) L L)) (N (o214 P) (N (o342 P) (N (o598 P) L L) L) (N (o470 P) L L))) (N (o118 P) (N (o182 P) (N (o310 P) (N (o566 P) L L) L) (N (o438 P) L L)) (N (o246 P) (N (o374 P) (N (o630 P) L L) L) (N (o502 P) L L))))) (N (o30 P) (N (o46 P) (N (o78 P) (N (o142 P) (N (o270 P) (N (o526 P) L L) L) (N (o398 P) L L)) (N (o206 P) (N (o334 P) (N (o590 P) L L) L) (N (o462 P) L L))) (N (o110 P) (N (o174 P) (N (o302 P) (N (o558 P) L L) L) (N (o430 P) L L)) (N (o238 P) (N (o366 P) (N (o622 P) L L) L) (N (o494 P) L L)))) (N (o62 P) (N (o94 P) (N (o158 P) (N (o286 P) (N (o542 P) L L) L) (N (o414 P) L L)) (N (o222 P) (N (o350 P) (N (o606 P) L L) L) (N (o478 P) L L))) (N (o126 P) (N (o190 P) (N (o318 P) (N (o574 P) L L) L) (N (o446 P) L L)) (N (o254 P) (N (o382 P) (N (o638 P) L L) L) (N (o510 P) L L)))))))))
noncomputable def tree2 (P : Params) : BT := (N (o0 P) (N (o1 P) (N (x3 P) (N (o7 P) (N (o15 P) (N (o31 P) (N (o63 P) (N (o127 P) (N (o255 P) (N (o511 P) (N (o1023 P) L L) L) (N (o767 P) (N (o1279 P) L L) L)) (N (o383 P) (N (o639 P) (N (o1151 P) L L) L) (N (o895 P) (N (o1407 P) L L) L))) (N (o191 P) (N (o319 P) (N (o575 P) (N (o1087 P) L L) L) (N (o831 P) (N (o1343 P) L L) L)) (N (o447 P) (N (o703 P) (N (o1215 P) L L) L) (N (o959 P) L L)))) (N (o95 P) (N (o159 P) (N (o287 P) (N (o543 P) (N (o1055 P) L L) L) (N (o799 P) (N (o1311 P) L L) L)) (N (o415 P) (N (o671 P) (N (o1183 P) L L) L) (N (o927 P) L L))) (N (o223 P) (N (o351 P) (N (o607 P) (N (o1119 P) L L) L) (N (o863 P) (N (o1375 P) L L) L)) (N (o479 P) (N (o735 P) (N (o1247 P) L L) L) (N (o991 P) L L))))) (N (o47 P) (N (o79 P) (N (o143 P) (N (o271 P) (N (o527 P) (N (o1039 P) L L) L) (N (o783 P) (N (o1295 P) L L) L)) (N (o399 P) (N (o655 P) (N (o1167 P) L L) L) (N (o911 P) (N (o1423 P) L L) L))) (N (o207 P) (N (o335 P) (N (o591 P) (N (o1103 P) L L) L) (N (o847 P) (N (o1359 P) L L) L)) (N (o463 P) (N (o719 P) (N (o1231 P) L L) L) (N (o975 P) L L)))) (N (o111 P) (N (o175 P) (N (o303 P) (N (o559 P) (N (o1071 P) L L) L) (N (o815 P) (N (o1327 P) L L) L)) (N (o431 P) (N (o687 P) (N (o1199 P) L L) L) (N (o943 P) L L))) (N (o239 P) (N (o367 P) (N (o623 P) (N (o1135 P) L L) L) (N (o879 P) (N (o1391 P) L L) L)) (N (o495 P) (N (o751 P) (N (o1263 P) L L) L) (N (o1007 P) L L)))))) (N (o23 P) (N (o39 P) (N (o71 P) (N (o135 P) (N (o263 P) (N (o519 P) (N (o1031 P) L L) L) (N (o775 P) (N (o1287 P) L L) L)) (N (o391 P) (N (o647 P) (N (o1159 P) L L) L) (N (o903 P) (N (o1415 P) L L) L))) (N (o199 P) (N (o327 P) (N (o583 P) (N (o1095 P) L L) L) (N (o839 P) (N (o1351 P) L L) L)) (N (o455 P) (N (o711 P) (N (o1223 P) L L) L) (N (o967 P) L L)))) (N (o103 P) (N (o167 P) (N (o295 P) (N (o551 P) (N (o1063 P) L L) L) (N (o807 P) (N (o1319 P) L L) L)) (N (o423 P) (N (o679 P) (N (o1191 P) L L) L) (N (o935 P) L L))) (N (o231 P) (N (o359 P) (N (o615 P) (N (o1127 P) L L) L) (N (o871 P) (N (o1383 P) L L) L)) (N (o487 P) (N (o743 P) (N (o1255 P) L L) L) (N (o999 P) L L))))) (N (o55 P) (N (o87 P) (N (o151 P) (N (o279 P) (N (o535 P) (N (o1047 P) L L) L) (N (o791 P) (N (o1303 P) L L) L)) (N (o407 P) (N (o663 P) (N (o1175 P) L L) L) (N (o919 P) L L))) (N (o215 P) (N (o343 P) (N (o599 P) (N (o1111 P) L L) L) (N (o855 P) (N (o1367 P) L L) L)) (N (o471 P) (N (o727 P) (N (o1239 P) L L) L) (N (o983 P) L L)))) (N (o119 P) (N (o183 P) (N (o311 P) (N (o567 P) (N (o1079 P) L L) L) (N (o823 P) (N (o1335 P) L L) L)) (N (o439 P) (N (o695 P) (N (o1207 P) L L) L) (N (o951 P) L L))) (N (o247 P) (N (o375 P) (N (o631 P) (N (o1143 P) L L) L) (N (o887 P) (N (o1399 P) L L) L)) (N (o503 P) (N (o759 P) (N (o1271 P) L L) L) (N (o1015 P) L L))))))) (N (o11 P) (N (o19 P) (N (o35 P) (N (o67 P) (N (o131 P) (N (o259 P) (N (o515 P) (N (o1027 P) L L) L) (N (o771 P) (N (o1283 P) L L) L)) (N (o387 P) (N (o643 P) (N (o1155 P) L L) L) (N (o899 P) (N (o1411 P) L L) L))) (N (o195 P) (N (o323 P) (N (o579 P) (N (o1091 P) L L) L) (N (o835 P) (N (o1347 P) L L) L)) (N (o451 P) (N (o707 P) (N (o1219 P) L L) L) (N (o963 P) L L)))) (N (o99 P) (N (o163 P) (N (o291 P) (N (o547 P) (N (o1059 P) L L) L) (N (o803 P) (N (o1315 P) L L) L)) (N (o419 P) (N (o675 P) (N (o1187 P) L L) L) (N (o931 P) L L))) (N (o227 P) (N (o355 P) (N (o611 P) (N (o1123 P) L L) L) (N (o867 P) (N (o1379 P) L L) L)) (N (o483 P) (N (o739 P) (N (o1251 P) L L) L) (N (o995 P) L L))))) (N (x51 P) (N (o83 P) (N (o147 P) (N (o275 P) (N (o531 P) (N (o1043 P) L L) L) (N (o787 P) (N (o1299 P) L L) L)) (N (o403 P) (N (o659 P) (N (o1171 P) L L) L) (N (o915 P) (N (o1427 P) L L) L))) (N (o211 P) (N (o339 P) (N (o595 P) (N (o1107 P) L L) L) (N (o851 P) (N (o1363 P) L L) L)) (N (o467 P) (N (o723 P) (N (o1235 P) L L) L) (N (o979 P) L L)))) (N (o115 P) (N (o179 P) (N (o307 P) (N (o563 P) (N (o1075 P) L L) L) (N (o819 P) (N (o1331 P) L L) L)) (N (o435 P) (N (o691 P) (N (o1203 P) L L) L) (N (o947 P) L L))) (N (o243 P) (N (o371 P) (N (o627 P) (N (o1139 P) L L) L) (N (o883 P) (N (o1395 P) L L) L)) (N (o499 P) (N (o755 P) (N (o1267 P) L L) L) (N (o1011 P) L L)))))) (N (o27 P) (N (o43 P) (N (o75 P) (N (o139 P) (N (o267 P) (N (o523 P) (N (o1035 P) L L) L) (N (o779 P) (N (o1291 P) L L) L)) (N (o395 P) (N (o651 P) (N (o1163 P) L L) L) (N (o907 P) (N (o1419 P) L L) L))) (N (o203 P) (N (o331 P) (N (o587 P) (N (o1099 P) L L) L) (N (o843 P) (N (o1355 P) L L) L)) (N (o459 P) (N (o715 P) (N (o1227 P) L L) L) (N (o971 P) L L)))) (N (o107 P) (N (o171 P) (N (o299 P) (N (o555 P) (N (o1067 P) L L) L) (N (o811 P) (N (o1323 P) L L) L)) (N (o427 P) (N (o683 P) (N (o1195 P) L L) L) (N (o939 P) L L))) (N (o235 P) (N (o363 P) (N (o619 P) (N (o1131 P) L L) L) (N (o875 P) (N (o1387 P) L L) L)) (N (o491 P) (N (o747 P) (N (o1259 P) L L) L) (N (o1003 P) L L))))) (N (o59 P) (N (o91 P) (N (o155 P) (N (o283 P) (N (o539 P) (N (o1051 P) L L) L) (N (o795 P) (N (o1307 P) L L) L)) (N (o411 P) (N (o667 P) (N (o1179 P) L L) L) (N (o923 P) L L))) (N (o219 P) (N (o347 P) (N (o603 P) (N (o1115 P) L L) L) (N (o859 P) (N (o1371 P) L L) L)) (N (o475 P) (N (o731 P) (N (o1243 P) L L) L) (N (o987 P) L L)))) (N (o123 P) (N (o187 P) (N (o315 P) (N (o571 P) (N (o1083 P) L L) L) (N (o827 P) (N (o1339 P) L L) L)) (N (o443 P) (N (o699 P) (N (o1211 P) L L) L) (N (o955 P) L L))) (N (o251 P) (N (o379 P) (N (o635 P) (N (o1147 P) L L) L) (N (o891 P) (N (o1403 P) L L) L)) (N (o507 P) (N (o763 P) (N (o1275 P) L L) L) (N (o1019 P) L L)))))))) (N (o5 P) (N (o9 P) (N (o17 P) (N (o33 P) (N (o65 P) (N (o129 P) (N (o257 P) (N (o513 P) (N (o1025 P) L L) L) (N (o769 P) (N (o1281 P) L L) L)) (N (o385 P) (N (o641 P) (N (o1153 P) L L) L) (N (o897 P) (N (o1409 P) L L) L))) (N (o193 P) (N (o321 P) (N (o577 P) (N (o1089 P) L L) L) (N (o833 P) (N (o1345 P) L L) L)) (N (o449 P) (N (o705 P) (N (o1217 P) L L) L) (N (o961 P) L L)))) (N (o97 P) (N (o161 P) (N (o289 P) (N (o545 P) (N (o1057 P) L L) L) (N (o801 P) (N (o1313 P) L L) L)) (N (o417 P) (N (o673 P) (N (o1185 P) L L) L) (N (o929 P) L L))) (N (o225 P) (N (o353 P) (N (o609 P) (N (o1121 P) L L) L) (N (o865 P) (N (o1377 P) L L) L)) (N (o481 P) (N (o737 P) (N (o1249 P) L L) L) (N (o993 P) L L))))) (N (o49 P) (N (o81 P) (N (o145 P) (N (o273 P) (N (o529 P) (N (o1041 P) L L) L) (N (o785 P) (N (o1297 P) L L) L)) (N (o401 P) (N (o657 P) (N (o1169 P) L L) L) (N (o913 P) (N (o1425 P) L L) L))) (N (o209 P) (N (o337 P) (N (o593 P) (N (o1105 P) L L) L) (N (o849 P) (N (o1361 P) L L) L)) (N (o465 P) (N (o721 P) (N (o1233 P) L L) L) (N (o977 P) L L)))) (N (o113 P) (N (o177 P) (N (o305 P) (N (o561 P) (N (o1073 P) L L) L) (N (o817 P) (N (o1329 P) L L) L)) (N (o433 P) (N (o689 P) (N (o1201 P) L L) L) (N (o945 P) L L))) (N (o241 P) (N (o369 P) (N (o625 P) (N (o1137 P) L L) L) (N (o881 P) (N (o1393 P) L L) L)) (N (o497 P) (N (o753 P) (N (o1265 P) L L) L) (N (o1009 P) L L)))))) (N (o25 P) (N (o41 P) (N (o73 P) (N (o137 P) (N (o265 P) (N (o521 P) (N (o1033 P) L L) L) (N (o777 P) (N (o1289 P) L L) L)) (N (o393 P) (N (o649 P) (N (o1161 P) L L) L) (N (o905 P) (N (o1417 P) L L) L))) (N (o201 P) (N (o329 P) (N (o585 P) (N (o1097 P) L L) L) (N (o841 P) (N (o1353 P) L L) L)) (N (o457 P) (N (o713 P) (N (o1225 P) L L) L) (N (o969 P) L L)))) (N (o105 P) (N (o169 P) (N (o297 P) (N (o553 P) (N (o1065 P) L L) L) (N (o809 P) (N (o1321 P) L L) L)) (N (o425 P) (N (o681 P) (N (o1193 P) L L) L) (N (o937 P) L L))) (N (o233 P) (N (o361 P) (N (o617 P) (N (o1129 P) L L) L) (N (o873 P) (N (o1385 P) L L) L)) (N (o489 P) (N (o745 P) (N (o1257 P) L L) L) (N (o1001 P) L L))))) (N (o57 P) (N (o89 P) (N (o153 P) (N (o281 P) (N (o537 P) (N (o1049 P) L L) L) (N (o793 P) (N (o1305 P) L L) L)) (N (o409 P) (N (o665 P) (N (o1177 P) L L) L) (N (o921 P) L L))) (N (o217 P) (N (o345 P) (N (o601 P) (N (o1113 P) L L) L) (N (o857 P) (N (o1369 P) L L) L)) (N (o473 P) (N (o729 P) (N (o1241 P) L L) L) (N (o985 P) L L)))) (N (o121 P) (N (o185 P) (N (o313 P) (N (o569 P) (N (o1081 P) L L) L) (N (o825 P) (N (o1337 P) L L) L)) (N (o441 P) (N (o697 P) (N (o1209 P) L L) L) (N (o953 P) L L))) (N (o249 P) (N (o377 P) (N (o633 P) (N (o1145 P) L L) L) (N (o889 P) (N (o1401 P) L L) L)) (N (o505 P) (N (o761 P) (N (o1273 P) L L) L) (N (o1017 P) L L))))))) (N (o13 P) (N (o21 P) (N (o37 P) (N (o69 P) (N (o133 P) (N (o261 P) (N (o517 P) (N (o1029 P) L L) L) (N (o773 P) (N (o1285 P) L L) L)) (N (o389 P) (N (o645 P) (N (o1157 P) L L) L) (N (o901 P) (N (o1413 P) L L) L))) (N (o197 P) (N (o325 P) (N (o581 P) (N (o1093 P) L L) L) (N (o837 P) (N (o1349 P) L L) L)) (N (o453 P) (N (o709 P) (N (o1221 P) L L) L) (N (o965 P) L L)))) (N (o101 P) (N (o165 P) (N (o293 P) (N (o549 P) (N (o1061 P) L L) L) (N (o805 P) (N (o1317 P) L L) L)) (N (o421 P) (N (o677 P) (N (o1189 P) L L) L) (N (o933 P) L L))) (N (o229 P) (N (o357 P) (N (o613 P) (N (o1125 P) L L) L) (N (o869 P) (N (o1381 P) L L) L)) (N (o485 P) (N (o741 P) (N (o1253 P) L L) L) (N (o997 P) L L))))) (N (o53 P) (N (o85 P) (N (o149 P) (N (o277 P) (N (o533 P) (N (o1045 P) L L) L) (N (o789 P) (N (o1301 P) L L) L)) (N (o405 P) (N (o661 P) (N (o1173 P) L L) L) (N (o917 P) L L))) (N (o213 P) (N (o341 P) (N (o597 P) (N (o1109 P) L L) L) (N (o853 P) (N (o1365 P) L L) L)) (N (o469 P) (N (o725 P) (N (o1237 P) L L) L) (N (o981 P) L L)))) (N (o117 P) (N (o181 P) (N (o309 P) (N (o565 P) (N (o1077 P) L L) L) (N (o821 P) (N (o1333 P) L L) L)) (N (o437 P) (N (o693 P) (N (o1205 P) L L) L) (N (o949 P) L L))) (N (o245 P) (N (o373 P) (N (o629 P) (N (o1141 P) L L) L) (N (o885 P) (N (o1397 P) L L) L)) (N (o501 P) (N (o757 P) (N (o1269 P) L L) L) (N (o1013 P) L L)))))) (N (o29 P) (N (o45 P) (N (o77 P) (N (o141 P) (N (o269 P) (N (o525 P) (N (o1037 P) L L) L) (N (o781 P) (N (o1293 P) L L) L)) (N (o397 P) (N (o653 P) (N (o1165 P) L L) L) (N (o909 P) (N (o1421 P) L L) L))) (N (o205 P) (N (o333 P) (N (o589 P) (N (o1101 P) L L) L) (N (o845 P) (N (o1357 P) L L) L)) (N (o461 P) (N (o717 P) (N (o1229 P) L L) L) (N (o973 P) L L)))) (N (o109 P) (N (o173 P) (N (o301 P) (N (o557 P) (N (o1069 P) L L) L) (N (o813 P) (N (o1325 P) L L) L)) (N (o429 P) (N (o685 P) (N (o1197 P) L L) L) (N (o941 P) L L))) (N (o237 P) (N (o365 P) (N (o621 P) (N (o1133 P) L L) L) (N (o877 P) (N (o1389 P) L L) L)) (N (o493 P) (N (o749 P) (N (o1261 P) L L) L) (N (o1005 P) L L))))) (N (o61 P) (N (o93 P) (N (o157 P) (N (o285 P) (N (o541 P) (N (o1053 P) L L) L) (N (o797 P) (N (o1309 P) L L) L)) (N (o413 P) (N (o669 P) (N (o1181 P) L L) L) (N (o925 P) L L))) (N (o221 P) (N (o349 P) (N (o605 P) (N (o1117 P) L L) L) (N (o861 P) (N (o1373 P) L L) L)) (N (o477 P) (N (o733 P) (N (o1245 P) L L) L) (N (o989 P) L L)))) (N (o125 P) (N (o189 P) (N (o317 P) (N (o573 P) (N (o1085 P) L L) L) (N (o829 P) (N (o1341 P) L L) L)) (N (o445 P) (N (o701 P) (N (o1213 P) L L) L) (N (o957 P) L L))) (N (o253 P) (N (o381 P) (N (o637 P) (N (o1149 P) L L) L) (N (o893 P) (N (o1405 P) L L) L)) (N (o509 P) (N (o765 P) (N (o1277 P) L L) L) (N (o1021 P) L L))))))))) (N (o2 P) (N (o4 P) (N (o8 P) (N (o16 P) (N (o32 P) (N (o64 P) (N (o128 P) (N (o256 P) (N (o512 P) (N (o1024 P) L L) L) (N (o768 P) (N (o1280 P) L L) L)) (N (o384 P) (N (o640 P) (N (o1152 P) L L) L) (N (o896 P) (N (o1408 P) L L) L))) (N (o192 P) (N (o320 P) (N (o576 P) (N (o1088 P) L L) L) (N (o832 P) (N (o1344 P) L L) L)) (N (o448 P) (N (o704 P) (N (o1216 P) L L) L) (N (o960 P) L L)))) (N (o96 P) (N (o160 P) (N (o288 P) (N (o544 P) (N (o1056 P) L L) L) (N (o800 P) (N (o1312 P) L L) L)) (N (o416 P) (N (o672 P) (N (o1184 P) L L) L) (N (o928 P) L L))) (N (o224 P) (N (o352 P) (N (o608 P) (N (o1120 P) L L) L) (N (o864 P) (N (o1376 P) L L) L)) (N (o480 P) (N (o736 P) (N (o1248 P) L L) L) (N (o992 P) L L))))) (N (o48 P) (N (o80 P) (N (o144 P) (N (o272 P) (N (o528 P) (N (o1040 P) L L) L) (N (o784 P) (N (o1296 P) L L) L)) (N (o400 P) (N (o656 P) (N (o1168 P) L L) L) (N (o912 P) (N (o1424 P) L L) L))) (N (o208 P) (N (o336 P) (N (o592 P) (N (o1104 P) L L) L) (N (o848 P) (N (o1360 P) L L) L)) (N (o464 P) (N (o720 P) (N (o1232 P) L L) L) (N (o976 P) L L)))) (N (o112 P) (N (o176 P) (N (o304 P) (N (o560 P) (N (o1072 P) L L) L) (N (o816 P) (N (o1328 P) L L) L)) (N (o432 P) (N (o688 P) (N (o1200 P) L L) L) (N (o944 P) L L))) (N (o240 P) (N (o368 P) (N (o624 P) (N (o1136 P) L L) L) (N (o880 P) (N (o1392 P) L L) L)) (N (o496 P) (N (o752 P) (N (o1264 P) L L) L) (N (o1008 P) L L)))))) (N (o24 P) (N (o40 P) (N (o72 P) (N (o136 P) (N (o264 P) (N (o520 P) (N (o1032 P) L L) L) (N (o776 P) (N (o1288 P) L L) L)) (N (o392 P) (N (o648 P) (N (o1160 P) L L) L) (N (o904 P) (N (o1416 P) L L) L))) (N (o200 P) (N (o328 P) (N (o584 P) (N (o1096 P) L L) L) (N (o840 P) (N (o1352 P) L L) L)) (N (o456 P) (N (o712 P) (N (o1224 P) L L) L) (N (o968 P) L L)))) (N (o104 P) (N (o168 P) (N (o296 P) (N (o552 P) (N (o1064 P) L L) L) (N (o808 P) (N (o1320 P) L L) L)) (N (o424 P) (N (o680 P) (N (o1192 P) L L) L) (N (o936 P) L L))) (N (o232 P) (N (o360 P) (N (o616 P) (N (o1128 P) L L) L) (N (o872 P) (N (o1384 P) L L) L)) (N (o488 P) (N (o744 P) (N (o1256 P) L L) L) (N (o1000 P) L L))))) (N (o56 P) (N (o88 P) (N (o152 P) (N (o280 P) (N (o536 P) (N (o1048 P) L L) L) (N (o792 P) (N (o1304 P) L L) L)) (N (o408 P) (N (o664 P) (N (o1176 P) L L) L) (N (o920 P) L L))) (N (o216 P) (N (o344 P) (N (o600 P) (N (o1112 P) L L) L) (N (o856 P) (N (o1368 P) L L) L)) (N (o472 P) (N (o728 P) (N (o1240 P) L L) L) (N (o984 P) L L)))) (N (o120 P) (N (o184 P) (N (o312 P) (N (o568 P) (N (o1080 P) L L) L) (N (o824 P) (N (o1336 P) L L) L)) (N (o440 P) (N (o696 P) (N (o1208 P) L L) L) (N (o952 P) L L))) (N (o248 P) (N (o376 P) (N (o632 P) (N (o1144 P) L L) L) (N (o888 P) (N (o1400 P) L L) L)) (N (o504 P) (N (o760 P) (N (o1272 P) L L) L) (N (o1016 P) L L))))))) (N (o12 P) (N (o20 P) (N (o36 P) (N (o68 P) (N (o132 P) (N (o260 P) (N (o516 P) (N (o1028 P) L L) L) (N (o772 P) (N (o1284 P) L L) L)) (N (o388 P) (N (o644 P) (N (o1156 P) L L) L) (N (o900 P) (N (o1412 P) L L) L))) (N (o196 P) (N (o324 P) (N (o580 P) (N (o1092 P) L L) L) (N (o836 P) (N (o1348 P) L L) L)) (N (o452 P) (N (o708 P) (N (o1220 P) L L) L) (N (o964 P) L L)))) (N (o100 P) (N (o164 P) (N (o292 P) (N (o548 P) (N (o1060 P) L L) L) (N (o804 P) (N (o1316 P) L L) L)) (N (o420 P) (N (o676 P) (N (o1188 P) L L) L) (N (o932 P) L L))) (N (o228 P) (N (o356 P) (N (o612 P) (N (o1124 P) L L) L) (N (o868 P) (N (o1380 P) L L) L)) (N (o484 P) (N (o740 P) (N (o1252 P) L L) L) (N (o996 P) L L))))) (N (o52 P) (N (o84 P) (N (o148 P) (N (o276 P) (N (o532 P) (N (o1044 P) L L) L) (N (o788 P) (N (o1300 P) L L) L)) (N (o404 P) (N (o660 P) (N (o1172 P) L L) L) (N (o916 P) (N (o1428 P) L L) L))) (N (o212 P) (N (o340 P) (N (o596 P) (N (o1108 P) L L) L) (N (o852 P) (N (o1364 P) L L) L)) (N (o468 P) (N (o724 P) (N (o1236 P) L L) L) (N (o980 P) L L)))) (N (o116 P) (N (o180 P) (N (o308 P) (N (o564 P) (N (o1076 P) L L) L) (N (o820 P) (N (o1332 P) L L) L)) (N (o436 P) (N (o692 P) (N (o1204 P) L L) L) (N (o948 P) L L))) (N (o244 P) (N (o372 P) (N (o628 P) (N (o1140 P) L L) L) (N (o884 P) (N (o1396 P) L L) L)) (N (o500 P) (N (o756 P) (N (o1268 P) L L) L) (N (o1012 P) L L)))))) (N (o28 P) (N (o44 P) (N (o76 P) (N (o140 P) (N (o268 P) (N (o524 P) (N (o1036 P) L L) L) (N (o780 P) (N (o1292 P) L L) L)) (N (o396 P) (N (o652 P) (N (o1164 P) L L) L) (N (o908 P) (N (o1420 P) L L) L))) (N (o204 P) (N (o332 P) (N (o588 P) (N (o1100 P) L L) L) (N (o844 P) (N (o1356 P) L L) L)) (N (o460 P) (N (o716 P) (N (o1228 P) L L) L) (N (o972 P) L L)))) (N (o108 P) (N (o172 P) (N (o300 P) (N (o556 P) (N (o1068 P) L L) L) (N (o812 P) (N (o1324 P) L L) L)) (N (o428 P) (N (o684 P) (N (o1196 P) L L) L) (N (o940 P) L L))) (N (o236 P) (N (o364 P) (N (o620 P) (N (o1132 P) L L) L) (N (o876 P) (N (o1388 P) L L) L)) (N (o492 P) (N (o748 P) (N (o1260 P) L L) L) (N (o1004 P) L L))))) (N (o60 P) (N (o92 P) (N (o156 P) (N (o284 P) (N (o540 P) (N (o1052 P) L L) L) (N (o796 P) (N (o1308 P) L L) L)) (N (o412 P) (N (o668 P) (N (o1180 P) L L) L) (N (o924 P) L L))) (N (o220 P) (N (o348 P) (N (o604 P) (N (o1116 P) L L) L) (N (o860 P) (N (o1372 P) L L) L)) (N (o476 P) (N (o732 P) (N (o1244 P) L L) L) (N (o988 P) L L)))) (N (o124 P) (N (o188 P) (N (o316 P) (N (o572 P) (N (o1084 P) L L) L) (N (o828 P) (N (o1340 P) L L) L)) (N (o444 P) (N (o700 P) (N (o1212 P) L L) L) (N (o956 P) L L))) (N (o252 P) (N (o380 P) (N (o636 P) (N (o1148 P) L L) L) (N (o892 P) (N (o1404 P) L L) L)) (N (o508 P) (N (o764 P) (N (o1276 P) L L) L) (N (o1020 P) L L)))))))) (N (o6 P) (N (o10 P) (N (o18 P) (N (o34 P) (N (o66 P) (N (o130 P) (N (o258 P) (N (o514 P) (N (o1026 P) L L) L) (N (o770 P) (N (o1282 P) L L) L)) (N (o386 P) (N (o642 P) (N (o1154 P) L L) L) (N (o898 P) (N (o1410 P) L L) L))) (N (o194 P) (N (o322 P) (N (o578 P) (N (o1090 P) L L) L) (N (o834 P) (N (o1346 P) L L) L)) (N (o450 P) (N (o706 P) (N (o1218 P) L L) L) (N (o962 P) L L)))) (N (o98 P) (N (o162 P) (N (o290 P) (N (o546 P) (N (o1058 P) L L) L) (N (o802 P) (N (o1314 P) L L) L)) (N (o418 P) (N (o674 P) (N (o1186 P) L L) L) (N (o930 P) L L))) (N (o226 P) (N (o354 P) (N (o610 P) (N (o1122 P) L L) L) (N (o866 P) (N (o1378 P) L L) L)) (N (o482 P) (N (o738 P) (N (o1250 P) L L) L) (N (o994 P) L L))))) (N (o50 P) (N (o82 P) (N (o146 P) (N (o274 P) (N (o530 P) (N (o1042 P) L L) L) (N (o786 P) (N (o1298 P) L L) L)) (N (o402 P) (N (o658 P) (N (o1170 P) L L) L) (N (o914 P) (N (o1426 P) L L) L))) (N (o210 P) (N (o338 P) (N (o594 P) (N (o1106 P) L L) L) (N (o850 P) (N (o1362 P) L L) L)) (N (o466 P) (N (o722 P) (N (o1234 P) L L) L) (N (o978 P) L L)))) (N (o114 P) (N (o178 P) (N (o306 P) (N (o562 P) (N (o1074 P) L L) L) (N (o818 P) (N (o1330 P) L L) L)) (N (o434 P) (N (o690 P) (N (o1202 P) L L) L) (N (o946 P) L L))) (N (o242 P) (N (o370 P) (N (o626 P) (N (o1138 P) L L) L) (N (o882 P) (N (o1394 P) L L) L)) (N (o498 P) (N (o754 P) (N (o1266 P) L L) L) (N (o1010 P) L L)))))) (N (o26 P) (N (o42 P) (N (o74 P) (N (o138 P) (N (o266 P) (N (o522 P) (N (o1034 P) L L) L) (N (o778 P) (N (o1290 P) L L) L)) (N (o394 P) (N (o650 P) (N (o1162 P) L L) L) (N (o906 P) (N (o1418 P) L L) L))) (N (o202 P) (N (o330 P) (N (o586 P) (N (o1098 P) L L) L) (N (o842 P) (N (o1354 P) L L) L)) (N (o458 P) (N (o714 P) (N (o1226 P) L L) L) (N (o970 P) L L)))) (N (o106 P) (N (o170 P) (N (o298 P) (N (o554 P) (N (o1066 P) L L) L) (N (o810 P) (N (o1322 P) L L) L)) (N (o426 P) (N (o682 P) (N (o1194 P) L L) L) (N (o938 P) L L))) (N (o234 P) (N (o362 P) (N (o618 P) (N (o1130 P) L L) L) (N (o874 P) (N (o1386 P) L L) L)) (N (o490 P) (N (o746 P) (N (o1258 P) L L) L) (N (o1002 P) L L))))) (N (o58 P) (N (o90 P) (N (o154 P) (N (o282 P) (N (o538 P) (N (o1050 P) L L) L) (N (o794 P) (N (o1306 P) L L) L)) (N (o410 P) (N (o666 P) (N (o1178 P) L L) L) (N (o922 P) L L))) (N (o218 P) (N (o346 P) (N (o602 P) (N (o1114 P) L L) L) (N (o858 P) (N (o1370 P) L L) L)) (N (o474 P) (N (o730 P) (N (o1242 P) L L) L) (N (o986 P) L L)))) (N (o122 P) (N (o186 P) (N (o314 P) (N (o570 P) (N (o1082 P) L L) L) (N (o826 P) (N (o1338 P) L L) L)) (N (o442 P) (N (o698 P) (N (o1210 P) L L) L) (N (o954 P) L L))) (N (o250 P) (N (o378 P) (N (o634 P) (N (o1146 P) L L) L) (N (o890 P) (N (o1402 P) L L) L)) (N (o506 P) (N (o762 P) (N (o1274 P) L L) L) (N (o1018 P) L L))))))) (N (o14 P) (N (o22 P) (N (o38 P) (N (o70 P) (N (o134 P) (N (o262 P) (N (o518 P) (N (o1030 P) L L) L) (N (o774 P) (N (o1286 P) L L) L)) (N (o390 P) (N (o646 P) (N (o1158 P) L L) L) (N (o902 P) (N (o1414 P) L L) L))) (N (o198 P) (N (o326 P) (N (o582 P) (N (o1094 P) L L) L) (N (o838 P) (N (o1350 P) L L) L)) (N (o454 P) (N (o710 P) (N (o1222 P) L L) L) (N (o966 P) L L)))) (N (o102 P) (N (o166 P) (N (o294 P) (N (o550 P) (N (o1062 P) L L) L) (N (o806 P) (N (o1318 P) L L) L)) (N (o422 P) (N (o678 P) (N (o1190 P) L L) L) (N (o934 P) L L))) (N (o230 P) (N (o358 P) (N (o614 P) (N (o1126 P) L L) L) (N (o870 P) (N (o1382 P) L L) L)) (N (o486 P) (N (o742 P) (N (o1254 P) L L) L) (N (o998 P) L L))))) (N (o54 P) (N (o86 P) (N (o150 P) (N (o278 P) (N (o534 P) (N (o1046 P) L L) L) (N (o790 P) (N (o1302 P) L L) L)) (N (o406 P) (N (o662 P) (N (o1174 P) L L) L) (N (o918 P) L L))) (N (o214 P) (N (o342 P) (N (o598 P) (N (o1110 P) L L) L) (N (o854 P) (N (o1366 P) L L) L)) (N (o470 P) (N (o726 P) (N (o1238 P) L L) L) (N (o982 P) L L)))) (N (o118 P) (N (o182 P) (N (o310 P) (N (o566 P) (N (o1078 P) L L) L) (N (o822 P) (N (o1334 P) L L) L)) (N (o438 P) (N (o694 P) (N (o1206 P) L L) L) (N (o950 P) L L))) (N (o246 P) (N (o374 P) (N (o630 P) (N (o1142 P) L L) L) (N (o886 P) (N (o1398 P) L L) L)) (N (o502 P) (N (o758 P) (N (o1270 P) L L) L) (N (o1014 P) L L)))))) (N (o30 P) (N (o46 P) (N (o78 P) (N (o142 P) (N (o270 P) (N (o526 P) (N (o1038 P) L L) L) (N (o782 P) (N (o1294 P) L L) L)) (N (o398 P) (N (o654 P) (N (o1166 P) L L) L) (N (o910 P) (N (o1422 P) L L) L))) (N (o206 P) (N (o334 P) (N (o590 P) (N (o1102 P) L L) L) (N (o846 P) (N (o1358 P) L L) L)) (N (o462 P) (N (o718 P) (N (o1230 P) L L) L) (N (o974 P) L L)))) (N (o110 P) (N (o174 P) (N (o302 P) (N (o558 P) (N (o1070 P) L L) L) (N (o814 P) (N (o1326 P) L L) L)) (N (o430 P) (N (o686 P) (N (o1198 P) L L) L) (N (o942 P) L L))) (N (o238 P) (N (o366 P) (N (o622 P) (N (o1134 P) L L) L) (N (o878 P) (N (o1390 P) L L) L)) (N (o494 P) (N (o750 P) (N (o1262 P) L L) L) (N (o1006 P) L L))))) (N (o62 P) (N (o94 P) (N (o158 P) (N (o286 P) (N (o542 P) (N (o1054 P) L L) L) (N (o798 P) (N (o1310 P) L L) L)) (N (o414 P) (N (o670 P) (N (o1182 P) L L) L) (N (o926 P) L L))) (N (o222 P) (N (o350 P) (N (o606 P) (N (o1118 P) L L) L) (N (o862 P) (N (o1374 P) L L) L)) (N (o478 P) (N (o734 P) (N (o1246 P) L L) L) (N (o990 P) L L)))) (N (o126 P) (N (o190 P) (N (o318 P) (N (o574 P) (N (o1086 P) L L) L) (N (o830 P) (N (o1342 P) L L) L)) (N (o446 P) (N (o702 P) (N (o1214 P) L L) L) (N (o958 P) L L))) (N (o254 P) (N (o382 P) (N (o638 P) (N (o1150 P) L L) L) (N (o894 P) (N (o1406 P) L L) L)) (N (o510 P) (N (o766 P) (N (o1278 P) L L) L) (N (o1022 P) L L))))))))))
end K03.Mid
namespace K03
open PySem PySem.W Own
noncomputable def mid (w : World) : SharedT := ⟨Mid.tree1 w.params, 645, {}, #[], {}, 1248, (start (opening R.prog)).1.os⟩
noncomputable def mid2 (w : World) : SharedT := ⟨Mid.tree2 w.params, 1429, {}, #[], {}, 2437, (start (opening R.prog)).1.os⟩
noncomputable def envT : Env := { scope := R.prog.main.scope, locals := 3, globals := 3, cells := [], code := (.ref 52), frame := some 53 }
noncomputable def cutT : Own.Three.Cut := { p := R.prog, l1 := (behindTheImports R.prog).take 45, l2 := ((behindTheImports R.prog).drop 45).take 115, l3 := (behindTheImports R.prog).drop 160, env := envT, q := ⟨0, 0, 0, 0⟩, n0 := 50, ann := some (.ref 6), pre := 12, pp := ⟨0, 0, 0, 0⟩, pm := ⟨202, 0, 204, 29⟩, pl := ⟨1000, 0, 1016, 31⟩, M := 60000 }
end K03

set_option Elab.async false
set_option linter.all false
set_option maxRecDepth 100000
set_option maxHeartbeats 0
namespace K03
open PySem PySem.W PySem.Calls PyProof.Rows HandSHeadRun Own
theorem r1 (w : World) : cutT.firstF (fun q => stepQ (denQ tabQ) q w) fenceQ = some (true, cutT.n0, cutT.ann, ⟨denQ tabQ cutT.code, cutT.code, cutT.pp, cutT.B⟩, (.next, cutT.code), (.next, mid w, cutT.code, cutT.pm)) := by
  kernel_rfl
end K03

set_option Elab.async false
set_option linter.all false
set_option maxRecDepth 100000
set_option maxHeartbeats 0
namespace K03
open PySem PySem.W PySem.Calls PyProof.Rows HandSHeadRun Own
theorem rm (w : World) : cutT.midF (fun q => stepQ (denQ tabQ) q w) (mid w) = some (.next, mid2 w, cutT.code, cutT.pl) := by
  kernel_rfl
end K03

set_option Elab.async false
set_option linter.all false
set_option maxRecDepth 100000
set_option maxHeartbeats 0
namespace K03
open PySem PySem.W PySem.Calls PyProof.Rows HandSHeadRun Own
theorem r2 (w : World) : (cutT.beginF (fun q => stepQ (denQ tabQ) q w) fenceQ).bind (fun s0 => (cutT.secondF (fun q => stepQ (denQ tabQ) q w) (mid2 w)).map fun z => (looksF R.prog s0.heap z.1.abs, z.2)) = some (true, .next, cutT.code) := by
  kernel_rfl
end K03

set_option Elab.async false
set_option linter.all false
set_option maxRecDepth 100000
set_option maxHeartbeats 0
namespace K03
open PySem PySem.W PySem.Calls PyProof.Rows HandSHeadRun Own
def looseN : List Str := (["_wall", "__name__", "all_lots", "lots_among", "lots_of_greatest", "least_lot", "BellError", "BadHouse", "BadPlaces", "BadRoads", "BadDoors", "BadSteps"] : List Str) ++ (["BadTurn", "BadTurns", "BadPlan", "BadLot", "BadBell", "BadAmount", "BadMoments", "BadOrder", "BadWishes", "BadParts", "Never", "BadDoor"] : List Str) ++ (["SameDoor", "NotKept", "BadNumbers", "BadPrices", "OtherDoors", "Lacks", "is_integer", "is_number", "is_list", "House", "is_place", "is_road"] : List Str) ++ (["is_door", "first_wrong_road", "comes_to", "first_wrong_door", "need_house", "need_bell", "need_turn", "given_lot", "need_door", "need_sort", "need_order", "need_numbers"] : List Str) ++ (["need_wishes", "is_lot", "is_order", "is_numbers", "asked_of", "change_from", "change_between", "change_by_steps", "steps_of", "Net", "lot_net", "most"] : List Str) ++ (["most_plan", "levels", "steady", "lot_bell", "most_by", "first_bell", "repeated", "turns_behind", "is_moments", "is_list_of_moments", "worth", "moments_for"] : List Str) ++ (["is_steps", "need_steps", "passed_ahead", "later", "WORDS", "plan_fault", "is_plan", "has_form", "are_steps", "door_faults", "road_faults", "place_faults"] : List Str) ++ (["place_changes", "need_plan", "brings", "bell_of", "on_roads", "asked", "lacking", "spares", "lot_for", "is_lot_for", "is_plan_for", "Traffic"] : List Str) ++ (["plan_by_order", "corner", "differences", "corners", "corner_by", "order_of", "mosts_of_lots", "beginnings", "first_unlike", "first_unlike_bell", "parting", "least_bell"] : List Str) ++ (["never", "rising", "bell_with", "asked_lots", "least_that_never", "lacking_at", "dearest_order", "dearest", "is_fraction", "fraction", "least_fraction", "further"] : List Str) ++ (["least_between", "kept_spares", "tight", "bound", "times", "whole_times", "are_let", "tight_lots", "groups_between", "in_one", "parted", "first_wrong_part"] : List Str) ++ (["is_part", "Gap", "row_for", "first_wide", "is_row_for", "plan_for", "Desk", "mix_for", "corner_beside", "stretch", "in_least_numbers", "is_mix_for"] : List Str) ++ (["is_mix", "is_share", "part_for", "least_left", "part_lot", "not_let", "turned", "turned_plan", "turned_steps", "_law_stream", "_law_draw", "_law_pick"] : List Str) ++ (["_law_mixed", "_law_same", "_law_stepping", "_law_house", "_law_asked_a", "_law_asked_b", "_law_asked_c", "_law_met"] : List Str)
theorem r3 (w : World) : (cutT.secondF (fun q => stepQ (denQ tabQ) q w) (mid2 w)).map (fun z => seenQ (PySem.W.view R.prog [0, 1, 194]) looseN (importedModules R.prog.main.body) (fun s => xlAt (PySem.W.view R.prog [0, 1, 194]) [] s && recOk R.toRowW.records s) z.1.abs) = some (openGood (PySem.W.view R.prog [0, 1, 194]) looseN) := by
  kernel_rfl
end K03

set_option Elab.async false
set_option linter.all false
set_option maxRecDepth 100000
set_option maxHeartbeats 0
namespace K03
open PySem PySem.W PySem.Calls PyProof.Rows HandSHeadRun Own
theorem r4 (w : World) : (cutT.secondF (fun q => stepQ (denQ tabQ) q w) (mid2 w)).map (fun z => ob z.1) = some (hk.val w) := by
  kernel_rfl
end K03

set_option Elab.async false
set_option linter.all false
set_option maxRecDepth 100000
set_option maxHeartbeats 8000000
namespace K03
open PySem PySem.Spec PyProof.Rows L2 Own LamX
theorem fun_ofD {K : PySem.W.Frag} {x q : Str} {st : Stmt} {f : Addr} (h : ∃ fd, FunD K x q (defArgs st) (defBody st) (defScope st) [] [] f fd) : ∃ fd, Fun K x q st f fd := by
  obtain ⟨fd, F⟩ := h
  obtain ⟨oc, od, dV, kV, doc, pm, an, cdv, ct, osl, rfl, lk, hcd, hD, _⟩ := F.ex
  rcases hD with ⟨_, rfl⟩ | ⟨e, _⟩
  · exact ⟨_, ⟨oc, od, kV, doc, pm, an, cdv, ct, osl, rfl, lk, hcd⟩, F.kp⟩
  · exact absurd rfl e
theorem funC_ofD {K : PySem.W.Frag} {x q : Str} {st : Stmt} {p : He.Defn} (h : ∃ fd, FunD K x q (defArgs st) (defBody st) (defScope st) [] [] (He.fAd K p) fd) : ∃ fd, FunC K x q st (He.fAd K p) fd (He.codeOf K p) := by
  obtain ⟨fd, F⟩ := h
  obtain ⟨oc, od, dV, kV, doc, pm, an, cdv, ct, osl, rfl, lk, hcd, hD, _⟩ := F.ex
  obtain ⟨c, rfl⟩ := He.codeIn_ref hcd
  have e := He.codeOf_eq lk rfl
  rw [e]
  rcases hD with ⟨_, rfl⟩ | ⟨e, _⟩
  · exact ⟨_, ⟨oc, od, kV, doc, pm, an, ct, osl, rfl, lk, hcd⟩, F.kp⟩
  · exact absurd rfl e
def tT (K : PySem.W.Frag) : List (Addr × Str) := [((He.cT K pA).2, qAskA), ((He.cT K pB).2, qAskB), ((He.cT K pC).2, qAskC), ((He.cT K pL).2, qLw)]
theorem all_mem {α : Type} {p : α → Bool} {l : List α} (h : l.all p = true) {x : α} (hx : x ∈ l) : p x = true := List.all_eq_true.mp h x hx
theorem initB_at {K : PySem.W.Frag} (h : initB K = true) {c f : Str} (hm : (c, f) ∈ nIn) : ExcI K (He.ga K c) (He.ma K (He.ga K c) "__init__") ∧ XfC K (He.ga K c) ∧ PySem.W.findIn K (.ref (He.ga K c)) f = some none := by
  obtain ⟨z1, z2⟩ := He.ba (all_mem h hm)
  obtain ⟨z3, z4⟩ := He.ba z1
  obtain ⟨z5, z6⟩ := He.ba z2
  obtain ⟨z7, z8⟩ := He.ba z6
  exact ⟨⟨(clsB_ok z3).1, He.eqO_ok z5, of_decide_eq_true z7⟩, xfB_ok z4, He.eqO_ok z8⟩
/-- unlike tables -/
theorem hu_at {K : PySem.W.Frag} : ∀ {T : List (Addr × Str)} {a : Addr} {q : Str}, (∀ p ∈ T, p.1 = a → p.2 = q) → ∀ p ∈ T, p.1 = a → p.2 = q := fun h => h
section
variable {w : World} {K : PySem.W.Frag} {h : Heap} {mg : Str → Option Value}
theorem facts (KX : K.In h) (G : h.Ns mainGlobals mg) {fa : Addr} (hfa : mg "law" = some (.ref fa)) (c : He.SaysX faD fnD [] tfD exA w h K) : LawAtS PySem.Challenge.rw_lastbell_k03_houses_asked_for w K CX0 10 63 "_law_script" mg fa h := by
  have d := c.t.d
  obtain ⟨m1, m23⟩ := He.ba c.more
  obtain ⟨m2, m3⟩ := He.ba m23
  obtain ⟨d0, m3⟩ := He.ba m3
  have d0 := of_decide_eq_true d0
  obtain ⟨d1, m3⟩ := He.ba m3
  have d1 := of_decide_eq_true d1
  obtain ⟨d2, m3⟩ := He.ba m3
  have d2 := of_decide_eq_true d2
  obtain ⟨d3, m3⟩ := He.ba m3
  have d3 := of_decide_eq_true d3
  obtain ⟨d4, m3⟩ := He.ba m3
  have d4 := of_decide_eq_true d4
  have d5 := m3
  have d5 := of_decide_eq_true d5
  obtain ⟨fdx0, Fx0⟩ := fun_ofD (x := "need_house") (q := "need_house") (st := topS 46) (f := He.ga K "need_house") (d.def_ 0 rfl)
  obtain ⟨fdx1, Fx1⟩ := fun_ofD (x := "asked") (q := "asked") (st := topS 103) (f := He.ga K "asked") (d.def_ 1 rfl)
  obtain ⟨fdx2, Fx2⟩ := fun_ofD (x := "lacking") (q := "lacking") (st := topS 104) (f := He.ga K "lacking") (d.def_ 2 rfl)
  obtain ⟨fdx3, Fx3⟩ := fun_ofD (x := "is_lot_for") (q := "is_lot_for") (st := topS 107) (f := He.ga K "is_lot_for") (d.def_ 3 rfl)
  obtain ⟨fdx4, Fx4⟩ := fun_ofD (x := "is_plan_for") (q := "is_plan_for") (st := topS 108) (f := He.ga K "is_plan_for") (d.def_ 4 rfl)
  obtain ⟨fdx5, Fx5⟩ := fun_ofD (x := "row_for") (q := "row_for") (st := topS 159) (f := He.ga K "row_for") (d.def_ 5 rfl)
  obtain ⟨fdx6, Fx6⟩ := fun_ofD (x := "is_row_for") (q := "is_row_for") (st := topS 161) (f := He.ga K "is_row_for") (d.def_ 6 rfl)
  obtain ⟨fdx7, Fx7⟩ := fun_ofD (x := "parted") (q := "parted") (st := topS 153) (f := He.ga K "parted") (d.def_ 7 rfl)
  obtain ⟨fdx8, Fx8⟩ := fun_ofD (x := "most") (q := "most") (st := topS 69) (f := He.ga K "most") (d.def_ 8 rfl)
  obtain ⟨fdx9, Fx9⟩ := fun_ofD (x := "most_plan") (q := "most_plan") (st := topS 70) (f := He.ga K "most_plan") (d.def_ 9 rfl)
  obtain ⟨fdx10, Fx10⟩ := fun_ofD (x := "levels") (q := "levels") (st := topS 71) (f := He.ga K "levels") (d.def_ 10 rfl)
  obtain ⟨fdx11, Fx11⟩ := fun_ofD (x := "lot_bell") (q := "lot_bell") (st := topS 73) (f := He.ga K "lot_bell") (d.def_ 11 rfl)
  obtain ⟨fdx12, Fx12⟩ := fun_ofD (x := "is_moments") (q := "is_moments") (st := topS 79) (f := He.ga K "is_moments") (d.def_ 12 rfl)
  obtain ⟨fdx13, Fx13⟩ := fun_ofD (x := "worth") (q := "worth") (st := topS 81) (f := He.ga K "worth") (d.def_ 13 rfl)
  obtain ⟨fdx14, Fx14⟩ := fun_ofD (x := "moments_for") (q := "moments_for") (st := topS 82) (f := He.ga K "moments_for") (d.def_ 14 rfl)
  obtain ⟨fdx15, Fx15⟩ := fun_ofD (x := "plan_by_order") (q := "plan_by_order") (st := topS 112) (f := He.ga K "plan_by_order") (d.def_ 15 rfl)
  obtain ⟨fdx16, Fx16⟩ := fun_ofD (x := "corner") (q := "corner") (st := topS 113) (f := He.ga K "corner") (d.def_ 16 rfl)
  obtain ⟨fdx17, Fx17⟩ := fun_ofD (x := "corners") (q := "corners") (st := topS 115) (f := He.ga K "corners") (d.def_ 17 rfl)
  obtain ⟨fdx18, Fx18⟩ := fun_ofD (x := "order_of") (q := "order_of") (st := topS 117) (f := He.ga K "order_of") (d.def_ 18 rfl)
  obtain ⟨fdx19, Fx19⟩ := fun_ofD (x := "plan_fault") (q := "plan_fault") (st := topS 90) (f := He.ga K "plan_fault") (d.def_ 19 rfl)
  obtain ⟨fdx20, Fx20⟩ := fun_ofD (x := "brings") (q := "brings") (st := topS 99) (f := He.ga K "brings") (d.def_ 20 rfl)
  obtain ⟨fdx21, Fx21⟩ := fun_ofD (x := "bell_of") (q := "bell_of") (st := topS 100) (f := He.ga K "bell_of") (d.def_ 21 rfl)
  obtain ⟨fdx22, Fx22⟩ := fun_ofD (x := "on_roads") (q := "on_roads") (st := topS 101) (f := He.ga K "on_roads") (d.def_ 22 rfl)
  obtain ⟨fdx23, Fx23⟩ := fun_ofD (x := "least_bell") (q := "least_bell") (st := topS 125) (f := He.ga K "least_bell") (d.def_ 23 rfl)
  obtain ⟨fdx24, Fx24⟩ := fun_ofD (x := "never") (q := "never") (st := topS 126) (f := He.ga K "never") (d.def_ 24 rfl)
  obtain ⟨fdx25, Fx25⟩ := fun_ofD (x := "rising") (q := "rising") (st := topS 127) (f := He.ga K "rising") (d.def_ 25 rfl)
  obtain ⟨fdx26, Fx26⟩ := fun_ofD (x := "bell_with") (q := "bell_with") (st := topS 128) (f := He.ga K "bell_with") (d.def_ 26 rfl)
  obtain ⟨fdx27, Fx27⟩ := fun_ofD (x := "further") (q := "further") (st := topS 140) (f := He.ga K "further") (d.def_ 27 rfl)
  obtain ⟨fdx28, Fx28⟩ := fun_ofD (x := "tight") (q := "tight") (st := topS 143) (f := He.ga K "tight") (d.def_ 28 rfl)
  obtain ⟨fdx29, Fx29⟩ := fun_ofD (x := "bound") (q := "bound") (st := topS 144) (f := He.ga K "bound") (d.def_ 29 rfl)
  obtain ⟨fdx30, Fx30⟩ := fun_ofD (x := "times") (q := "times") (st := topS 145) (f := He.ga K "times") (d.def_ 30 rfl)
  obtain ⟨fdx31, Fx31⟩ := fun_ofD (x := "part_for") (q := "part_for") (st := topS 174) (f := He.ga K "part_for") (d.def_ 31 rfl)
  obtain ⟨fdx32, Fx32⟩ := fun_ofD (x := "part_lot") (q := "part_lot") (st := topS 176) (f := He.ga K "part_lot") (d.def_ 32 rfl)
  obtain ⟨fdx33, Fx33⟩ := fun_ofD (x := "mix_for") (q := "mix_for") (st := topS 166) (f := He.ga K "mix_for") (d.def_ 33 rfl)
  obtain ⟨fdx34, Fx34⟩ := fun_ofD (x := "is_mix_for") (q := "is_mix_for") (st := topS 170) (f := He.ga K "is_mix_for") (d.def_ 34 rfl)
  obtain ⟨fdx35, Fx35⟩ := fun_ofD (x := "dearest_order") (q := "dearest_order") (st := topS 133) (f := He.ga K "dearest_order") (d.def_ 35 rfl)
  obtain ⟨fdx36, Fx36⟩ := fun_ofD (x := "turned") (q := "turned") (st := topS 179) (f := He.ga K "turned") (d.def_ 36 rfl)
  obtain ⟨fdx37, Fx37⟩ := fun_ofD (x := "turned_plan") (q := "turned_plan") (st := topS 180) (f := He.ga K "turned_plan") (d.def_ 37 rfl)
  obtain ⟨fdx38, Fx38⟩ := fun_ofD (x := "first_unlike") (q := "first_unlike") (st := topS 121) (f := He.ga K "first_unlike") (d.def_ 38 rfl)
  obtain ⟨fdx39, Fx39⟩ := fun_ofD (x := "lot_for") (q := "lot_for") (st := topS 106) (f := He.ga K "lot_for") (d.def_ 39 rfl)
  obtain ⟨fdx40, Fx40⟩ := fun_ofD (x := "plan_for") (q := "plan_for") (st := topS 162) (f := He.ga K "plan_for") (d.def_ 40 rfl)
  obtain ⟨fdx41, Fx41⟩ := fun_ofD (x := "steady") (q := "steady") (st := topS 72) (f := He.ga K "steady") (d.def_ 41 rfl)
  obtain ⟨fdx42, Fx42⟩ := fun_ofD (x := "is_plan") (q := "is_plan") (st := topS 91) (f := He.ga K "is_plan") (d.def_ 42 rfl)
  obtain ⟨fdx43, Fx43⟩ := fun_ofD (x := "whole_times") (q := "whole_times") (st := topS 146) (f := He.ga K "whole_times") (d.def_ 43 rfl)
  obtain ⟨fdx44, Fx44⟩ := fun_ofD (x := "dearest") (q := "dearest") (st := topS 134) (f := He.ga K "dearest") (d.def_ 44 rfl)
  obtain ⟨fdx45, Fx45⟩ := fun_ofD (x := "parting") (q := "parting") (st := topS 123) (f := He.ga K "parting") (d.def_ 45 rfl)
  obtain ⟨fdx46, Fx46⟩ := fun_ofD (x := "_law_stream") (q := "_law_stream") (st := topS 183) (f := He.ga K "_law_stream") (d.def_ 46 rfl)
  obtain ⟨fdx47, Fx47⟩ := fun_ofD (x := "_law_draw") (q := "_law_draw") (st := topS 184) (f := He.ga K "_law_draw") (d.def_ 47 rfl)
  obtain ⟨fdx48, Fx48⟩ := fun_ofD (x := "_law_pick") (q := "_law_pick") (st := topS 185) (f := He.ga K "_law_pick") (d.def_ 48 rfl)
  obtain ⟨fdx49, Fx49⟩ := fun_ofD (x := "_law_mixed") (q := "_law_mixed") (st := topS 186) (f := He.ga K "_law_mixed") (d.def_ 49 rfl)
  obtain ⟨fdx50, Fx50⟩ := fun_ofD (x := "_law_same") (q := "_law_same") (st := topS 187) (f := He.ga K "_law_same") (d.def_ 50 rfl)
  obtain ⟨fdx51, Fx51⟩ := fun_ofD (x := "_law_stepping") (q := "_law_stepping") (st := topS 188) (f := He.ga K "_law_stepping") (d.def_ 51 rfl)
  obtain ⟨fdx52, Fx52⟩ := fun_ofD (x := "_law_house") (q := "_law_house") (st := topS 189) (f := He.ga K "_law_house") (d.def_ 52 rfl)
  obtain ⟨fdx53, Fx53⟩ := funC_ofD (x := "_law_asked_a") (q := "_law_asked_a") (st := topS 190) (p := pA) (d.def_ 53 rfl)
  obtain ⟨fdx54, Fx54⟩ := funC_ofD (x := "_law_asked_b") (q := "_law_asked_b") (st := topS 191) (p := pB) (d.def_ 54 rfl)
  obtain ⟨fdx55, Fx55⟩ := funC_ofD (x := "_law_asked_c") (q := "_law_asked_c") (st := topS 192) (p := pC) (d.def_ 55 rfl)
  obtain ⟨fdx56, Fx56⟩ := fun_ofD (x := "_law_met") (q := "_law_met") (st := topS 193) (f := He.ga K "_law_met") (d.def_ 56 rfl)
  obtain ⟨fdx57, Fx57⟩ := funC_ofD (x := "law") (q := "law") (st := topS 194) (p := pL) (d.def_ 57 rfl)
  obtain ⟨fix60, Ix60⟩ := fun_ofD (x := "__init__") (q := "BadHouse.__init__") (st := inClass (topS 10) 0) (f := He.ma K (He.ga K "BadHouse") "__init__") (d.def_ 58 rfl)
  obtain ⟨fix59, Ix59⟩ := fun_ofD (x := "__init__") (q := "Desk.__init__") (st := inClass (topS 164) 0) (f := He.ma K (He.ga K "Desk") "__init__") (d.def_ 59 rfl)
  have gx0 : mg "need_house" = some (.ref (He.ga K "need_house")) := He.glo_ok KX G (d.fact 0 (f := .glo "need_house") rfl)
  have gx1 : mg "asked" = some (.ref (He.ga K "asked")) := He.glo_ok KX G (d.fact 1 (f := .glo "asked") rfl)
  have gx2 : mg "lacking" = some (.ref (He.ga K "lacking")) := He.glo_ok KX G (d.fact 2 (f := .glo "lacking") rfl)
  have gx3 : mg "is_lot_for" = some (.ref (He.ga K "is_lot_for")) := He.glo_ok KX G (d.fact 3 (f := .glo "is_lot_for") rfl)
  have gx4 : mg "is_plan_for" = some (.ref (He.ga K "is_plan_for")) := He.glo_ok KX G (d.fact 4 (f := .glo "is_plan_for") rfl)
  have gx5 : mg "row_for" = some (.ref (He.ga K "row_for")) := He.glo_ok KX G (d.fact 5 (f := .glo "row_for") rfl)
  have gx6 : mg "is_row_for" = some (.ref (He.ga K "is_row_for")) := He.glo_ok KX G (d.fact 6 (f := .glo "is_row_for") rfl)
  have gx7 : mg "parted" = some (.ref (He.ga K "parted")) := He.glo_ok KX G (d.fact 7 (f := .glo "parted") rfl)
  have gx8 : mg "most" = some (.ref (He.ga K "most")) := He.glo_ok KX G (d.fact 8 (f := .glo "most") rfl)
  have gx9 : mg "most_plan" = some (.ref (He.ga K "most_plan")) := He.glo_ok KX G (d.fact 9 (f := .glo "most_plan") rfl)
  have gx10 : mg "levels" = some (.ref (He.ga K "levels")) := He.glo_ok KX G (d.fact 10 (f := .glo "levels") rfl)
  have gx11 : mg "lot_bell" = some (.ref (He.ga K "lot_bell")) := He.glo_ok KX G (d.fact 11 (f := .glo "lot_bell") rfl)
  have gx12 : mg "is_moments" = some (.ref (He.ga K "is_moments")) := He.glo_ok KX G (d.fact 12 (f := .glo "is_moments") rfl)
  have gx13 : mg "worth" = some (.ref (He.ga K "worth")) := He.glo_ok KX G (d.fact 13 (f := .glo "worth") rfl)
  have gx14 : mg "moments_for" = some (.ref (He.ga K "moments_for")) := He.glo_ok KX G (d.fact 14 (f := .glo "moments_for") rfl)
  have gx15 : mg "plan_by_order" = some (.ref (He.ga K "plan_by_order")) := He.glo_ok KX G (d.fact 15 (f := .glo "plan_by_order") rfl)
  have gx16 : mg "corner" = some (.ref (He.ga K "corner")) := He.glo_ok KX G (d.fact 16 (f := .glo "corner") rfl)
  have gx17 : mg "corners" = some (.ref (He.ga K "corners")) := He.glo_ok KX G (d.fact 17 (f := .glo "corners") rfl)
  have gx18 : mg "order_of" = some (.ref (He.ga K "order_of")) := He.glo_ok KX G (d.fact 18 (f := .glo "order_of") rfl)
  have gx19 : mg "plan_fault" = some (.ref (He.ga K "plan_fault")) := He.glo_ok KX G (d.fact 19 (f := .glo "plan_fault") rfl)
  have gx20 : mg "brings" = some (.ref (He.ga K "brings")) := He.glo_ok KX G (d.fact 20 (f := .glo "brings") rfl)
  have gx21 : mg "bell_of" = some (.ref (He.ga K "bell_of")) := He.glo_ok KX G (d.fact 21 (f := .glo "bell_of") rfl)
  have gx22 : mg "on_roads" = some (.ref (He.ga K "on_roads")) := He.glo_ok KX G (d.fact 22 (f := .glo "on_roads") rfl)
  have gx23 : mg "least_bell" = some (.ref (He.ga K "least_bell")) := He.glo_ok KX G (d.fact 23 (f := .glo "least_bell") rfl)
  have gx24 : mg "never" = some (.ref (He.ga K "never")) := He.glo_ok KX G (d.fact 24 (f := .glo "never") rfl)
  have gx25 : mg "rising" = some (.ref (He.ga K "rising")) := He.glo_ok KX G (d.fact 25 (f := .glo "rising") rfl)
  have gx26 : mg "bell_with" = some (.ref (He.ga K "bell_with")) := He.glo_ok KX G (d.fact 26 (f := .glo "bell_with") rfl)
  have gx27 : mg "further" = some (.ref (He.ga K "further")) := He.glo_ok KX G (d.fact 27 (f := .glo "further") rfl)
  have gx28 : mg "tight" = some (.ref (He.ga K "tight")) := He.glo_ok KX G (d.fact 28 (f := .glo "tight") rfl)
  have gx29 : mg "bound" = some (.ref (He.ga K "bound")) := He.glo_ok KX G (d.fact 29 (f := .glo "bound") rfl)
  have gx30 : mg "times" = some (.ref (He.ga K "times")) := He.glo_ok KX G (d.fact 30 (f := .glo "times") rfl)
  have gx31 : mg "part_for" = some (.ref (He.ga K "part_for")) := He.glo_ok KX G (d.fact 31 (f := .glo "part_for") rfl)
  have gx32 : mg "part_lot" = some (.ref (He.ga K "part_lot")) := He.glo_ok KX G (d.fact 32 (f := .glo "part_lot") rfl)
  have gx33 : mg "mix_for" = some (.ref (He.ga K "mix_for")) := He.glo_ok KX G (d.fact 33 (f := .glo "mix_for") rfl)
  have gx34 : mg "is_mix_for" = some (.ref (He.ga K "is_mix_for")) := He.glo_ok KX G (d.fact 34 (f := .glo "is_mix_for") rfl)
  have gx35 : mg "dearest_order" = some (.ref (He.ga K "dearest_order")) := He.glo_ok KX G (d.fact 35 (f := .glo "dearest_order") rfl)
  have gx36 : mg "turned" = some (.ref (He.ga K "turned")) := He.glo_ok KX G (d.fact 36 (f := .glo "turned") rfl)
  have gx37 : mg "turned_plan" = some (.ref (He.ga K "turned_plan")) := He.glo_ok KX G (d.fact 37 (f := .glo "turned_plan") rfl)
  have gx38 : mg "first_unlike" = some (.ref (He.ga K "first_unlike")) := He.glo_ok KX G (d.fact 38 (f := .glo "first_unlike") rfl)
  have gx39 : mg "lot_for" = some (.ref (He.ga K "lot_for")) := He.glo_ok KX G (d.fact 39 (f := .glo "lot_for") rfl)
  have gx40 : mg "plan_for" = some (.ref (He.ga K "plan_for")) := He.glo_ok KX G (d.fact 40 (f := .glo "plan_for") rfl)
  have gx41 : mg "steady" = some (.ref (He.ga K "steady")) := He.glo_ok KX G (d.fact 41 (f := .glo "steady") rfl)
  have gx42 : mg "is_plan" = some (.ref (He.ga K "is_plan")) := He.glo_ok KX G (d.fact 42 (f := .glo "is_plan") rfl)
  have gx43 : mg "whole_times" = some (.ref (He.ga K "whole_times")) := He.glo_ok KX G (d.fact 43 (f := .glo "whole_times") rfl)
  have gx44 : mg "dearest" = some (.ref (He.ga K "dearest")) := He.glo_ok KX G (d.fact 44 (f := .glo "dearest") rfl)
  have gx45 : mg "parting" = some (.ref (He.ga K "parting")) := He.glo_ok KX G (d.fact 45 (f := .glo "parting") rfl)
  have gx46 : mg "_law_stream" = some (.ref (He.ga K "_law_stream")) := He.glo_ok KX G (d.fact 46 (f := .glo "_law_stream") rfl)
  have gx47 : mg "_law_draw" = some (.ref (He.ga K "_law_draw")) := He.glo_ok KX G (d.fact 47 (f := .glo "_law_draw") rfl)
  have gx48 : mg "_law_pick" = some (.ref (He.ga K "_law_pick")) := He.glo_ok KX G (d.fact 48 (f := .glo "_law_pick") rfl)
  have gx49 : mg "_law_mixed" = some (.ref (He.ga K "_law_mixed")) := He.glo_ok KX G (d.fact 49 (f := .glo "_law_mixed") rfl)
  have gx50 : mg "_law_same" = some (.ref (He.ga K "_law_same")) := He.glo_ok KX G (d.fact 50 (f := .glo "_law_same") rfl)
  have gx51 : mg "_law_stepping" = some (.ref (He.ga K "_law_stepping")) := He.glo_ok KX G (d.fact 51 (f := .glo "_law_stepping") rfl)
  have gx52 : mg "_law_house" = some (.ref (He.ga K "_law_house")) := He.glo_ok KX G (d.fact 52 (f := .glo "_law_house") rfl)
  have gx53 : mg "_law_asked_a" = some (.ref (He.ga K "_law_asked_a")) := He.glo_ok KX G (d.fact 53 (f := .glo "_law_asked_a") rfl)
  have gx54 : mg "_law_asked_b" = some (.ref (He.ga K "_law_asked_b")) := He.glo_ok KX G (d.fact 54 (f := .glo "_law_asked_b") rfl)
  have gx55 : mg "_law_asked_c" = some (.ref (He.ga K "_law_asked_c")) := He.glo_ok KX G (d.fact 55 (f := .glo "_law_asked_c") rfl)
  have gx56 : mg "_law_met" = some (.ref (He.ga K "_law_met")) := He.glo_ok KX G (d.fact 56 (f := .glo "_law_met") rfl)
  have gx57 : mg "law" = some (.ref (He.ga K "law")) := He.glo_ok KX G (d.fact 57 (f := .glo "law") rfl)
  have gx58 : mg "House" = some (.ref (He.ga K "House")) := He.glo_ok KX G (d.fact 58 (f := .glo "House") rfl)
  have gx59 : mg "Desk" = some (.ref (He.ga K "Desk")) := He.glo_ok KX G (d.fact 59 (f := .glo "Desk") rfl)
  have gx60 : mg "BadHouse" = some (.ref (He.ga K "BadHouse")) := He.glo_ok KX G (d.fact 60 (f := .glo "BadHouse") rfl)
  have z0 : mg "abs" = none := He.free_ok KX G (d.fact 61 (f := .free "abs") rfl)
  have z1 : mg "int" = none := He.free_ok KX G (d.fact 62 (f := .free "int") rfl)
  have z2 : mg "list" = none := He.free_ok KX G (d.fact 63 (f := .free "list") rfl)
  have z3 : mg "len" = none := He.free_ok KX G (d.fact 64 (f := .free "len") rfl)
  have z4 : mg "isinstance" = none := He.free_ok KX G (d.fact 65 (f := .free "isinstance") rfl)
  have z5 : mg "tuple" = none := He.free_ok KX G (d.fact 66 (f := .free "tuple") rfl)
  have z6 : mg "dict" = none := He.free_ok KX G (d.fact 67 (f := .free "dict") rfl)
  have z7 : mg "bool" = none := He.free_ok KX G (d.fact 68 (f := .free "bool") rfl)
  have z8 : mg "all" = none := He.free_ok KX G (d.fact 69 (f := .free "all") rfl)
  have z9 : mg "zip" = none := He.free_ok KX G (d.fact 70 (f := .free "zip") rfl)
  have z10 : mg "range" = none := He.free_ok KX G (d.fact 71 (f := .free "range") rfl)
  have z11 : mg "enumerate" = none := He.free_ok KX G (d.fact 72 (f := .free "enumerate") rfl)
  have z12 : mg "max" = none := He.free_ok KX G (d.fact 73 (f := .free "max") rfl)
  have z13 : mg "str" = none := He.free_ok KX G (d.fact 74 (f := .free "str") rfl)
  have z14 : mg "min" = none := He.free_ok KX G (d.fact 75 (f := .free "min") rfl)
  have z15 : mg "sum" = none := He.free_ok KX G (d.fact 76 (f := .free "sum") rfl)
  have mk := He.mkr_ok (d.fact 77 (f := .mkr "Desk") rfl)
  have xm := He.exm_ok (d.fact 78 (f := .exm "BadHouse" "BadHouse" true) rfl)
  have B : Bt mg := ⟨z0, z1, z2, z3, z4, z5, z6, z7, z8, z9, z10, z11, z12, z13, z14⟩
  obtain ⟨ix60, xfx60, nox60⟩ := initB_at m1 (c := "BadHouse") (f := "thing") (by decide +kernel)
  have bx0 := Fx0.binds (ps := ["house"]) fun _ _ _ _ _ _ us hl => match us, hl with | [_], _ => rfl
  have bx46 := Fx46.binds (ps := ["_law_script"]) fun _ _ _ _ _ _ us hl => match us, hl with | [_], _ => rfl
  have bx47 := Fx47.binds (ps := ["_law_stream_here", "_law_many"]) fun _ _ _ _ _ _ us hl => match us, hl with | [_, _], _ => rfl
  have bx48 := Fx48.binds (ps := ["_law_stream_here", "_law_things"]) fun _ _ _ _ _ _ us hl => match us, hl with | [_, _], _ => rfl
  have bx49 := Fx49.binds (ps := ["_law_stream_here", "_law_things"]) fun _ _ _ _ _ _ us hl => match us, hl with | [_, _], _ => rfl
  have bx50 := Fx50.binds (ps := ["_law_found", "_law_due"]) fun _ _ _ _ _ _ us hl => match us, hl with | [_, _], _ => rfl
  have bx51 := Fx51.binds (ps := ["_law_stream_here", "_law_begin", "_law_end", "_law_order", "_law_wide"]) fun _ _ _ _ _ _ us hl => match us, hl with | [_, _, _, _, _], _ => rfl
  have bx52 := Fx52.binds (ps := ["_law_stream_here", "_law_places", "_law_full", "_law_doors"]) fun _ _ _ _ _ _ us hl => match us, hl with | [_, _, _, _], _ => rfl
  have bx53 := Fx53.binds (ps := ["_law_odd"]) fun _ _ _ _ _ _ us hl => match us, hl with | [_], _ => rfl
  have bx54 := Fx54.binds (ps := ["_law_odd"]) fun _ _ _ _ _ _ us hl => match us, hl with | [_], _ => rfl
  have bx55 := Fx55.binds (ps := ["_law_odd"]) fun _ _ _ _ _ _ us hl => match us, hl with | [_], _ => rfl
  have bx56 := Fx56.binds (ps := ["_law_ask"]) fun _ _ _ _ _ _ us hl => match us, hl with | [_], _ => rfl
  have bDe := Ix59.binds (ps := ["self", "house", "bell"]) fun _ _ _ _ _ _ us hl => match us, hl with | [_, _, _], _ => rfl
  have kDe := kbn_desk Ix59
  have e := hfa.symm.trans gx57
  cases e
  have nt : NoT K (He.ga K "House") := fun T hT => of_decide_eq_true (all_mem m2 hT)
  have hm0 : ((He.cT K pA).2, qAskA) ∈ tT K := by simp [tT]
  have hu0 : ∀ p ∈ tT K, p.1 = (He.cT K pA).2 → p.2 = qAskA := fun p hp e => by
    simp only [tT, List.mem_cons, List.not_mem_nil, or_false] at hp
    rcases hp with rfl | rfl | rfl | rfl
    · rfl
    · exact absurd e.symm d0
    · exact absurd e.symm d1
    · exact absurd e.symm d2
  have hm1 : ((He.cT K pB).2, qAskB) ∈ tT K := by simp [tT]
  have hu1 : ∀ p ∈ tT K, p.1 = (He.cT K pB).2 → p.2 = qAskB := fun p hp e => by
    simp only [tT, List.mem_cons, List.not_mem_nil, or_false] at hp
    rcases hp with rfl | rfl | rfl | rfl
    · exact absurd e d0
    · rfl
    · exact absurd e.symm d3
    · exact absurd e.symm d4
  have hm2 : ((He.cT K pC).2, qAskC) ∈ tT K := by simp [tT]
  have hu2 : ∀ p ∈ tT K, p.1 = (He.cT K pC).2 → p.2 = qAskC := fun p hp e => by
    simp only [tT, List.mem_cons, List.not_mem_nil, or_false] at hp
    rcases hp with rfl | rfl | rfl | rfl
    · exact absurd e d1
    · exact absurd e d3
    · rfl
    · exact absurd e.symm d5
  have hm3 : ((He.cT K pL).2, qLw) ∈ tT K := by simp [tT]
  have hu3 : ∀ p ∈ tT K, p.1 = (He.cT K pL).2 → p.2 = qLw := fun p hp e => by
    simp only [tT, List.mem_cons, List.not_mem_nil, or_false] at hp
    rcases hp with rfl | rfl | rfl | rfl
    · exact absurd e d2
    · exact absurd e d4
    · exact absurd e d5
    · rfl
  have four : ∀ {p : Addr × Addr}, p ∈ [He.cT K pA, He.cT K pB, He.cT K pC, He.cT K pL] → ∃ q, q ∈ tfD ∧ p = He.cT K q := fun {p} hp => by
    simp only [List.mem_cons, List.not_mem_nil, or_false] at hp
    rcases hp with rfl | rfl | rfl | rfl
    · exact ⟨pA, by simp [tfD], rfl⟩
    · exact ⟨pB, by simp [tfD], rfl⟩
    · exact ⟨pC, by simp [tfD], rfl⟩
    · exact ⟨pL, by simp [tfD], rfl⟩
  refine ⟨fdx57, [He.cT K pA, He.cT K pB, He.cT K pC, He.cT K pL], spLaw K (tT K), fun p hp => ?_, fun p hp => ?_, fun p hp => ?_, fun s u => ?_, fun H a ns hl _ hH hS => ⟨a, ns, rfl, hS, hl, fun p hp => ?_, fun _ => rfl⟩, fun base KB GB TB => ?_⟩
  · obtain ⟨q, hq, rfl⟩ := four hp
    exact c.empty q hq
  · obtain ⟨q, hq, rfl⟩ := four hp
    exact c.out q hq
  · obtain ⟨q, hq, rfl⟩ := four hp
    exact PySem.W.codeHd_of_K KX (c.hd q hq)
  · obtain ⟨oc, od, kV, doc, pm, an, ct, osl, rfl, _, _⟩ := Fx57.ex
    exact .of_eq rfl
  · simp only [tT, List.mem_cons, List.not_mem_nil, or_false] at hp
    rcases hp with rfl | rfl | rfl | rfl
    · exact TabS.nil (hH (He.cT K pA) (by simp))
    · exact TabS.nil (hH (He.cT K pB) (by simp))
    · exact TabS.nil (hH (He.cT K pC) (by simp))
    · exact TabS.nil (hH (He.cT K pL) (by simp))
  · have tb0 := TB (He.cT K pA) (by simp)
    have tb1 := TB (He.cT K pB) (by simp)
    have tb2 := TB (He.cT K pC) (by simp)
    have tb3 := TB (He.cT K pL) (by simp)
    have EH := ei_BadHouse (P := PySem.Challenge.rw_lastbell_k03_houses_asked_for.prog) (w := w) (base := base) Ix60 gx60 ix60 nox60
    have GN := ok_needH Fx0 B gx58 nt EH
    have CA : Cau K mg _ := ⟨gx60, xfx60, nox60, xm⟩
    have Gx1 := ok_asked Fx1 Fx0 gx0 bx0 GN
    have rx1 := ref_mk Fx1 gx1 (b_asked Fx1) (kb_asked Fx1) (by decide) rfl Gx1
    have Gx2 := ok_lacking Fx2 Fx0 gx0 bx0 GN
    have rx2 := ref_mk Fx2 gx2 (b_lacking Fx2) (kb_lacking Fx2) (by decide) rfl Gx2
    have Gx3 := ok_is_lot_for Fx3 Fx0 gx0 bx0 GN
    have rx3 := ref_mk Fx3 gx3 (b_is_lot_for Fx3) (kb_is_lot_for Fx3) (by decide) rfl Gx3
    have Gx4 := ok_is_plan_for Fx4 Fx0 gx0 bx0 GN
    have rx4 := ref_mk Fx4 gx4 (b_is_plan_for Fx4) (kb_is_plan_for Fx4) (by decide) rfl Gx4
    have Gx5 := ok_row_for Fx5 Fx0 gx0 bx0 GN
    have rx5 := ref_mk Fx5 gx5 (b_row_for Fx5) (kb_row_for Fx5) (by decide) rfl Gx5
    have Gx6 := ok_is_row_for Fx6 Fx0 gx0 bx0 GN
    have rx6 := ref_mk Fx6 gx6 (b_is_row_for Fx6) (kb_is_row_for Fx6) (by decide) rfl Gx6
    have Gx7 := ok_parted Fx7 Fx0 gx0 bx0 GN
    have rx7 := ref_mk Fx7 gx7 (b_parted Fx7) (kb_parted Fx7) (by decide) rfl Gx7
    have Gx8 := ok_most Fx8 Fx0 gx0 bx0 GN
    have rx8 := ref_mk Fx8 gx8 (b_most Fx8) (kb_most Fx8) (by decide) rfl Gx8
    have Gx9 := ok_most_plan Fx9 Fx0 gx0 bx0 GN
    have rx9 := ref_mk Fx9 gx9 (b_most_plan Fx9) (kb_most_plan Fx9) (by decide) rfl Gx9
    have Gx10 := ok_levels Fx10 Fx0 gx0 bx0 GN
    have rx10 := ref_mk Fx10 gx10 (b_levels Fx10) (kb_levels Fx10) (by decide) rfl Gx10
    have Gx11 := ok_lot_bell Fx11 Fx0 gx0 bx0 GN
    have rx11 := ref_mk Fx11 gx11 (b_lot_bell Fx11) (kb_lot_bell Fx11) (by decide) rfl Gx11
    have Gx12 := ok_is_moments Fx12 Fx0 gx0 bx0 GN
    have rx12 := ref_mk Fx12 gx12 (b_is_moments Fx12) (kb_is_moments Fx12) (by decide) rfl Gx12
    have Gx13 := ok_worth Fx13 Fx0 gx0 bx0 GN
    have rx13 := ref_mk Fx13 gx13 (b_worth Fx13) (kb_worth Fx13) (by decide) rfl Gx13
    have Gx14 := ok_moments_for Fx14 Fx0 gx0 bx0 GN
    have rx14 := ref_mk Fx14 gx14 (b_moments_for Fx14) (kb_moments_for Fx14) (by decide) rfl Gx14
    have Gx15 := ok_plan_by_order Fx15 Fx0 gx0 bx0 GN
    have rx15 := ref_mk Fx15 gx15 (b_plan_by_order Fx15) (kb_plan_by_order Fx15) (by decide) rfl Gx15
    have Gx16 := ok_corner Fx16 Fx0 gx0 bx0 GN
    have rx16 := ref_mk Fx16 gx16 (b_corner Fx16) (kb_corner Fx16) (by decide) rfl Gx16
    have Gx17 := ok_corners Fx17 Fx0 gx0 bx0 GN
    have rx17 := ref_mk Fx17 gx17 (b_corners Fx17) (kb_corners Fx17) (by decide) rfl Gx17
    have Gx18 := ok_order_of Fx18 Fx0 gx0 bx0 GN
    have rx18 := ref_mk Fx18 gx18 (b_order_of Fx18) (kb_order_of Fx18) (by decide) rfl Gx18
    have Gx19 := ok_plan_fault Fx19 Fx0 gx0 bx0 GN
    have rx19 := ref_mk Fx19 gx19 (b_plan_fault Fx19) (kb_plan_fault Fx19) (by decide) rfl Gx19
    have Gx20 := ok_brings Fx20 Fx0 gx0 bx0 GN
    have rx20 := ref_mk Fx20 gx20 (b_brings Fx20) (kb_brings Fx20) (by decide) rfl Gx20
    have Gx21 := ok_bell_of Fx21 Fx0 gx0 bx0 GN
    have rx21 := ref_mk Fx21 gx21 (b_bell_of Fx21) (kb_bell_of Fx21) (by decide) rfl Gx21
    have Gx22 := ok_on_roads Fx22 Fx0 gx0 bx0 GN
    have rx22 := ref_mk Fx22 gx22 (b_on_roads Fx22) (kb_on_roads Fx22) (by decide) rfl Gx22
    have Gx23 := ok_least_bell Fx23 Fx0 gx0 bx0 GN
    have rx23 := ref_mk Fx23 gx23 (b_least_bell Fx23) (kb_least_bell Fx23) (by decide) rfl Gx23
    have Gx24 := ok_never Fx24 Fx0 gx0 bx0 GN
    have rx24 := ref_mk Fx24 gx24 (b_never Fx24) (kb_never Fx24) (by decide) rfl Gx24
    have Gx25 := ok_rising Fx25 Fx0 gx0 bx0 GN
    have rx25 := ref_mk Fx25 gx25 (b_rising Fx25) (kb_rising Fx25) (by decide) rfl Gx25
    have Gx26 := ok_bell_with Fx26 Fx0 gx0 bx0 GN
    have rx26 := ref_mk Fx26 gx26 (b_bell_with Fx26) (kb_bell_with Fx26) (by decide) rfl Gx26
    have Gx27 := ok_further Fx27 Fx0 gx0 bx0 GN
    have rx27 := ref_mk Fx27 gx27 (b_further Fx27) (kb_further Fx27) (by decide) rfl Gx27
    have Gx28 := ok_tight Fx28 Fx0 gx0 bx0 GN
    have rx28 := ref_mk Fx28 gx28 (b_tight Fx28) (kb_tight Fx28) (by decide) rfl Gx28
    have Gx29 := ok_bound Fx29 Fx0 gx0 bx0 GN
    have rx29 := ref_mk Fx29 gx29 (b_bound Fx29) (kb_bound Fx29) (by decide) rfl Gx29
    have Gx30 := ok_times Fx30 Fx0 gx0 bx0 GN
    have rx30 := ref_mk Fx30 gx30 (b_times Fx30) (kb_times Fx30) (by decide) rfl Gx30
    have Gx31 := ok_part_for Fx31 Fx0 gx0 bx0 GN
    have rx31 := ref_mk Fx31 gx31 (b_part_for Fx31) (kb_part_for Fx31) (by decide) rfl Gx31
    have Gx32 := ok_part_lot Fx32 Fx0 gx0 bx0 GN
    have rx32 := ref_mk Fx32 gx32 (b_part_lot Fx32) (kb_part_lot Fx32) (by decide) rfl Gx32
    have Gx33 := ok_mix_for Fx33 Fx0 gx0 bx0 GN
    have rx33 := ref_mk Fx33 gx33 (b_mix_for Fx33) (kb_mix_for Fx33) (by decide) rfl Gx33
    have Gx34 := ok_is_mix_for Fx34 Fx0 gx0 bx0 GN
    have rx34 := ref_mk Fx34 gx34 (b_is_mix_for Fx34) (kb_is_mix_for Fx34) (by decide) rfl Gx34
    have Gx35 := ok_dearest_order Fx35 Fx0 gx0 bx0 GN
    have rx35 := ref_mk Fx35 gx35 (b_dearest_order Fx35) (kb_dearest_order Fx35) (by decide) rfl Gx35
    have Gx36 := ok_turned Fx36 Fx0 gx0 bx0 GN
    have rx36 := ref_mk Fx36 gx36 (b_turned Fx36) (kb_turned Fx36) (by decide) rfl Gx36
    have Gx37 := ok_turned_plan Fx37 Fx0 gx0 bx0 GN
    have rx37 := ref_mk Fx37 gx37 (b_turned_plan Fx37) (kb_turned_plan Fx37) (by decide) rfl Gx37
    have Gx38 := ok_first_unlike Fx38 Fx0 gx0 bx0 GN
    have rx38 := ref_mk Fx38 gx38 (b_first_unlike Fx38) (kb_first_unlike Fx38) (by decide) rfl Gx38
    have Gx39 := ok_lot_for Fx39 gx2 Fx2.kp (b_lacking Fx2) Gx2
    have rx39 := ref_mk Fx39 gx39 (b_lot_for Fx39) (kb_lot_for Fx39) (by decide) rfl Gx39
    have Gx40 := ok_plan_for Fx40 gx5 Fx5.kp (b_row_for Fx5) Gx5
    have rx40 := ref_mk Fx40 gx40 (b_plan_for Fx40) (kb_plan_for Fx40) (by decide) rfl Gx40
    have Gx41 := ok_steady Fx41 z15 gx10 Fx10.kp (b_levels Fx10) Gx10
    have rx41 := ref_mk Fx41 gx41 (b_steady Fx41) (kb_steady Fx41) (by decide) rfl Gx41
    have Gx42 := ok_is_plan Fx42 gx19 Fx19.kp (b_plan_fault Fx19) Gx19
    have rx42 := ref_mk Fx42 gx42 (b_is_plan Fx42) (kb_is_plan Fx42) (by decide) rfl Gx42
    have Gx43 := ok_whole_times Fx43 gx30 Fx30.kp (b_times Fx30) Gx30
    have rx43 := ref_mk Fx43 gx43 (b_whole_times Fx43) (kb_whole_times Fx43) (by decide) rfl Gx43
    have Gx44 := ok_dearest Fx44 gx35 Fx35.kp (b_dearest_order Fx35) Gx35
    have rx44 := ref_mk Fx44 gx44 (b_dearest Fx44) (kb_dearest Fx44) (by decide) rfl Gx44
    have Gx45 := ok_parting Fx45 gx38 Fx38.kp (b_first_unlike Fx38) Gx38
    have rx45 := ref_mk Fx45 gx45 (b_parting Fx45) (kb_parting Fx45) (by decide) rfl Gx45
    have RR : Refs PySem.Challenge.rw_lastbell_k03_houses_asked_for.prog w K mg base (He.ga K "BadHouse") := ⟨rx1, rx2, rx3, rx4, rx5, rx6, rx7, rx8, rx9, rx10, rx11, rx12, rx13, rx14, rx15, rx16, rx17, rx18, rx19, rx20, rx21, rx22, rx23, rx24, rx25, rx26, rx27, rx28, rx29, rx30, rx31, rx32, rx33, rx34, rx35, rx36, rx37, rx38, rx39, rx40, rx41, rx42, rx43, rx44, rx45⟩
    have GH := ok_house (P := PySem.Challenge.rw_lastbell_k03_houses_asked_for.prog) (w := w) (base := base) Fx52 B Fx47 gx47 bx47 Fx48 gx48 bx48 Fx49 gx49 bx49 Fx51 gx51 bx51
    have GAA := ok_askA (T0 := tT K) Fx53 Fx56 gx56 bx56 CA RR tb0 hm0 hu0
    have GAB := ok_askB (T0 := tT K) Fx54 Fx56 gx56 bx56 CA RR tb1 hm1 hu1
    have GAC := ok_askC (T0 := tT K) Fx55 Fx56 gx56 bx56 CA RR tb2 hm2 hu2
    have GI := ok_badI (P := PySem.Challenge.rw_lastbell_k03_houses_asked_for.prog) (w := w) (base := base) 3 Ix59 scDesk rfl rfl (Or.inl rfl) rfl rfl Fx0 gx0 bx0 GN
    exact ok_law Fx57 B Fx50 gx50 bx50 Fx46 gx46 bx46 Fx52 gx52 bx52 GH Fx53.kp gx53 bx53 GAA Fx54.kp gx54 bx54 GAB Fx55.kp gx55 bx55 GAC Fx56 gx56 bx56 CA mk GI gx59 bDe kDe tb3 hm3 hu3
end
end K03
open PySem PySem.W PySem.Calls PyProof.Rows
theorem PySem.Challenge.cw_lastbell_k03_houses_asked_for_holds : PySem.Challenge.rw_lastbell_k03_houses_asked_for.Holds := by
  w_on; o_law
  refine Own.Three.head_three (C := K03.cutT) (r := K03.R) (q := view K03.R.prog [0, 1, 194]) (H := K03.hk) (ob := K03.ob) (loose := K03.looseN) (d := HandSHeadRun.topDef K03.R.prog 194) (kwd := []) (mid := K03.mid) (mid2 := K03.mid2) rfl K03.ob_eq K03.r1 K03.rm K03.r2 K03.r3 K03.r4
    (by kernel_rfl) (by kernel_rfl) (by rfl) (by rfl) (by assumption) (by kernel_rfl) ⟨rfl, rfl, rfl, rfl, rfl, K03.tabs⟩ ?hw ?hc
  case hw => w_witness2
  case hc =>
    refine LamX.walk_ofTsE (l := PySem.Challenge.rw_lastbell_k03_houses_asked_for) (n := 63) (k := 10) (x := "_law_script") (CX := fun _ => L2.CX0) rfl (by decide) (by kernel_rfl) ⟨rfl, by decide, by decide⟩ ?F (fun _ _ _ _ _ z => z)
    intro w mg fa h Y G hmg0
    obtain ⟨K, KX, c⟩ := Y
    have hmg : mg ("law" : PySem.Str) = some (.ref fa) := by
      have e : (HandSHeadRun.topDef K03.R.prog 194).name = ("law" : PySem.Str) := by kernel_rfl
      rw [← e]
      exact hmg0
    exact ⟨K, KX, K03.facts KX G hmg c⟩

