import PyProof.Rows.All
import Wide.All
import OpenK.AllK
import Wide.FinOn
import HandS.ForMost
import HandS.ExcInit
import HandS.Lambda
import HandS.CallLocal
import HandS.ExcIs
import HandS.ExcValue
import HandS.IsInst
import HandS.ForExc
import HandS.TryMany
import HandS.ExcField
import HandS.Walk
import KE.GoesEnum
import HandS.OwnEq
import HandS.More
import KE.KDictZip
import KE.KDictItemsList
import HandS.ListItems
import HandS.Iter
import HandS.Words
import HandS.Zip
import HandS.Evl
import HandS.EndTab
import HandS.Style
import HandS.Conv
import HandS.NoneIn
import HandS.Small
import HandS.SetKeys
import HandS.Deep
import HandS.WordsExc
import HandS.MakeKwOnly
import HandS.Dict
import HandS.Defaults
import HandS.HeadHook1
import HandS.HeadHook2
import HandS.HeadHook3
import HandS.HeadHook4
import HandS.HeadWalk
import HandS.HeadEnd
import HandS.Head0
import HandS.Head1
import HandS.Head2
import PySem.Challenge.RW_lastbell_k01_whole_houses_made
set_option Elab.async false
set_option linter.all false
set_option maxRecDepth 100000
set_option maxHeartbeats 2000000
/-! lambdas with parameters and without captured names, as tracked objects -/
namespace Own
open PySem PySem.Spec PyProof.Rows L2 LamX
/-- at f: the function object of a lambda, its code object at c -/
def LamO (f c : Addr) (q : Str) (ps : Arguments) (bd : Expr) (sc : Scope) : HO :=
  .ext fun h => ∃ pm ctv, h.get? f = some (PySem.W.kla_obj "<lambda>" q ps bd sc [] pm c ctv)
def LamAt (H : Hp) (f : Addr) (q : Str) (ps : Arguments) (bd : Expr) (sc : Scope) : Prop :=
  ∃ c, H f = some (LamO f c q ps bd sc) ∧ H c = some (CodeO c q)
theorem lamO_ok {P : Program} {w : World} {H : Hp} {h : Heap} {f c : Addr} {q : Str} {ps : Arguments} {bd : Expr} {sc : Scope} {pm ctv : Value}
    (e : h.get? f = some (PySem.W.kla_obj "<lambda>" q ps bd sc [] pm c ctv)) : ObjOk P w H h f (LamO f c q ps bd sc) :=
  ⟨⟨pm, ctv, e⟩, ⟨_, e⟩, fun _ _ ⟨p, t, z⟩ k => ⟨p, t, k _ z⟩⟩
theorem lamO_ne {f c : Addr} {q : Str} {ps : Arguments} {bd : Expr} {sc : Scope} (t : Array Value) : LamO f c q ps bd sc ≠ .tbl t := fun z => by
  unfold LamO at z
  cases z
theorem LamAt.ext {H H' : Hp} {f : Addr} {q : Str} {ps : Arguments} {bd : Expr} {sc : Scope} (l : LamAt H f q ps bd sc) (e : ExtN H H') : LamAt H' f q ps bd sc := by
  obtain ⟨c, h1, h2⟩ := l
  exact ⟨c, e _ _ h1 lamO_ne, e _ _ h2 codeO_ne⟩
section
variable {X : Cx} {pins : List (Addr × Obj)} {σ : L2.St} {H : Hp} {s : Shared}
theorem lam_new {T : List (Addr × Str)} {c P : Addr} {ps : Arguments} {bd : Expr} {sc : Scope} {pos : Pos} {E Q : Value → Shared → Prop} (I : Inv X pins σ H s) (TB : TabB X.base X.mg c P)
    (hcode : X.env.code = .ref c) (hm : (P, X.env.qual ++ "<lambda>") ∈ T) (hu : ∀ p ∈ T, p.1 = P → p.2 = X.env.qual ++ "<lambda>") (hT : Tabs T H) (hdef : defaultsOf ps X.env = ([], []))
    (hclo : cloFrom X.env.cells sc.names [] = []) (hnf : ∀ y ∈ sc.names, y.2 ≠ .free)
    (k : ∀ (f : Addr) (H2 : Hp) (s' : Shared), Inv X pins σ H2 s' → ExtN H H2 → Tabs T H2 → H f = none → LamAt H2 f (X.env.qual ++ "<lambda>") ps bd sc → Q (.ref f) s') :
    wpAny (model X.prog X.w) X.A (eval (.Lambda ps bd sc pos) X.env) Q E s := by
  obtain ⟨tb, tP, tt, tc⟩ := hT _ hm
  have bP := TB.bm.keeps I.bk
  have gP : s.heap.get? P = some { cls := .none, data := .fields tb } := I.hok P _ tP
  have clo : closureFor sc X.env = pure [] := by
    have z := closure_ok (env := X.env) (scope := sc) (fun y hy e => absurd e (hnf y hy))
    rw [hclo] at z
    exact z
  refine PySem.W.kla_eval hdef ?_
  rcases among : codeAmong pos tb.toList with _ | cv
  · refine PySem.W.kla_makeFunction clo I.ok.glob (I.mod.glob.keeps I.bk) hcode (TB.code.keeps I.bk) gP tt among TB.gP bP (fun c1 ctv h1 tk e1 ge lt rc ta => ?_)
    obtain ⟨c2, oc, vs, t, ec, goc, doc, vq⟩ := rc
    obtain rfl : c1 = c2 := Value.ref.inj ec
    have nC : H c1 = none := I.hok.fresh ge
    have le1 : s.heap.objs.size ≤ h1.objs.size := Nat.le_of_lt (Nat.lt_of_le_of_lt ge lt)
    have I1 := inv_table (t' := tk) (q := X.env.qual ++ "<lambda>") (more := #[rawInt pos.line, rawInt pos.col, .ref c1]) I tP e1 ta ge ⟨oc, vs, t, goc, doc, vq⟩
    have I2 := I1.laid (t' := tk) (o := LamO h1.objs.size c1 (X.env.qual ++ "<lambda>") ps bd sc) (h' := h1.push (PySem.W.kla_obj "<lambda>" (X.env.qual ++ "<lambda>") ps bd sc [] ((X.mg "__name__").getD .none) c1 ctv))
      (fun b o e => Heap.get?_push_of_some _ e) (Nat.le_refl _) (lamO_ok (Heap.get?_push_size _ rfl))
    have hF : upd (upd H P (.tbl (tb ++ #[rawInt pos.line, rawInt pos.col, .ref c1]))) c1 (CodeO c1 (X.env.qual ++ "<lambda>")) h1.objs.size = none := I1.hok.fresh (Nat.le_refl _)
    have hf : H h1.objs.size = none := I.hok.fresh le1
    have e12 : ExtN H (upd (upd H P (.tbl (tb ++ #[rawInt pos.line, rawInt pos.col, .ref c1]))) c1 (CodeO c1 (X.env.qual ++ "<lambda>"))) := fun b o e n => by
      have nb : b ≠ P := fun z => by
        rw [z, tP] at e
        exact n tb (Option.some.inj e).symm
      rw [upd_ne (ne_of_none e nC), upd_ne nb]
      exact e
    have e2 : ∀ b o, upd (upd H P (.tbl (tb ++ #[rawInt pos.line, rawInt pos.col, .ref c1]))) c1 (CodeO c1 (X.env.qual ++ "<lambda>")) b = some o → upd (upd (upd H P (.tbl (tb ++ #[rawInt pos.line, rawInt pos.col, .ref c1]))) c1 (CodeO c1 (X.env.qual ++ "<lambda>"))) h1.objs.size (LamO h1.objs.size c1 (X.env.qual ++ "<lambda>") ps bd sc) b = some o := fun b o e => by
      rw [upd_ne (ne_of_none e hF)]
      exact e
    have eL : (tb ++ #[rawInt pos.line, rawInt pos.col, .ref c1]).toList = tb.toList ++ [rawInt pos.line, rawInt pos.col, .ref c1] := by simp
    have T1 : Tabs T (upd (upd H P (.tbl (tb ++ #[rawInt pos.line, rawInt pos.col, .ref c1]))) c1 (CodeO c1 (X.env.qual ++ "<lambda>"))) := fun p hp => by
      by_cases hb : p.1 = P
      · refine ⟨tb ++ #[rawInt pos.line, rawInt pos.col, .ref c1], ?_, ?_, fun p2 cv hcv => ?_⟩
        · rw [hb, upd_ne (ne_of_none tP nC)]
          exact upd_same
        · rw [eL]
          exact PySem.TriplesOk_snoc _ _ _ _ tt
        · rw [eL] at hcv
          rw [hu p hp hb]
          rcases among_app _ tt hcv with z | z
          · obtain ⟨c0, y1, y2⟩ := tc p2 cv z
            exact ⟨c0, y1, e12 _ _ y2 codeO_ne⟩
          · exact ⟨c1, z, upd_same⟩
      · obtain ⟨t2, a1, a2, a3⟩ := hT p hp
        refine ⟨t2, ?_, a2, fun p2 cv hcv => ?_⟩
        · rw [upd_ne (ne_of_none a1 nC), upd_ne hb]
          exact a1
        · obtain ⟨c0, y1, y2⟩ := a3 p2 cv hcv
          exact ⟨c0, y1, e12 _ _ y2 codeO_ne⟩
    exact k _ _ _ I2 (e12.trans (ExtN.of e2)) (T1.ext e2) hf ⟨c1, upd_same, e2 _ _ upd_same⟩
  · obtain ⟨c1, rfl, hco⟩ := tc pos cv among
    refine PySem.W.kla_makeFunctionHit clo I.ok.glob (I.mod.glob.keeps I.bk) hcode (TB.code.keeps I.bk) gP tt among bP (fun ctv h1 tk kp le1 => ?_)
    have hf : H h1.objs.size = none := I.hok.fresh le1
    have I2 := I.laid (t' := tk) (o := LamO h1.objs.size c1 (X.env.qual ++ "<lambda>") ps bd sc) (h' := h1.push (PySem.W.kla_obj "<lambda>" (X.env.qual ++ "<lambda>") ps bd sc [] ((X.mg "__name__").getD .none) c1 ctv))
      (fun b o e => Heap.get?_push_of_some _ (kp b o e)) le1 (lamO_ok (Heap.get?_push_size _ rfl))
    have e2 : ∀ b o, H b = some o → upd H h1.objs.size (LamO h1.objs.size c1 (X.env.qual ++ "<lambda>") ps bd sc) b = some o := fun b o e => by
      rw [upd_ne (ne_of_none e hf)]
      exact e
    exact k _ _ _ I2 (ExtN.of e2) (hT.ext e2) hf ⟨c1, upd_same, e2 _ _ hco⟩
end
end Own

set_option Elab.async false
set_option linter.all false
set_option maxRecDepth 100000
set_option maxHeartbeats 2000000
namespace Own
open PySem PySem.Spec PyProof.Rows L2 LamX
abbrev LSp := List V → Hp → VK → Prop
/-- the text of a lambda keeps the promise sp -/
structure LamCode (P : Program) (w : World) (K : PySem.W.Frag) (mg : Str → Option Value) (base : Heap) (k : Nat) (q : Str) (ps : Arguments) (bd : Expr) (sc : Scope) (sp : LSp) : Prop where
  ex : ∃ N pn : List Str, FnScope N pn sc ∧
    (∀ (us : List Value) (pm cv ctv : Value), us.length = pn.length → bindArgs (PySem.W.kla_fn "<lambda>" q ps bd sc [] pm cv ctv) ⟨us, []⟩ = pure (pn.zip us)) ∧
    (∀ vs H Q, sp vs H Q → vs.length = pn.length) ∧
    ∀ (f c : Addr) (A : Around) (outer : List Env) (s : Shared) (H : Hp) (vs : List V) (Q : VK), Room k (A.deeper (envOfC q sc s.heap.objs.size f (.ref c))) → sp vs H Q →
      ∃ t, PE (cxOf CX0 P w K mg base N q sc f (.ref c) A outer s H E0) bd t ∧ t (L2.start N vs) H Q
theorem run_lam {P : Program} {w : World} {K : PySem.W.Frag} {mg : Str → Option Value} {base : Heap} {k : Nat} {q : Str} {ps : Arguments} {bd : Expr} {sc : Scope} {sp : LSp} (C : LamCode P w K mg base k q ps bd sc sp)
    {A : Around} {outer : List Env} {s : Shared} {H : Hp} {f : Addr} {us : List Value} {vs : List V} {Q : VK} (la : LamAt H f q ps bd sc) (e0 : Env0 P w K mg base A outer s H) (hr : Room (k + 1) A) (r : Vals vs us) (h : sp vs H Q) :
    codeAny (model P w) A (.call (.ref f) ⟨us, []⟩) (CR CX0 outer P w H s Q E0) s := by
  obtain ⟨N, pn, S, bi, len, body⟩ := C.ex
  obtain ⟨c, hf, hc⟩ := la
  have hl := len _ _ _ h
  have lu : us.length = pn.length := r.length.symm.trans hl
  have lim : s.heap.NoLimit := e0.mod.nolimit.keeps fun b o e => (e0.bs b o e).1
  obtain ⟨⟨pm, ctv, ho⟩, _, _⟩ := e0.hok f _ hf
  obtain ⟨⟨oc, vs', t', e1, e2, e3⟩, _, _⟩ := e0.hok c _ hc
  have kinds : ∀ y ∈ pn.zip us, sc.names.lookup y.1 = some .local ∨ (sc.names.lookup y.1 = some .cell ∧ ((cellsFrom (s.heap.objs.size + 1) sc.names []).lookup y.1).isSome = true) := fun ⟨n, v⟩ hy => by
    rcases S.par n (List.of_mem_zip hy).1 with z | z
    · exact .inl z
    · exact .inr ⟨z, PySem.W.cellsFrom_some _ _ _ (.inl z)⟩
  refine PySem.W.kla_callFunE hr.depth ho rfl S.co S.gen rfl ⟨c, oc, vs', t', rfl, e1, e2, e3⟩ ?_
  rw [bi us _ _ _ lu]
  refine wpAny_pure (wpAny_newFunctionEnv_cells S.kind kinds fun env he s1 x => ?_)
  subst he
  refine ⟨lim.keeps x.toInCall.keep, ?_⟩
  show codeAny _ _ (.expr bd (envOfC q sc s.heap.objs.size f (.ref c))) _ _
  obtain ⟨t, ht, hq⟩ := body f c A outer s H vs Q (hr.deeper _) h
  have I : Inv (cxOf CX0 P w K mg base N q sc f (.ref c) A outer s H E0) [] (L2.start N vs) H s1 := inv_start S hr.hd e0 hl r x
  refine PySem.W.kla_codeExpr (wpAny_mono (ht.run [] s1 (L2.start N vs) H Q I hq) (fun v s' hs => ?_) fun e s' hs => hs)
  obtain ⟨w', H', J, rv, z⟩ := hs
  exact ⟨w', H', J.os, J.bare, J.base, J.hok, rv, z⟩
/-- x(e, ..), x a local name that holds a lambda -/
def tLamCall (P : Program) (w : World) (K : PySem.W.Frag) (mg : Str → Option Value) (base : Heap) (k i : Nat) (ta : TA) : TE := fun σ H Q =>
  ∃ (f : Addr) (q : Str) (ps : Arguments) (bd : Expr) (sc : Scope) (sp : LSp), σ[i]? = some (some (.ref f)) ∧ LamAt H f q ps bd sc ∧ LamCode P w K mg base k q ps bd sc sp ∧
    ta σ H fun vs H1 => LamAt H1 f q ps bd sc ∧ sp vs H1 Q
section
variable {X : Cx} {k i : Nat} {x : Str} {p pos : Pos} {e : Expr} {es : List Expr} {ta : TA}
theorem fnAt_of {H : Hp} {s : Shared} {f : Addr} {q : Str} {ps : Arguments} {bd : Expr} {sc : Scope} (hok : HOk X.prog X.w H s.heap) (l : LamAt H f q ps bd sc) : PySem.W.FnAt f s.heap := by
  obtain ⟨c, hf, _⟩ := l
  obtain ⟨⟨pm, ctv, ho⟩, _, _⟩ := hok f _ hf
  exact ⟨_, _, _, _, ho⟩
theorem pe_callLam (hr : Room (k + 1) X.A) (hN : X.N[i]? = some x) (hv : Vis X.env.scope x) (ha : PA X (e :: es) ta)
    (hdb : (x == ("__debug__" : Str)) = false := by decide) (hcd : (x == ("__classdict__" : Str)) = false := by decide)
    (he : starEach (e :: es) X.env = (false, eval e X.env) :: starEach es X.env := by rfl) (hpl : (backTo pos (starEach es X.env)).any (·.1) = false := by rfl) :
    PE X (.Call (.Name x p) (e :: es) [] pos) (tLamCall X.prog X.w X.K X.mg X.base k i ta) := by
  refine ⟨fun pins s σ H Q I h => ?_⟩
  obtain ⟨f, q, ps, bd, sc, sp, hs, la, C, ht⟩ := h
  refine wpAny_Call_Name_kw (thn ((pe_var (pos := p) hN hv hdb hcd).run pins s σ H (fun v H1 => v = .ref f ∧ H1 = H) I ⟨.ref f, hs, rfl, rfl⟩) fun u s1 ⟨v, H1, I1, r1, q1⟩ => ?_)
  obtain ⟨rfl, rfl⟩ := q1
  obtain rfl : u = Value.ref f := r1
  refine PySem.W.callWith_F (fnAt_of I1.hok la) (thn (ha.run pos pins s1 σ _ _ I1 ht) fun us s2 ⟨vs, H2, I2, r, la2, hq⟩ => ⟨fnAt_of I2.hok la2, ?_⟩) he hpl
  show wpAny _ _ (call (.ref f) us) _ _ _
  refine wpAny_call (codeAny_mono (run_lam C la2 I2.env0 hr r hq) fun r' s' z => ?_)
  cases r' with
  | error e => exact (show False from z).elim
  | ok fl =>
    cases fl with
    | ret u => exact I2.after z
    | next => exact False.elim z
    | brk => exact False.elim z
    | cont => exact False.elim z
/-- a lambda's making, as an expression -/
def tLamNew (T : List (Addr × Str)) (q : Str) (ps : Arguments) (bd : Expr) (sc : Scope) : TE := fun σ H Q =>
  Tabs T H ∧ ∀ (f : Addr) (H2 : Hp), ExtN H H2 → Tabs T H2 → H f = none → LamAt H2 f q ps bd sc → Q (.ref f) H2
theorem pe_lam {T : List (Addr × Str)} {c P : Addr} {ps : Arguments} {bd : Expr} {sc : Scope} (TB : TabB X.base X.mg c P)
    (hcode : X.env.code = .ref c) (hm : (P, X.env.qual ++ "<lambda>") ∈ T) (hu : ∀ p ∈ T, p.1 = P → p.2 = X.env.qual ++ "<lambda>")
    (hdef : defaultsOf ps X.env = ([], []) := by rfl) (hclo : cloFrom X.env.cells sc.names [] = [] := by rfl) (hnf : ∀ y ∈ sc.names, y.2 ≠ .free := by decide +kernel) :
    PE X (.Lambda ps bd sc pos) (tLamNew T (X.env.qual ++ "<lambda>") ps bd sc) := by
  refine ⟨fun pins s σ H Q I h => ?_⟩
  exact lam_new I TB hcode hm hu h.1 hdef hclo hnf fun f H2 s' I2 e2 T2 nf la => ⟨.ref f, H2, I2, rfl, h.2 f H2 e2 T2 nf la⟩
end
end Own

set_option Elab.async false
set_option linter.all false
set_option maxRecDepth 100000
set_option maxHeartbeats 4000000
/-! exceptions of own classes held as values: made, their fields read, asked for their class -/
namespace PySem.W
open PySem PySem.Spec PySem.Calls PyProof.Rows
section
variable {prog : Program} {w : World} {A : Around} {E : Value → Shared → Prop} {s : Shared} {K : Frag} {x D : Addr} {ox : Obj} {od : Option Obj}
theorem own_bound {name : Str} {a g : Value} (hc : (clsIn K D).isSome = true) (ha : findIn K (.ref D) name = some (some a)) (hg : specialIn K a "__get__" = some (some g)) (ht : takesIn K a = some true) :
    findObj K D od name = some (.bind g a) := by
  rcases Option.isSome_iff_exists.mp hc with ⟨cd, hcd⟩
  simp [findObj, hcd, ha, hg, ht]
/-- e.__class__ of an exception, with or without a dict of its own -/
theorem own_class {Q : Option Value → Shared → Prop} (T : L2.ExcC K D) (X : K.In s.heap) (I : InstAt s.heap x ox D od) (h : Q (some (.ref D)) { s with toks := s.toks + 1 }) :
    wpAny (model prog w) A (getAttr? (.ref x) "__class__") Q E s := by
  have isCls : (clsIn K D).isSome = true := by
    rcases any_some T.hd with ⟨cd, hcd, _⟩
    rw [hcd]
    rfl
  have f0 := own_bound (od := od) isCls T.ha T.hn T.ht
  rcases s with ⟨hp, g, d, t, os⟩
  have a0 := I.type (M := model prog w)
  have a1 := looks_findIn (M := model prog w) X T.hg
  have a2 := looks_findIn (M := model prog w) X T.hk
  have a3 := looks_find (M := model prog w) X I f0
  have isB : Looks (model prog w) hp (isInstance (.ref x) (.type "BaseException")) true := a0.andThen (looks_subIn X T.hs)
  have n1 : (onTheHeap (Value.ref D) && Value.builtin "BaseException.__getattribute__" == Value.builtin "object.__getattribute__") = false := by
    have z : (Value.builtin "BaseException.__getattribute__" == Value.builtin "object.__getattribute__") = false := by decide +kernel
    rw [z]
    rfl
  have n2 : (false && onTheHeap (Value.builtin "BaseException.__getattribute__")) = false := rfl
  unfold getAttr? getAttrBy? getAttrBy
  refine wpAny_bind (wpAny_mkText (wpAny_bind (wpAny_attempt (wpAny_holding (wpAny_bind (a0.at (wpAny_bind (a1.at ?_))))))))
  show wpAny _ _ (if (onTheHeap (Value.ref D) && Value.builtin "BaseException.__getattribute__" == Value.builtin "object.__getattribute__") = true then _ else _) _ _ _
  rw [n1, if_neg Bool.false_ne_true]
  unfold getAttrByItsOwn hookBefore
  refine wpAny_bind ?_
  rw [if_pos (show onTheHeap (Value.ref D) = true from rfl)]
  refine a2.at (wpAny_bind (wpAny_attempt (wpAny_holding ?_)))
  unfold callGetattribute
  rw [n2, if_neg Bool.false_ne_true]
  unfold boundAndCalled
  rw [PySem.F.excAttr_ValueError.ga.bind (.ref x)]
  refine wpAny_bind (wpAny_pure ?_)
  show wpAny _ _ (call (.builtin "BaseException.__getattribute__") [.ref x, .str "__class__" t]) _ _ _
  refine wpAny_call (codeAny_call_builtin PySem.F.excAttr_ValueError.ga.plain PySem.F.entry_bexc_ga ?_)
  refine @check_slot (model prog w) _ _ ⟨hp, g, d, t + 1, os⟩ "BaseException.__getattribute__" "BaseException" "__getattribute__" (.ref x) [.str "__class__" t] [] _ (by decide +kernel) (by decide +kernel) isB (PySem.F.args_bexc_ga (.ref x) (.str "__class__" t)) ?_
  unfold Builtin.«object.__getattribute__»
  refine wpAny_bind (wpAny_of_eq (a := ((Value.ref x : Value), [Value.str "__class__" t])) (by first | rfl | (simp only [slotArgs]; rfl)) ?_)
  refine wpAny_bind (wpAny_pure (wpAny_bind (a0.at (wpAny_bind (a3.at ?_)))))
  show wpAny _ _ (holding [Value.builtin "object.__class__"] (call (.builtin "getset_descriptor.__get__") [.builtin "object.__class__", .ref x, .ref D]) >>= ret) _ _ _
  refine wpAny_bind (wpAny_holding (wpAny_call (class_get (s := ⟨hp, g, d, t + 1, os⟩) (ox := ox) (od := od) X I T.hm (wpAny_pure ?_))))
  show wpAny _ _ (handedOut (.ref D)) _ _ _
  rw [handedOut_of (v := .ref D) rfl]
  first
    | exact wpAny_pure (wpAny_pure h)
    | exact wpAny_pure h
    | exact wpAny_pure (wpAny_bind (wpAny_pure (wpAny_pure h)))
theorem own_kit (T : L2.ExcC K D) : KitX K (.ref x) (.ref D) (fun h => ∃ ox od, InstAt h x ox D od) where
  ty := fun _ _ _ ⟨_, _, I⟩ => I.type
  it := fun _ _ X _ => by
    rcases any_some T.hd with ⟨cd, hcd, _⟩
    unfold clsIn at hcd
    split at hcd
    · rename_i c1 d1 cd1 sl1 ho
      intro A1 Q1 E1 s1 k q
      unfold isType loadHead
      exact wpAny_bind (wpAny_loadPart (k _ _ (X _ _ ho)) (wpAny_pure q))
    · cases hcd
  ne := fun h tp dd its n sl X htp => by
    rcases any_some T.hd with ⟨cd, hcd, _⟩
    refine Bool.eq_false_iff.mpr fun q => ?_
    obtain rfl : D = tp := Value.ref.inj (beq_iff_eq.mp q)
    unfold clsIn at hcd
    split at hcd
    · rename_i c1 d1 cd1 sl1 ho
      have z := (X _ _ ho).symm.trans htp
      cases z
    · cases hcd
  ca := fun X ⟨_, _, I⟩ k => own_class T X I k
end
end PySem.W
namespace Own
open PySem PySem.Spec PyProof.Rows L2
/-- at e: an exception of the class at C, made and not raised, whose own dict (where it has one) holds fs -/
structure ExcAt (H : Hp) (e C : Addr) (fs : List (Str × V)) : Prop where
  ex : ∃ d, H e = some (exo e C d) ∧ ((d = none ∧ fs = []) ∨ ∃ dd, d = some dd ∧ H dd = some (exd dd fs))
theorem exd_ne {d : Addr} {fs : List (Str × V)} {t : Array Value} : exd d fs ≠ .tbl t := fun z => by
  have z' : HO.ext _ = HO.tbl t := z
  cases z'
theorem ExcAt.keep {H H' : Hp} {e C : Addr} {fs : List (Str × V)} (x : ExcAt H e C fs) (k : ∀ b o, H b = some o → (∀ t, o ≠ .tbl t) → H' b = some o) : ExcAt H' e C fs := by
  obtain ⟨d, h1, h2⟩ := x.ex
  refine ⟨d, k _ _ h1 fun t => exo_tbl, ?_⟩
  rcases h2 with h2 | ⟨dd, e2, h2⟩
  · exact .inl h2
  · exact .inr ⟨dd, e2, k _ _ h2 fun t => exd_ne⟩
theorem ExcAt.inst {P : Program} {w : World} {H : Hp} {h : Heap} {e C : Addr} {fs : List (Str × V)} (x : ExcAt H e C fs) (hok : HOk P w H h) : ∃ ox od, PySem.W.InstAt h e ox C od := by
  obtain ⟨d, h1, h2⟩ := x.ex
  obtain ⟨t, ho⟩ := exo_at hok h1
  rcases h2 with ⟨rfl, _⟩ | ⟨dd, rfl, h2⟩
  · exact ⟨_, none, ho, rfl, rfl, trivial⟩
  · obtain ⟨mA, hn, _⟩ := exd_at hok h2
    obtain ⟨od, hd, _⟩ := lookIn_ns hn
    exact ⟨_, some od, ho, rfl, rfl, hd⟩
/-- isinstance(e, c) -/
def rIsE (K : PySem.W.Frag) : List V → Hp → VK → Prop := fun xs H Q =>
  ∃ (a D : Addr) (fs : List (Str × V)) (c : V) (cv : Value) (b : Bool), xs = [.ref a, c] ∧ ExcAt H a D fs ∧ ExcC K D ∧ ClsV c cv ∧ PySem.W.kitOne K (.ref D) cv = some b ∧ Q (.bl b) H
theorem call_isE {X : Cx} : CallR X (.builtin "isinstance") (rIsE X.K) := by
  intro pins s σ H xs us Q I r h
  obtain ⟨a, D, fs, c, cv, b, rfl, x, T, k, e, q⟩ := h
  obtain ⟨u1, u2, rfl, r1, r2⟩ := vals2 r
  obtain rfl : u1 = Value.ref a := r1
  obtain rfl := k.eq r2
  exact PySem.W.kia_one (PySem.W.own_kit T) I.kIn (x.inst I.hok) e (fun z => nomatch z) fun tk => ⟨.bl b, H, I.tok tk, rfl, q⟩
/-- e.f -/
def tExF (K : PySem.W.Frag) (ta : TE) (f : Str) : TE := fun σ H Q => ta σ H fun x H1 =>
  ∃ (a C : Addr) (fs : List (Str × V)) (v : V), x = .ref a ∧ ExcAt H1 a C fs ∧ ExcC K C ∧ PySem.W.findIn K (.ref C) f = some none ∧ fs.lookup f = some v ∧ Q v H1
section
variable {X : Cx} {e : Expr} {es : List Expr} {ta : TE} {t tk : TA} {f x : Str} {p pos kpos : Pos}
theorem pe_exF (he : PE X e ta) (hb : attributeBase e f X.env (eval e X.env) = eval e X.env := by rfl) : PE X (.Attribute e f pos) (tExF X.K ta f) := by
  refine ⟨fun pins s σ H Q I h => attr_of hb (thn (he.run pins s σ H _ I h) fun u s1 hh => ?_)⟩
  obtain ⟨y, H1, I1, ry, a, C, fs, v, rfl, xa, T, hno, hl, q⟩ := hh
  obtain rfl : u = Value.ref a := ry
  obtain ⟨d, h1, h2⟩ := xa.ex
  obtain ⟨t1, ho⟩ := exo_at I1.hok h1
  rcases h2 with ⟨_, rfl⟩ | ⟨dd, rfl, h2⟩
  · cases hl
  · obtain ⟨mA, hn, rel⟩ := exd_at I1.hok h2
    obtain ⟨od, hd, lk⟩ := lookIn_ns hn
    have r0 := rel f
    rw [hl] at r0
    obtain ⟨w0, hw, rw0⟩ := RelO.some_of r0
    have J : PySem.W.InstAt s1.heap a _ C (some od) := ⟨ho, rfl, rfl, hd⟩
    exact HandSPX.exc_get I1.kIn J T.hg T.hk T.hs (PySem.W.findObj_own T.hd hno rfl (by rw [lk, hw])) (handed_of rw0) ⟨v, H1, I1.tok _, rw0, q⟩
end
end Own

set_option Elab.async false
set_option linter.all false
set_option maxRecDepth 100000
set_option maxHeartbeats 4000000
/-! C(e, ..), C(k = e, ..), C() of an own exception class, as values -/
namespace PySem.HandSPX
open Builtin Builtin.ObjectAttr
section
variable {M : Model} {prog : Program} {w : World} {A : Around} {E : Value → Shared → Prop} {R : Result → Shared → Prop} {h : Heap} {g : Array GenState} {d : Drawn} {t : Nat} {os : OsState}
variable {nm q : Str} {C N : Addr} {bs bm bmB : List Value} {hdct : Bool} {sn : List Str} {sub : List Value} {ab : Bool} {col : Option Bool} {dd : Option Addr} {k0 k1 k2 k3 k5 : Option Value} {B newId initId : String}
theorem kw_check (F : ExcBaseFacts B newId initId bmB) (hT : ∀ X : String, bm.contains (.type X) = bmB.contains (.type X)) {us : List Value} {kw : List (Str × Value)} {Q : Unit → Shared → Prop}
    (hC : h.get? C = some (excClassObj nm q C N bs bm hdct sn sub ab col dd k0 k1 k2 k3 k5 newId)) (k : Q () ⟨h, g, d, t, os⟩) : wpAny M A (checkBuiltinCall newId ⟨.ref C :: us, kw⟩) Q E ⟨h, g, d, t, os⟩ := by
  have inB : (Value.ref C :: bm).contains (.type B) = true := by
    rw [List.contains_cons, hT, F.hasB]
    exact Bool.or_true _
  have st := F.noStar
  simp only [checkBuiltinCall, F.newKind, F.newSplit, F.newRow]
  repeat (first
    | refine wpAny_loadPart_at hC ?_
    | (refine wpAny_isSubtype_exc hC ?_; rw [inB])
    | refine wpAny_staticBase_exc hC ?_
    | refine wpAny_madeBy_exc hC ?_
    | simp only [bne_self_eq_false, Bool.false_eq_true, if_false]
    | wp_step)
  exact k
theorem kw_new (F : ExcBaseFacts B newId initId bmB) (hT : ∀ X : String, bm.contains (.type X) = bmB.contains (.type X)) {us : List Value} {kw : List (Str × Value)}
    (hC : h.get? C = some (excClassObj nm q C N bs bm hdct sn sub ab col dd k0 k1 k2 k3 k5 newId))
    (k : R (.ok (.ret (.ref (h.objs.size + 1)))) ⟨(h.push (W.kdv_tup us)).push (excO C h.objs.size), g, d, t, os⟩) (hl : us.length ≤ sizeLine) :
    codeAny (model prog w) A (.builtin newId ⟨.ref C :: us, kw⟩) R ⟨h, g, d, t, os⟩ := by
  have fe := F.ends
  have inB : (Value.ref C :: bm).contains (.type B) = true := by
    rw [List.contains_cons, hT, F.hasB]
    exact Bool.or_true _
  have inA : (Value.ref C :: bm).contains (.type "AttributeError") = false := by
    rw [List.contains_cons, hT, F.noAttr]
    rfl
  have inN : (Value.ref C :: bm).contains (.type "NameError") = false := by
    rw [List.contains_cons, hT, F.noName]
    rfl
  refine codeAny_builtinAt F.entry ?_
  unfold Builtin.«BaseException.__new__»
  refine wpAt_bind ?_
  show wpAt _ _ _ (stack >>= _) _ _ _
  refine wpAt_bind (wpAt_stack fun p below => wpAt_of_wpAny ?_)
  wp_walk
  refine wpAt_of_wpAny ?_
  rw [F.owner]
  repeat (first
    | with_reducible refine wpAny_madeHere_exc F.canon hC ?_
    | with_reducible refine wpAny_loadPart_at hC ?_
    | (with_reducible refine wpAny_isSubtype_exc hC ?_; first | rw [inB] | rw [inA] | rw [inN])
    | wp_step)
  show R _ _
  rw [Heap.size_push]
  exact k
theorem kw_typecall (F : ExcBaseFacts B newId initId bmB) (hT : ∀ X : String, bm.contains (.type X) = bmB.contains (.type X)) {us : List Value} {kw : List (Str × Value)} {fI : Addr} {Q : Fin → Shared → Prop}
    (hC : h.get? C = some (excClassObj nm q C N bs bm hdct sn sub ab col dd k0 k1 k2 k3 k5 newId))
    (hi : W.Looks (model prog w) h (typeLookup (.ref C) "__init__") (some (.ref fI))) (hb : ∀ self, W.Looks (model prog w) h (bindSpecial (.ref fI) self) (.ref fI, [self])) (hl : us.length ≤ sizeLine)
    (k : codeAny (model prog w) A (.call (.ref fI) ⟨.ref (h.objs.size + 1) :: us, kw⟩)
      (fun r s' => match r with | .ok (.ret v) => v = .none ∧ Q (.done (.ret (.ref (h.objs.size + 1)))) s' | .ok _ => False | .error e => E e s')
      ⟨(h.push (W.kdv_tup us)).push (excO C h.objs.size), g, d, t, os⟩) :
    wpAny (model prog w) A (Builtin.«type.__call__» ⟨.ref C :: us, kw⟩) Q E ⟨h, g, d, t, os⟩ := by
  repeat (first
    | with_reducible refine wpAny_loadPart_at hC ?_
    | with_reducible refine wpAny_madeBy_exc hC ?_
    | wp_step)
  refine codeAny_call_builtin_code (Code.quiet_builtin _ F.quiet) (kw_check F hT hC (kw_new F hT hC ?_ hl))
  show wpAny _ _ _ _ _ _
  have kp : ∀ b o, h.get? b = some o → ((h.push (W.kdv_tup us)).push (excO C h.objs.size)).get? b = some o := fun b o e => Heap.get?_push_of_some _ (Heap.get?_push_of_some _ e)
  have hC1 := kp _ _ hC
  have hE : ((h.push (W.kdv_tup us)).push (excO C h.objs.size)).get? (h.objs.size + 1) = some (excO C h.objs.size) := by heap_get
  have inC : (Value.ref C :: bm).contains (.ref C) = true := by simp
  have ii := hi.keeps kp
  have bb := (hb (.ref (h.objs.size + 1))).keeps kp
  unfold isInstance
  repeat (first
    | with_reducible refine wpAny_loadPart_at hE ?_
    | (with_reducible refine wpAny_isSubtype_exc hC1 ?_; rw [inC])
    | wp_step)
  show wpAny _ _ (typeLookup (.ref C) _) _ _ _
  refine ii.at (wpAny_holding (wpAny_bind (bb.at (wpAny_bind (wpAny_call (codeAny_mono k fun r s' z => ?_))))))
  rcases r with e | (v | _ | _ | _) <;> first | exact z | exact z.elim | skip
  obtain ⟨rfl, z⟩ := z
  first
    | exact wpAny_pure (wpAny_pure z)
    | (wp_walk; exact z)
theorem kw_call (F : ExcBaseFacts B newId initId bmB) (hT : ∀ X : String, bm.contains (.type X) = bmB.contains (.type X)) {us : List Value} {kw : List (Str × Value)} {fI : Addr}
    (hC : h.get? C = some (excClassObj nm q C N bs bm hdct sn sub ab col dd k0 k1 k2 k3 k5 newId))
    (hi : W.Looks (model prog w) h (typeLookup (.ref C) "__init__") (some (.ref fI))) (hb : ∀ self, W.Looks (model prog w) h (bindSpecial (.ref fI) self) (.ref fI, [self])) (hl : us.length ≤ sizeLine)
    (k : codeAny (model prog w) (A.under (.builtin "type.__call__" ⟨.ref C :: us, kw⟩)) (.call (.ref fI) ⟨.ref (h.objs.size + 1) :: us, kw⟩) (W.InitBack (h.objs.size + 1) R)
      ⟨(h.push (W.kdv_tup us)).push (excO C h.objs.size), g, d, t, os⟩) :
    codeAny (model prog w) A (.call (.ref C) ⟨us, kw⟩) R ⟨h, g, d, t, os⟩ := by
  have l1 := tc_lookup
  have l2 := tc_bind (.ref C)
  have ty : (⟨h, g, d, t, os⟩ : Shared).TypeIs (.ref C) "type" := ⟨_, hC, rfl⟩
  refine codeAny_of_tree ?_
  show wpAny _ _ (callAny (.ref C) _) _ _ _
  repeat (any_goals (first
    | assumption
    | with_reducible refine wpAny_loadPart_at hC ?_
    | wp_step))
  refine ⟨rfl, ?_⟩
  refine codeAny_call_builtin_at (Code.quiet_builtin _ (by decide +kernel)) entry_typeCall (wpAny_check_type_call_sub hC (kw_typecall F hT hC hi hb hl ?_))
  refine codeAny_mono k fun r s' z => ?_
  rcases r with e | (v | _ | _ | _) <;> exact z
end
end PySem.HandSPX

set_option Elab.async false
set_option linter.all false
set_option maxRecDepth 100000
set_option maxHeartbeats 4000000
namespace Own
open PySem PySem.Spec PyProof.Rows L2
/-- a class with its own __init__ (at fI), over ValueError -/
structure ExcI (K : PySem.W.Frag) (C fI : Addr) : Prop where
  ox : OexC K C
  init : PySem.W.findIn K (.ref C) "__init__" = some (some (.ref fI))
  fn : PySem.W.typeIn K (.ref fI) = some (.type "function")
/-- a new exception of the class at C, its __init__ called with it and the values -/
def tMkE (C : Addr) (sp : Sp) (ta : TA) : TE := fun σ H Q => ta σ H fun vs H1 => vs.length ≤ 1000 ∧ ∀ a, H1 a = none →
  sp (.ref a :: vs) (upd H1 a (exo a C none)) (fun v H2 => v = .non ∧ Q (.ref a) H2) E0
def tMkK (C : Addr) (sp : Sp) (rV : List V → List V) (tk : TA) : TE := fun σ H Q => tk σ H fun zs H1 => ∀ a, H1 a = none →
  sp (.ref a :: rV zs) (upd H1 a (exo a C none)) (fun v H2 => v = .non ∧ Q (.ref a) H2) E0
section
variable {X : Cx} {e : Expr} {es : List Expr} {kws : List Keyword} {t tk : TA} {x : Str} {p pos : Pos} {C fI : Addr} {k : Nat} {fd : FuncData} {ps ks : List Str} {sp : Sp}
/-- the making, behind the arguments -/
theorem run_mkE {us ws : List Value} {kw : List (Str × Value)} {vs : List V} {pins : List (Addr × Obj)} {σ : L2.St} {H : Hp} {s : Shared} {Q : VK} (T : ExcI X.K C fI) (G : FnOk X.prog X.w X.K X.mg X.base CX0 k fI fd ps sp) (hr : Room (k + 1) X.A)
    (I : Inv X pins σ H s) (hl : us.length ≤ sizeLine) (rel : ∀ a : Addr, Vals (.ref a :: vs) (.ref a :: ws)) (bind : ∀ (a : Addr) (s' : Shared), X.K.In s'.heap → (Value.ref a :: ws).length = ps.length → BindsTo s' fd ⟨.ref a :: us, kw⟩ (ps.zip (.ref a :: ws)))
    (h : ∀ a, H a = none → sp (.ref a :: vs) (upd H a (exo a C none)) (fun v H2 => v = .non ∧ Q (.ref a) H2) E0) :
    wpAny (model X.prog X.w) X.A (call (.ref C) us kw) (EP X pins σ Q) X.xe s := by
  obtain ⟨nm, q, N, bs, bm, sn, sub, ab, col, dd, k0, k1, k2, k3, k5, hC, hbm⟩ := T.ox.cls
  obtain ⟨hp, g, dr, tt, os⟩ := s
  have lt : hp.objs.size ≤ hp.objs.size + 1 := Nat.le_succ _
  have q0 := h (hp.objs.size + 1) (I.hok.fresh lt)
  have kp : ∀ b o, hp.get? b = some o → ((hp.push (PySem.W.kdv_tup us)).push (PySem.HandSPX.excO C hp.objs.size)).get? b = some o := fun b o z => Heap.get?_push_of_some _ (Heap.get?_push_of_some _ z)
  have hE : ((hp.push (PySem.W.kdv_tup us)).push (PySem.HandSPX.excO C hp.objs.size)).get? (hp.objs.size + 1) = some (PySem.HandSPX.excO C hp.objs.size) := by heap_get
  have I2 : Inv X pins σ (upd H (hp.objs.size + 1) (exo (hp.objs.size + 1) C none)) ⟨(hp.push (PySem.W.kdv_tup us)).push (PySem.HandSPX.excO C hp.objs.size), g, dr, tt, os⟩ :=
    I.laid (t' := tt) (a := hp.objs.size + 1) (o := exo (hp.objs.size + 1) C none) (h' := (hp.push (PySem.W.kdv_tup us)).push (PySem.HandSPX.excO C hp.objs.size)) kp lt (exo_ok hE)
  have rv := rel (hp.objs.size + 1)
  have ll : (Value.ref (hp.objs.size + 1) :: ws).length = ps.length := rv.length.symm.trans (G.len _ _ _ _ q0)
  refine wpAny_call (PySem.HandSPX.kw_call F.excBase_ValueError (fun Y => PySem.HandSPX.refsVE_contains Y bm hbm) (I.kIn _ _ hC) (PySem.W.looks_findIn I.kIn T.init) (fun self => PySem.W.bind_fn I.kIn self T.fn) hl ?_)
  refine codeAny_mono (G.run _ X.stack _ _ ⟨Value.ref (hp.objs.size + 1) :: us, kw⟩ (Value.ref (hp.objs.size + 1) :: ws) _ _ E0 (hr.make C us kw) (I2.env0.make C us kw) (bind _ _ I2.kIn ll) rv q0) fun r s' z => ?_
  cases r with
  | error er => exact (show False from z).elim
  | ok fl =>
    cases fl with
    | ret u =>
      obtain ⟨v, H2, os2, bare2, un2, hok2, rv2, ev, q2⟩ := z
      subst ev
      exact ⟨rv2, I2.after ⟨V.ref (hp.objs.size + 1), H2, os2, bare2, un2, hok2, rfl, q2⟩⟩
    | next => exact False.elim z
    | brk => exact False.elim z
    | cont => exact False.elim z
theorem pe_mkE (T : ExcI X.K C fI) (G : FnOk X.prog X.w X.K X.mg X.base CX0 k fI fd ps sp) (hr : Room (k + 1) X.A) (hb : Binds X.K fd ps []) (hg : Gl X x) (hm : X.mg x = some (.ref C)) (ha : PA X (e :: es) t)
    (hdb : (x == ("__debug__" : Str)) = false := by decide) (he : starEach (e :: es) X.env = (false, eval e X.env) :: starEach es X.env := by rfl) (hpl : (backTo pos (starEach es X.env)).any (·.1) = false := by rfl) :
    PE X (.Call (.Name x p) (e :: es) [] pos) (tMkE C sp t) := by
  refine ⟨fun pins s σ H Q I h => ?_⟩
  refine wpAny_Call_Name_kw (ld_glob I hg hm ?_ hdb)
  refine PySem.W.callWith_K (h₀ := X.base) I.ok.mod.kin T.ox.kC (thn (ha.run pos pins s σ H _ I h) fun us s1 ⟨vs, H1, I1, r1, hz, q1⟩ => ⟨I1.kIn, ?_⟩) he hpl
  show wpAny _ _ (call (.ref C) us) _ _ _
  have hl : us.length ≤ sizeLine := by
    rw [← Paired.length r1, sizeLine_eq]
    omega
  refine run_mkE T G hr I1 hl (fun a => .cons rfl r1) (fun a s' kin ll => ?_) q1
  have b := hb s' (.ref a :: us) kin (by rw [List.append_nil]; exact ll)
  rw [List.append_nil] at b
  exact b
theorem pe_mkK {r : List Value → List Value} {rV : List V → List V} (T : ExcI X.K C fI) (G : FnOk X.prog X.w X.K X.mg X.base CX0 k fI fd ps sp) (hr : Room (k + 1) X.A)
    (hb : ∀ (a : Addr) (ws : List Value) (s' : Shared), X.K.In s'.heap → (Value.ref a :: r ws).length = ps.length → BindsTo s' fd ⟨[.ref a], ks.zip ws⟩ (ps.zip (.ref a :: r ws)))
    (hrel : ∀ {zs : List V} {ws : List Value}, Vals zs ws → Vals (rV zs) (r ws)) (hg : Gl X x) (hm : X.mg x = some (.ref C)) (hkw : PK X kws tk)
    (hall : (backToKw pos (keywordEach kws X.env)).all (·.1.isSome) = true := by rfl) (hks : (backToKw pos (keywordEach kws X.env)).filterMap (·.1) = ks := by rfl)
    (hdb : (x == ("__debug__" : Str)) = false := by decide) (hpl : ((backTo pos (starEach [] X.env)).any (·.1) || (backToKw pos (keywordEach kws X.env)).any (·.1.isNone)) = false := by rfl) :
    PE X (.Call (.Name x p) [] kws pos) (tMkK C sp rV tk) := by
  refine ⟨fun pins s σ H Q I h => ?_⟩
  refine wpAny_Call_Name_kw (ld_glob I hg hm ?_ hdb)
  refine PySem.W.callWith_KW0 (h₀ := X.base) I.ok.mod.kin T.ox.kC hall ?_ hpl
  refine thn (hkw.run pos pins s σ H _ I h) fun ws s2 ⟨zs, H2, I2, rz, q2⟩ => ⟨I2.kIn, ?_⟩
  rw [hks]
  exact run_mkE (us := []) T G hr I2 (Nat.zero_le _) (fun a => .cons rfl (hrel rz)) (fun a s' kin ll => hb a ws s' kin ll) q2
/-- C(), C without an __init__ of its own -/
def tMk0 (C : Addr) : TE := fun _ H Q => ∀ a, H a = none → Q (.ref a) (upd H a (exo a C none))
theorem pe_mk0 {bmB : List Value} {B newId initId : String} (F : ExcBaseFacts B newId initId bmB) (q : PySem.W.excIn X.K C bmB newId = true) (gC : X.mg x = some (.ref C)) (kC : PySem.W.keepIn X.K (.ref C) = true) (hg : Gl X x)
    (hdb : (x == ("__debug__" : Str)) = false := by decide) : PE X (.Call (.Name x p) [] [] pos) (tMk0 C) := by
  refine ⟨fun pins s σ H Q I h => ?_⟩
  refine wpAny_Call_Name_kw (ld_glob I hg gC ?_ hdb)
  refine PySem.W.callWith_K0 I.kIn kC ?_
  show wpAny _ _ (call (.ref C) []) _ _ _
  obtain ⟨bm, N, nm, qn, bs, hdct, sn, sub, ab, col, dd, k0, k1, k2, k3, k5, mN, hC, hN, hni, T⟩ := exc_obj I.kIn q
  refine wpAny_call_exc_subT F T hC hN hni (fun h' a hm => ?_) (Nat.zero_le _)
  have hn : H a = none := I.hok.gone hm.new
  obtain ⟨t0, ht, _, _⟩ := hm.there
  exact ⟨.ref a, upd H a (exo a C none), I.laidN hm.keeps hm.new hn (exo_ok ht), rfl, h a hn⟩
end
end Own

set_option Elab.async false
set_option linter.all false
set_option maxRecDepth 100000
set_option maxHeartbeats 4000000
/-! error classes whose __init__ keeps its arguments as fields: made by place and by names -/
namespace Own
open PySem PySem.Spec PyProof.Rows L2
/-- all but what stands at a (and tables) stays -/
def But1 (a : Addr) (H H' : Hp) : Prop := ∀ b o, b ≠ a → H b = some o → H' b = some o
def spInit1 (C : Addr) (f : Str) : Sp := fun vs H Q _ => ∃ (a : Addr) (v : V), vs = [.ref a, v] ∧ H a = some (exo a C none) ∧ ∀ H', But1 a H H' → ExcAt H' a C [(f, v)] → Q .non H'
def spInit2 (C : Addr) (f g : Str) : Sp := fun vs H Q _ => ∃ (a : Addr) (v w : V), vs = [.ref a, v, w] ∧ H a = some (exo a C none) ∧ ∀ H', But1 a H H' → ExcAt H' a C [(g, w), (f, v)] → Q .non H'
theorem init1_end {H : Hp} {a C dx : Addr} {f : Str} {v : V} (ha : H a = some (exo a C none)) (hd : H dx = none) (ne : dx ≠ a) :
    But1 a H (upd (upd H dx (exd dx [(f, v)])) a (exo a C (some dx))) ∧ ExcAt (upd (upd H dx (exd dx [(f, v)])) a (exo a C (some dx))) a C [(f, v)] := by
  refine ⟨fun b o hb e => ?_, ⟨some dx, upd_same, .inr ⟨dx, rfl, ?_⟩⟩⟩
  · rw [upd_ne hb, upd_ne (ne_of_none e hd)]
    exact e
  · rw [upd_ne ne]
    exact upd_same
theorem init2_end {H : Hp} {a C dx : Addr} {f g : Str} {v w : V} (ha : H a = some (exo a C none)) (hd : H dx = none) (ne : dx ≠ a) :
    But1 a H (upd (upd (upd H dx (exd dx [(f, v)])) a (exo a C (some dx))) dx (exd dx [(g, w), (f, v)])) ∧ ExcAt (upd (upd (upd H dx (exd dx [(f, v)])) a (exo a C (some dx))) dx (exd dx [(g, w), (f, v)])) a C [(g, w), (f, v)] := by
  refine ⟨fun b o hb e => ?_, ⟨some dx, ?_, .inr ⟨dx, rfl, upd_same⟩⟩⟩
  · have nb := ne_of_none e hd
    rw [upd_ne nb, upd_ne hb, upd_ne nb]
    exact e
  · rw [upd_ne ne.symm]
    exact upd_same
/-- what is known of a class of one field -/
structure E1 (P : Program) (w : World) (K : PySem.W.Frag) (mg : Str → Option Value) (base : Heap) (x f : Str) (C : Addr) : Prop where
  g : mg x = some (.ref C)
  ec : ExcC K C
  no : PySem.W.findIn K (.ref C) f = some none
  ex : ∃ (fI : Addr) (fd : FuncData), ExcI K C fI ∧ FnOk P w K mg base CX0 1 fI fd ["self", f] (spInit1 C f) ∧ Binds K fd ["self", f] [] ∧ ∀ (a : Addr) (u : Value) (s' : Shared), BindsTo s' fd ⟨[.ref a], [(f, u)]⟩ [("self", .ref a), (f, u)]
structure E2 (P : Program) (w : World) (K : PySem.W.Frag) (mg : Str → Option Value) (base : Heap) (x f h : Str) (C : Addr) : Prop where
  g : mg x = some (.ref C)
  ec : ExcC K C
  no : PySem.W.findIn K (.ref C) f = some none
  no2 : PySem.W.findIn K (.ref C) h = some none
  ex : ∃ (fI : Addr) (fd : FuncData), ExcI K C fI ∧ FnOk P w K mg base CX0 1 fI fd ["self", f, h] (spInit2 C f h) ∧ Binds K fd ["self", f, h] [] ∧ ∀ (a : Addr) (u v : Value) (s' : Shared), BindsTo s' fd ⟨[.ref a], [(h, v), (f, u)]⟩ [("self", .ref a), (f, u), (h, v)]
/-- a new exception that holds the value -/
def tE1 (C : Addr) (f : Str) (te : TE) : TE := fun σ H Q => te σ H fun v H1 => ∀ a H2, H1 a = none → (∀ b o, H1 b = some o → H2 b = some o) → ExcAt H2 a C [(f, v)] → Q (.ref a) H2
def tE2 (C : Addr) (f h : Str) (te tu : TE) : TE := fun σ H Q => te σ H fun v H1 => tu σ H1 fun u H2 => ∀ a H3, H2 a = none → (∀ b o, H2 b = some o → H3 b = some o) → ExcAt H3 a C [(h, u), (f, v)] → Q (.ref a) H3
def tE2k (C : Addr) (f h : Str) (te tu : TE) : TE := fun σ H Q => te σ H fun u H1 => tu σ H1 fun v H2 => ∀ a H3, H2 a = none → (∀ b o, H2 b = some o → H3 b = some o) → ExcAt H3 a C [(h, u), (f, v)] → Q (.ref a) H3
def tE0 (C : Addr) : TE := fun _ H Q => ∀ a H2, H a = none → (∀ b o, H b = some o → H2 b = some o) → ExcAt H2 a C [] → Q (.ref a) H2
theorem but_new {H H' : Hp} {a : Addr} {o : HO} (n : H a = none) (b : But1 a (upd H a o) H') : ∀ c u, H c = some u → H' c = some u := fun c u e => b c u (ne_of_none e n) (by rw [upd_ne (ne_of_none e n)]; exact e)
section
variable {X : Cx} {e e2 : Expr} {te tu : TE} {x f h : Str} {p pos kp kp2 : Pos} {C : Addr}
theorem PE.imp {t t' : TE} (hp : PE X e t) (k : ∀ σ H Q, t' σ H Q → t σ H Q) : PE X e t' := ⟨fun pins s σ H Q I q => hp.run pins s σ H Q I (k σ H Q q)⟩
theorem TE_mono_of {te : TE} : True := trivial
theorem pe_E1 (E : E1 X.prog X.w X.K X.mg X.base x f C) (hr : Room 2 X.A) (hg : Gl X x) (he : PE X e te) (mono : ∀ σ H Q Q', (∀ v H1, Q v H1 → Q' v H1) → te σ H Q → te σ H Q')
    (hdb : (x == ("__debug__" : Str)) = false := by decide) (hs : starEach [e] X.env = (false, eval e X.env) :: starEach [] X.env := by rfl) : PE X (.Call (.Name x p) [e] [] pos) (tE1 C f te) := by
  obtain ⟨fI, fd, T, G, hb, _⟩ := E.ex
  refine PE.imp (pe_mkE (k := 1) T G hr hb hg E.g (pa_cons he pa_nil hs) hdb hs (by rfl)) fun σ H Q q => ?_
  refine mono σ H _ _ (fun v H1 q1 => ?_) q
  refine ⟨by show 1 ≤ 1000; decide, fun a na => ⟨a, v, rfl, upd_same, fun H2 b x2 => ⟨rfl, q1 a H2 na (but_new na b) x2⟩⟩⟩
theorem pe_E1k (E : E1 X.prog X.w X.K X.mg X.base x f C) (hr : Room 2 X.A) (hg : Gl X x) (he : PE X e te) (mono : ∀ σ H Q Q', (∀ v H1, Q v H1 → Q' v H1) → te σ H Q → te σ H Q')
    (hdb : (x == ("__debug__" : Str)) = false := by decide) : PE X (.Call (.Name x p) [] [⟨some f, e, kp⟩] pos) (tE1 C f te) := by
  obtain ⟨fI, fd, T, G, _, hb⟩ := E.ex
  refine PE.imp (pe_mkK (k := 1) (ks := [f]) (r := id) (rV := id) T G hr (fun a ws s' _ hl => ?_) (fun z => z) hg E.g (pk_cons he pk_nil) (by rfl) (by rfl) hdb (by rfl)) fun σ H Q q => ?_
  · match ws, hl with
    | [u], _ => exact hb a u s'
  · refine mono σ H _ _ (fun v H1 q1 => ?_) q
    exact fun a na => ⟨a, v, rfl, upd_same, fun H2 b x2 => ⟨rfl, q1 a H2 na (but_new na b) x2⟩⟩
theorem pe_E2 (E : E2 X.prog X.w X.K X.mg X.base x f h C) (hr : Room 2 X.A) (hg : Gl X x) (he : PE X e te) (he2 : PE X e2 tu) (mono : ∀ σ H Q Q', (∀ v H1, Q v H1 → Q' v H1) → te σ H Q → te σ H Q') (mono2 : ∀ σ H Q Q', (∀ v H1, Q v H1 → Q' v H1) → tu σ H Q → tu σ H Q')
    (hdb : (x == ("__debug__" : Str)) = false := by decide) (hs : starEach [e, e2] X.env = (false, eval e X.env) :: starEach [e2] X.env := by rfl) (hs2 : starEach [e2] X.env = (false, eval e2 X.env) :: starEach [] X.env := by rfl) (hpl : (backTo pos (starEach [e2] X.env)).any (·.1) = false := by rfl) :
    PE X (.Call (.Name x p) [e, e2] [] pos) (tE2 C f h te tu) := by
  obtain ⟨fI, fd, T, G, hb, _⟩ := E.ex
  refine PE.imp (pe_mkE (k := 1) T G hr hb hg E.g (pa_cons he (pa_cons he2 pa_nil hs2) hs) hdb hs hpl) fun σ H Q q => ?_
  refine mono σ H _ _ (fun v H1 q1 => mono2 σ H1 _ _ (fun u H2 q2 => ?_) q1) q
  exact ⟨by show 2 ≤ 1000; decide, fun a na => ⟨a, v, u, rfl, upd_same, fun H3 b x3 => ⟨rfl, q2 a H3 na (but_new na b) x3⟩⟩⟩
/-- x(h = e, f = e2) -/
theorem pe_E2k (E : E2 X.prog X.w X.K X.mg X.base x f h C) (hr : Room 2 X.A) (hg : Gl X x) (he : PE X e te) (he2 : PE X e2 tu) (mono : ∀ σ H Q Q', (∀ v H1, Q v H1 → Q' v H1) → te σ H Q → te σ H Q') (mono2 : ∀ σ H Q Q', (∀ v H1, Q v H1 → Q' v H1) → tu σ H Q → tu σ H Q')
    (hdb : (x == ("__debug__" : Str)) = false := by decide) : PE X (.Call (.Name x p) [] [⟨some h, e, kp⟩, ⟨some f, e2, kp2⟩] pos) (tE2k C f h te tu) := by
  obtain ⟨fI, fd, T, G, _, hb⟩ := E.ex
  refine PE.imp (pe_mkK (k := 1) (ks := [h, f]) (r := List.reverse) (rV := List.reverse) T G hr (fun a ws s' _ hl => ?_) (fun z => ?_) hg E.g (pk_cons he (pk_cons he2 pk_nil)) (by rfl) (by rfl) hdb (by rfl)) fun σ H Q q => ?_
  · have hl2 : ws.length = 2 := by simpa using hl
    match ws, hl2 with
    | [u, v], _ => exact hb a v u s'
  · rename_i zs ws
    induction z with
    | nil => exact .nil
    | cons r1 r2 ih =>
      rw [List.reverse_cons, List.reverse_cons]
      exact ih.append (.cons r1 .nil)
  · refine mono σ H _ _ (fun u H1 q1 => mono2 σ H1 _ _ (fun v H2 q2 => ?_) q1) q
    exact fun a na => ⟨a, v, u, rfl, upd_same, fun H3 b x3 => ⟨rfl, q2 a H3 na (but_new na b) x3⟩⟩
theorem pe_E0 {bmB : List Value} {B newId initId : String} (F : ExcBaseFacts B newId initId bmB) (q : PySem.W.excIn X.K C bmB newId = true) (gC : X.mg x = some (.ref C)) (kC : PySem.W.keepIn X.K (.ref C) = true) (hg : Gl X x)
    (hdb : (x == ("__debug__" : Str)) = false := by decide) : PE X (.Call (.Name x p) [] [] pos) (tE0 C) := by
  refine PE.imp (pe_mk0 F q gC kC hg hdb) fun σ H Q q a na => q a _ na (fun b o z => ?_) ⟨none, upd_same, .inl ⟨rfl, rfl⟩⟩
  rw [upd_ne (ne_of_none z na)]
  exact z
end
theorem mono_var (i : Nat) : ∀ (σ : L2.St) (H : Hp) (Q Q' : VK), (∀ v H1, Q v H1 → Q' v H1) → tVar i σ H Q → tVar i σ H Q' := fun σ H Q Q' k ⟨v, h, q⟩ => ⟨v, h, k _ _ q⟩
end Own

set_option Elab.async false
set_option linter.all false
set_option maxRecDepth 100000
set_option maxHeartbeats 4000000
/-! raise C(e), C an error class of one field: the error's own dict is new and holds the value -/
namespace Own
open PySem PySem.Spec PyProof.Rows L2
def spIni (C : Addr) (f : Str) : Sp := fun vs H Q _ => ∃ (a : Addr) (v : V), vs = [.ref a, v] ∧ H a = some (exo a C none) ∧ ∀ dx, H dx = none → dx ≠ a → Q .non (upd (upd H dx (exd dx [(f, v)])) a (exo a C (some dx)))
/-- what is known of a class of one field that is raised -/
structure EI (P : Program) (w : World) (K : PySem.W.Frag) (mg : Str → Option Value) (base : Heap) (x f : Str) (C : Addr) : Prop where
  g : mg x = some (.ref C)
  ex : ∃ (fI : Addr) (fd : FuncData), ExcI K C fI ∧ FnOk P w K mg base CX0 1 fI fd ["self", f] (spIni C f) ∧ Binds K fd ["self", f] []
def tRs (C : Addr) (f : Str) (te : TE) : L2.St → Hp → XK → Prop := fun σ H Q => te σ H fun v H1 => ∀ d H2, H1 d = none → (∀ b o, H1 b = some o → H2 b = some o) → H2 d = some (.xd [(f, v)]) → Q (.ref C) (some d) H2
section
variable {X : Cx} {e : Expr} {te : TE} {x f : Str} {p pos pos2 : Pos} {C : Addr}
theorem pmk_EI (E : EI X.prog X.w X.K X.mg X.base x f C) (hr : Room 2 X.A) (hg : Gl X x) (he : PE X e te) (mono : ∀ σ H Q Q', (∀ v H1, Q v H1 → Q' v H1) → te σ H Q → te σ H Q')
    (hdb : (x == ("__debug__" : Str)) = false := by decide) (hs : starEach [e] X.env = (false, eval e X.env) :: starEach [] X.env := by rfl) (hpl : (backTo pos (starEach [] X.env)).any (·.1) = false := by rfl) : PMk X (.Call (.Name x p) [e] [] pos) (tRs C f te) := by
  obtain ⟨fI, fd, T, G, hb⟩ := E.ex
  intro pins s σ H Q I h
  refine pmk_oex (CX := CX0) (ps := ["self", f]) (dvs := []) T.ox T.init T.fn G hr hb .nil pass0 hg E.g (pa_cons he pa_nil hs) hdb hs hpl pins s σ H Q I ?_
  refine mono σ H _ _ (fun v H1 q1 => ?_) h
  refine ⟨by show 1 ≤ 1000; decide, fun a na => ⟨a, v, rfl, upd_same, fun dx nd ne => ⟨rfl, dx, [(f, v)], upd_same, ?_, ?_, ?_⟩⟩⟩
  · rw [upd_ne ne]
    exact upd_same
  · rw [upd_ne ne] at nd
    exact nd
  · have nd1 : H1 dx = none := by
      rw [upd_ne ne] at nd
      exact nd
    refine q1 dx _ nd1 (fun b o e => ?_) upd_same
    have n1 := ne_of_none e nd1
    have n2 := ne_of_none e na
    rw [upd_ne n1, del_ne n2, upd_ne n2, upd_ne n1, upd_ne n2]
    exact e
theorem ps_EI {W : WX} (hc : X.calm = true) (tk : Takes X W) (E : EI X.prog X.w X.K X.mg X.base x f C) (hr : Room 2 X.A) (hg : Gl X x) (he : PE X e te) (mono : ∀ σ H Q Q', (∀ v H1, Q v H1 → Q' v H1) → te σ H Q → te σ H Q')
    (hdb : (x == ("__debug__" : Str)) = false := by decide) (hs : starEach [e] X.env = (false, eval e X.env) :: starEach [] X.env := by rfl) (hpl : (backTo pos (starEach [] X.env)).any (·.1) = false := by rfl) :
    PS X (.Raise (some (.Call (.Name x p) [e] [] pos)) none pos2) (fun _ σ H => tRs C f te σ H fun cls d H' => W cls d σ H') := ps_raise hc tk (pmk_EI E hr hg he mono hdb hs hpl)
end
end Own

set_option Elab.async false
set_option linter.all false
set_option maxRecDepth 100000
set_option maxHeartbeats 4000000
/-! try: .. except A as n: .. except B as n: .. (several clauses, each with its name) -/
namespace Own
open PySem PySem.Spec PyProof.Rows L2
abbrev Sui := Addr → Value → Option Addr → TS
/-- behind a suite its name's slot is empty -/
def gone (i : Nat) (D : Ends) : Ends := { nx := fun σ H => D.nx (σ.set i none) H, rt := D.rt, bk := fun σ H => D.bk (σ.set i none) H, ct := fun σ H => D.ct (σ.set i none) H }
/-- what the clauses wish, one behind the other: class, slot of the name, suite -/
def wAll (K : PySem.W.Frag) (out : WX) (D : Ends) : List (Value × Nat × Sui) → WX
  | [] => out
  | (c, i, ts) :: r => fun k d σ H => ∃ b, PySem.W.exmOne K k c = some b ∧ (b = true → ∀ a, H a = none → ts a k d (gone i D) (σ.set i (some (.ref a))) H) ∧ (b = false → wAll K out D r k d σ H)
inductive Clauses (X : Cx) : List ExceptHandler → List (Value × Nat × Sui) → Prop
  | nil : Clauses X [] []
  | cons {x n : Str} {c : Value} {i : Nat} {ts : Sui} {b : Stmt} {bs : List Stmt} {p q : Pos} {hs : List ExceptHandler} {l : List (Value × Nat × Sui)} (names : Names X x c) (slot : X.N[i]? = some n) (loc : X.env.kindOf n = some .local)
      (body : ∀ (a : Addr) (o : Obj) (k : Value) (d : Option Addr) (pn : List (Addr × Obj)), Zc k d o → (∃ vs, o.data = .fields vs) → PSs (X.suite a ((a, o) :: pn)) (b :: bs) (ts a k d)) (rest : Clauses X hs l) :
      Clauses X (.ExceptHandler (some (.Name x p)) (some n) (b :: bs) q :: hs) ((c, i, ts) :: l)
/-- an exception of the class k (its dict d) lies at a, caught by this frame; sI is the state without it -/
structure Come (X : Cx) (pins : List (Addr × Obj)) (σ : L2.St) (H : Hp) (B : Heap) (a : Addr) (k : Value) (d : Option Addr) (sI s : Shared) : Prop where
  inv : Inv X pins σ H sI
  base : ∀ c o, sI.heap.get? c = some o → c ∉ frs X.stack → B.get? c = some o
  fly : HandSPX.FlyingZ B (X.env :: X.outer) a (Zc k d) s.heap
  slots : sI.heap.UpToSlots s.heap
  off : H a = none
  os : s.os = sI.os
  bare : AllBare s.gens
section
variable {X : Cx} {pins : List (Addr × Obj)} {σ : L2.St} {H : Hp} {B : Heap} {a : Addr} {k : Value} {d : Option Addr} {sI s : Shared}
theorem Come.now (c : Come X pins σ H B a k d sI s) : Inv X pins σ H s := Inv.landed c.inv c.base c.fly.1 c.slots c.os c.bare
theorem Come.again (c : Come X pins σ H B a k d sI s) {h : Heap} (f : HandSPX.FlyingZ B (X.env :: X.outer) a (Zc k d) h) (u : s.heap.UpToSlots h) : Come X pins σ H B a k d sI { s with heap := h } :=
  ⟨c.inv, c.base, f, Heap.UpToSlots.trans c.slots u, c.off, c.os, c.bare⟩
theorem Come.held (c : Come X pins σ H B a k d sI s) (hf : X.env.frame = some X.env.locals) : ∃ o vs, s.heap.get? a = some o ∧ Zc k d o ∧ o.data = .fields vs ∧ Inv (X.suite a ((a, o) :: (X.pn ++ pins))) [] σ H s := by
  obtain ⟨o, vs, e, z, dt⟩ := c.fly.there
  have out : a ∉ frs (X.env :: X.outer) := by
    intro m
    obtain ⟨_, o2, e2, bad⟩ := c.fly.2.2.1.mem m
    rw [e] at e2
    rw [← Option.some.inj e2] at bad
    exact bad _ dt
  have mem : ∀ v ∈ X.env :: X.outer, v.frame = some a → False := fun v hv e3 => out (List.mem_filterMap.mpr ⟨v, hv, e3⟩)
  refine ⟨o, vs, e, z, dt, Inv.suite c.now e dt c.off (fun q => mem X.env List.mem_cons_self (by rw [hf, q])) fun q => ?_⟩
  obtain ⟨v, hv, e3⟩ := List.mem_filterMap.mp q
  exact mem v (List.mem_cons_of_mem _ hv) e3
theorem run_clauses {hds : List ExceptHandler} {l : List (Value × Nat × Sui)} {out : WX} {D : Ends} (st : X.stack = X.env :: X.outer) (hf : X.env.frame = some X.env.locals) (nd : X.N.Nodup) (tk : Takes X out) (C : Clauses X hds l) (c : Come X pins σ H B a k d sI s)
    (w : wAll X.K out D l k d σ H) : wpAny (model X.prog X.w) X.A (handleBy (.ref a) X.env hds) (SP X pins D) X.xe s := by
  have ok := c.inv.ok
  induction C with
  | nil =>
    obtain ⟨_, _, _, o, vs, T, oT, ts, e, z, dt, e1, _⟩ := id c.fly
    refine wpAny_handleBy_nil ?_
    unfold PySem.passOn
    refine wpAny_bind (wpAny_field e dt e1 ?_)
    have noT : ¬ (Value.ref T == Value.none) = true := by simp
    rw [if_neg noT]
    have go : wpAny (model X.prog X.w) X.A (setFlight (.ref a) X.env.frame) (fun _ s2 => wpAny (model X.prog X.w) X.A (throw (.ref a) : Sem Flow) (SP X pins D) X.xe s2) X.xe s := by
      rw [hf]
      refine HandSPX.setFlight_upZ c.fly fun g hg ug => wpAny_throw (tk _ _ ⟨a, B, sI, pins, σ, H, k, d, rfl, c.inv, c.base, Heap.UpToSlots.trans c.slots ug, .inr (.inr ?_), c.off, c.os, c.bare, w⟩)
      rw [st]
      exact hg
    first
      | exact wpAny_bind (wpAny_pure (wpAny_bind go))
      | exact wpAny_bind go
  | @cons x n cv i ts b0 bs p q hs2 l2 names slot loc body rest ih =>
    obtain ⟨b, hit, yes, no⟩ := w
    obtain ⟨o, vs, e, z, dt, S⟩ := c.held hf
    refine wpAny_handleBy_cons (codeAny_handlers_test ?_) (fun q => by cases q)
    have ty : PySem.W.Looks (model X.prog X.w) s.heap (typeOf (.ref a)) k := by
      intro A Q E s2 keep q
      refine wpAny_typeOf_ref (keep _ _ e) ?_
      rw [z.1]
      exact q
    have look := PySem.W.exm_one (M := model X.prog X.w) c.now.kIn ty hit
    have named : ∀ {Q E : Value → Shared → Prop}, Q cv s → wpAny (model X.prog X.w) (X.A.mark (some (.ref a))) (eval (.Name x p) X.env) Q E s := by
      intro Q E q
      obtain ⟨h1, h2, h3⟩ := names
      rcases h3 with h3 | ⟨h3, h4, h5⟩
      · exact ld_glob (X := X.suite a ((a, o) :: (X.pn ++ pins))) S h1 h3 q h2
      · exact ld_blt (X := X.suite a ((a, o) :: (X.pn ++ pins))) S h1 h3 h4 q h5 h2
    refine named (look.here ?_)
    cases b with
    | false => exact ih (no rfl)
    | true =>
      refine codeAny_handlers_suite_as (HandSPX.lands_againZ c.fly fun g fg ug => ?_)
      have c2 := c.again fg ug
      obtain ⟨o2, vs2, e2, z2, dt2, S2⟩ := c2.held hf
      refine store_ok (X := X.suite a ((a, o2) :: (X.pn ++ pins))) (v := .ref a) S2 nd slot (.inl loc) rfl (fun s5 S5 => ?_) (.inr loc)
      refine wpAny_mono ((body a o2 k d (X.pn ++ pins) z2 ⟨_, dt2⟩).run [] s5 _ H _ S5 (yes rfl a c.off)) (fun f s6 r => ?_) fun _ _ bad => bad.elim
      have leave : ∀ {σ6 : L2.St} {H6 : Hp} {R : Shared → Prop}, Inv (X.suite a ((a, o2) :: (X.pn ++ pins))) [] σ6 H6 s6 → (∀ s7, Inv X pins (σ6.set i none) H6 s7 → R s7) → wpAny (model X.prog X.w) X.A (do bindName X.env n .none; unbindBehindTheSuite X.env n q) (fun _ s7 => R s7) X.xe s6 := by
        intro σ6 H6 R S6 r
        exact gone_ok (Inv.unsuite S6 ok) nd slot loc r
      match f, r with
      | .next, ⟨_, _, S6, r⟩ => exact leave S6 fun _ J => ⟨_, _, J, r⟩
      | .brk, ⟨_, _, S6, r⟩ => exact leave S6 fun _ J => ⟨_, _, J, r⟩
      | .cont, ⟨_, _, S6, r⟩ => exact leave S6 fun _ J => ⟨_, _, J, r⟩
      | .ret u, ⟨_, _, _, S6, rv, r⟩ => exact leave S6 fun _ J => ⟨_, _, _, J, rv, r⟩
theorem ps_tryAll {body : List Stmt} {h0 : ExceptHandler} {hds : List ExceptHandler} {l : List (Value × Nat × Sui)} {pos : Pos} {tb : WX → TS} {out : WX} (st : X.stack = X.env :: X.outer) (hf : X.env.frame = some X.env.locals) (nd : X.N.Nodup) (tk : Takes X out)
    (hb : ∀ (W : WX) (pn : List (Addr × Obj)) (xe : Value → Shared → Prop), Takes (X.tr pn xe) W → PassesOwn (model X.prog X.w) X.A X.env xe → PSs (X.tr pn xe) body (tb W)) (C : Clauses X (h0 :: hds) l) :
    PS X (.Try body (h0 :: hds) [] [] pos) (fun D σ H => tb (fun k d σ1 H1 => σ1.length = X.N.length → wAll X.K out D l k d σ1 H1) D σ H) := by
  refine ⟨fun pins s σ H D I w => wpAny_Try_except ?_⟩
  have ok := I.ok
  have fr : X.A.frames = some (X.env :: X.outer) := by rw [ok.frames, st]
  let xe : Value → Shared → Prop := fun e s1 => wpAny (model X.prog X.w) X.A (noteFrame e X.env) (fun _ s2 => wpAny (model X.prog X.w) X.A (setFlight e none) (fun _ s3 => wpAny (model X.prog X.w) X.A (handleBy e X.env (h0 :: hds)) (SP X pins D) X.xe s3) X.xe s2) X.xe s1
  have tk2 : Takes (X.tr (X.pn ++ pins) xe) (fun k d σ1 H1 => σ1.length = X.N.length → wAll X.K out D l k d σ1 H1) := by
    rintro u s1 ⟨a, B, sI, pins1, σ1, H1, k, d, rfl, J, nb, up, sky, na, os, ag, w1⟩
    have sky1 : Sky B (X.env :: X.outer) a (Zc k d) X.env.locals s1.heap := by
      rw [← st]
      exact sky
    refine Sky.land Zc.steady fr hf sky1 fun g fg ug => ?_
    exact run_clauses st hf nd tk C ⟨Inv.ofTry J ok, nb, fg, Heap.UpToSlots.trans up ug, na, os, ag⟩ (w1 J.len)
  refine wpAny_mono ((hb _ (X.pn ++ pins) xe tk2 PassesOwn.looking).run [] s σ H D (Inv.toTry I _) w) (fun f s1 r => ?_) fun _ _ x => x
  match f, r with
  | .next, ⟨_, _, J, r⟩ => exact wpAny_execs_nil ⟨_, _, Inv.ofTry J ok, r⟩
  | .brk, ⟨_, _, J, r⟩ => exact ⟨_, _, Inv.ofTry J ok, r⟩
  | .cont, ⟨_, _, J, r⟩ => exact ⟨_, _, Inv.ofTry J ok, r⟩
  | .ret u, ⟨_, _, _, J, rv, r⟩ => exact ⟨_, _, _, Inv.ofTry J ok, rv, r⟩
end
end Own

set_option Elab.async false
set_option linter.all false
set_option maxRecDepth 100000
set_option maxHeartbeats 4000000
/-! enumerate(t), t a tuple -/
namespace Own
open PySem PySem.Spec PyProof.Rows L2
/-- enumerate(v) of a thing of which iter(v) is a new object -/
theorem enum_one {v : Value} {o : Obj} {B : Heap → Prop} (b : Begins v o B) :
    Meets (Builtin.«enumerate.__new__» ⟨[.type "enumerate", v], []⟩) (fun _ R s => B s.heap ∧
      R (.ok (.ret (.ref (s.heap.push o).objs.size))) { s with heap := (s.heap.push o).push { cls := .type "enumerate", data := .fields #[.none, .bool false, .ref s.heap.objs.size, rawInt 0, .none, .none] } }) := by
  refine .of_wp fun prog w A R s h => ?_
  obtain ⟨hp, g, d, tk, os⟩ := s
  obtain ⟨hB, hR⟩ := h
  have ss := sub_enumerate
  have it : ∀ {A' : Around} {E : Value → Shared → Prop} {Q : Value → Shared → Prop}, Q (.ref hp.objs.size) ⟨hp.push o, g, d, tk, os⟩ → wpAny (model prog w) A' (pyIter v) Q E ⟨hp, g, d, tk, os⟩ :=
    fun z => b.iter prog w _ _ ⟨hp, g, d, tk, os⟩ _ hB z
  wp_walk using it
  refine wpAny_stack_any fun st => wpAny_pure ?_
  split
  · rename_i c _ _ _ _ _
    cases (c == Value.type "enumerate") <;>
    · wp_walk using it
      exact ⟨_, rfl, hR⟩
  · wp_walk using it
    exact ⟨_, rfl, hR⟩
theorem call_enumT {prog : Program} {w : World} {A : Around} {E : Value → Shared → Prop} {s : Shared} {l : Addr} {items : Array Value} {Q : Value → Shared → Prop} (hL : s.heap.IsTuple l items)
    (h : ∀ h', IsEnum h' (s.heap.objs.size + 1) s.heap.objs.size 0 .none → h'.IsTupleIter s.heap.objs.size l 0 → (∀ b o, s.heap.get? b = some o → h'.get? b = some o) → Q (.ref (s.heap.objs.size + 1)) { s with heap := h' }) :
    wpAny (model prog w) A (call (.type "enumerate") [.ref l]) Q E s := by
  have b := begins_tuple l items
  refine callType_new F.called_enumerate (by decide) (F.typeCall_enumerate_1 _) (F.newCall_enumerate_1 _) (fun obj => F.args_object_init_2 obj _) F.entry_enumerate_new (enum_one b) ⟨hL, ?_⟩
  generalize hit : ({ cls := .type "tuple_iterator", data := .fields #[.ref l, .int 0 0] } : Obj) = oi at b
  have fr : oi.isFreed = false := b.free
  have sz : (s.heap.push oi).objs.size = s.heap.objs.size + 1 := Heap.size_push ..
  show _ ∧ _
  rw [sz]
  have e1 := Heap.get?_push_size (s.heap.push oi) (o := { cls := .type "enumerate", data := .fields #[.none, .bool false, .ref s.heap.objs.size, rawInt 0, .none, .none] }) rfl
  rw [sz] at e1
  refine ⟨⟨_, e1, rfl⟩, h _ e1 ⟨oi, Heap.get?_push_of_some _ (Heap.get?_push_size _ fr), ?_, ?_⟩ fun b o x => Heap.get?_push_of_some _ (Heap.get?_push_of_some _ x)⟩
  · rw [← hit]
  · rw [← hit]
    rfl
theorem pyNext_enum_stopT {prog : Program} {w : World} {A : Around} {E : Value → Shared → Prop} {s : Shared} {e it l : Addr} {i : Nat} {items : Array Value} {old : Value} {Q : Option Value → Shared → Prop} (hh : A.handled = none)
    (he : IsEnum s.heap e it i old) (hit : s.heap.IsTupleIter it l i) (hl : s.heap.IsTuple l items) (hx : items[i]? = none) (hQ : ∀ h', Heap.ExtBut it s.heap h' → Q none { s with heap := h' }) : wpAny (model prog w) A (pyNext (.ref e)) Q E s := by
  have hT : s.TypeIs (.ref e) "enumerate" := ⟨_, he, rfl⟩
  unfold pyNext
  refine wpAny_bind (wpAny_attempt (wpAny_callSpecial?_slot (name := Str.ofString "__next__") hT F.slot_enumerate_next (wpAny_call_entry F.slot_enumerate_next hT F.entry_enumerate_next ?_ (F.args_enumerate_next_1 _))))
  show wpAny _ _ (field (.ref e) 2 >>= _) _ _ _
  refine wpAny_bind (wpAny_field he rfl (x := .ref it) rfl (wpAny_bind (wpAny_nextOf_tuple_end hh hit hl hx fun h' x eb hc => ?_)))
  obtain ⟨o, ho, hc⟩ := hc
  exact wpAny_bind (wpAny_isInstance (T := "StopIteration") (b := true) ⟨o, ho, hc⟩ isSubtype_stop (wpAny_pure (hQ _ eb)))
/-- the tuple at a, each item in a new pair -/
def IteT (K : PySem.W.Frag) (a : Addr) : It where
  go := fun i H => ∃ (xs : List V) (x : V), SqT K H a xs ∧ xs[i]? = some x
  yld := fun i H v H' => ∃ T x, v = .ref T ∧ H T = none ∧ H' = upd H T (.tup [.int (i : Nat), x]) ∧ ∀ xs, SqT K H a xs → xs[i]? = some x
  stop := fun i H => ∃ xs : List V, SqT K H a xs ∧ xs.length ≤ i
theorem turn_enumT {P : Program} {w : World} {K : PySem.W.Frag} {elts : List Expr} {kk : Nat} {tpos : Pos} (a e it : Addr) :
    Turn P w K (.Tuple elts kk tpos) (IteT K a) [e, it] e (fun i h => (∃ old, IsEnum h e it ((i : Nat) : Int) old) ∧ h.IsTupleIter it a i ∧ e ≠ it ∧ a ≠ it ∧ a ≠ e) where
  mem := by simp
  obj := fun i h st b hb => by
    obtain ⟨⟨old, he⟩, ⟨o, ho, _, hd⟩, _⟩ := st
    rcases (show b = e ∨ b = it by simpa using hb) with rfl | rfl
    · exact ⟨_, he, fun v q => nomatch q⟩
    · exact ⟨o, ho, fun v q => by rw [hd] at q; cases q⟩
  keep := fun i h h' st k => by
    obtain ⟨⟨old, he⟩, hi, r⟩ := st
    exact ⟨⟨old, k e (by simp) _ he⟩, hi.at fun o q => k it (by simp) o q, r⟩
  item := by
    intro X hP hw hK hc i pins s σ H E I hf st hg
    subst hP hw hK
    obtain ⟨⟨old, he⟩, hit, n1, n2, n3⟩ := st
    obtain ⟨xs, x, hq, hx⟩ := hg
    obtain ⟨its, rv, p, _⟩ := I.tuple hq
    obtain ⟨u, hu, ru⟩ := rv.get hx
    have le : e < s.heap.objs.size := Heap.lt_size he
    have li : it < s.heap.objs.size := by
      obtain ⟨_, q, _⟩ := hit
      exact Heap.lt_size q
    have hlt : i < its.toArray.size := by
      have z := (List.getElem?_eq_some_iff.mp hu).1
      simpa using z
    refine wpAny_pyNext_enum_itemD (A := X.A) (Draws.tuple (A := X.A.in1) (I.ok.hd hc) it a n2 its.toArray) he ⟨hit, show s.heap.IsTuple a its.toArray from p⟩ hlt n1 (by simp [n1, n3.symm]) fun x' h' tk hx' ho hst hT hsz hk => ?_
    obtain rfl : x' = u := by
      have z : its.toArray[i]? = some u := by simpa using hu
      exact Option.some.inj (hx'.symm.trans z)
    refine ⟨_, rfl, wpAny_letOwnedTupleGo_enum (s := { s with heap := h', toks := tk + 1 }) ho fun h'' he' sb => ?_⟩
    have hT2 : h''.get? s.heap.objs.size = some { cls := .type "tuple", data := .seq #[.int i tk, x'] } := (sb.2 _ (Nat.ne_of_gt le)).trans hT
    have new : ObjOk X.prog X.w (upd H s.heap.objs.size (.tup [.int (i : Nat), x])) h'' s.heap.objs.size (.tup [.int (i : Nat), x]) :=
      ⟨by show 2 ≤ sizeLine; decide, [.int i tk, x'], .cons ⟨_, rfl⟩ (.cons ru .nil), ⟨_, hT2, rfl, _, rfl⟩⟩
    have I1 : Inv X pins σ (upd H s.heap.objs.size (.tup [.int (i : Nat), x])) { s with heap := h'', toks := tk + 1 } :=
      I.turnedNew (ch := [e, it]) (fun b ob hb q => (sb.2 b (fun z => hb (by simp [z]))).trans (hk b ob (fun z => hb (by simp [z])) (fun z => hb (by simp [z])) q)) hf (Nat.le_refl _) new
    refine ⟨.ref s.heap.objs.size, _, I1, rfl, ⟨_, x, rfl, I.hok.fresh (Nat.le_refl _), rfl, fun ys hy => by rw [I.tuple_inj hy hq]; exact hx⟩, ⟨⟨x', ?_⟩, hst.1.at fun o q => (sb.2 it (Ne.symm n1)).trans q, n1, n2, n3⟩, fun b hb => ?_⟩
    · rw [show ((i + 1 : Nat) : Int) = (i : Int) + 1 by omega]
      exact he'
    · have hb' : b < s.heap.objs.size := by
        rcases (show b = e ∨ b = it by simpa using hb) with rfl | rfl
        · exact le
        · exact li
      rw [upd_ne (Nat.ne_of_lt hb')]
      exact (hf b hb).1
  done := by
    intro X hP hw hK hc i pins s σ H E I hf st hg
    subst hP hw hK
    obtain ⟨⟨old, he⟩, hit, n1, n2, n3⟩ := st
    obtain ⟨xs, hq, hx⟩ := hg
    obtain ⟨its, rv, p, _⟩ := I.tuple hq
    obtain ⟨f0, f1, f2, f3, f4, f5⟩ := hf it (by simp)
    have hl := rv.length
    have hd : its.toArray[i]? = none := by
      simp
      omega
    refine pyNext_enum_stopT (I.ok.hd hc) he hit (show s.heap.IsTuple a its.toArray from p) hd fun h' eb => ⟨rfl, I.turned (t' := s.toks) (fun b o hb q => eb b o hb q) f0 f1 f3 f4 f5⟩
  self := fun A i s Q E st h => by
    obtain ⟨⟨_, he⟩, _⟩ := st
    exact wpAny_pyIter_enum he h
def iEnumT (K : PySem.W.Frag) (ta : TA) : TI := fun σ H R => ta σ H fun vs H1 => ∃ a xs, vs = [.ref a] ∧ SqT K H1 a xs ∧ R (IteT K a) H1
theorem pi_enumT {X : Cx} {e : Expr} {ta : TA} {p pos tpos : Pos} {elts : List Expr} {kk : Nat} (hg : Gl X "enumerate") (hm : X.mg "enumerate" = none) (ha : PA X [e] ta) (hs : starEach [e] X.env = [(false, eval e X.env)] := by rfl) :
    PI X (.Tuple elts kk tpos) (.Call (.Name "enumerate" p) [e] [] pos) (iEnumT X.K ta) := by
  refine ⟨fun pins s σ H R I h => ?_⟩
  refine Call_ (ld_blt I hg hm boot_enumerate (PyProof.Rows.callWith_type1 (thn (ha.run pos pins s σ H _ I h) fun us s1 ⟨vs, H1, I1, r1, q1⟩ => ?_) hs rfl))
  obtain ⟨a, xs, rfl, hq, q⟩ := q1
  obtain ⟨v, rfl, rv⟩ : ∃ v, us = [v] ∧ RelV (.ref a) v := by
    cases r1 with
    | cons r rr =>
      cases rr
      exact ⟨_, rfl, r⟩
  cases rv
  obtain ⟨its, rv, p', hz⟩ := I1.tuple hq
  have pt : s1.heap.IsTuple a its.toArray := p'
  have la : a < s1.heap.objs.size := by
    obtain ⟨o, ho, _⟩ := pt
    exact Heap.lt_size ho
  refine call_enumT pt fun h' he hit hk => wpAny_pyIter_enum he ?_
  have I2 : Inv X pins σ H1 { s1 with heap := h' } := I1.kept (t' := s1.toks) hk
  refine ⟨s1.heap.objs.size + 1, [s1.heap.objs.size + 1, s1.heap.objs.size], _, _, H1, rfl, I2, turn_enumT a (s1.heap.objs.size + 1) s1.heap.objs.size, ⟨⟨.none, he⟩, hit, Nat.succ_ne_self _, Nat.ne_of_lt la, Nat.ne_of_lt (Nat.lt_succ_of_lt la)⟩, fun b hb => ?_, q⟩
  have hle : s1.heap.objs.size ≤ b := by
    rcases (show b = s1.heap.objs.size + 1 ∨ b = s1.heap.objs.size by simpa using hb) with z | z
    · rw [z]
      exact Nat.le_succ _
    · rw [z]
      exact Nat.le_refl _
  exact I1.fpOk hle (I1.hok.fresh hle)
theorem walk_enumT {K : PySem.W.Frag} {a : Addr} {xs : List V} : Walk (IteT K a) xs.length (fun H => SqT K H a xs) (YPair (fun i => some (.int (i : Nat))) (fun i => xs[i]?)) where
  goes := fun i _ hi q => ⟨xs, xs[i], q, by simp [hi]⟩
  stops := fun _ q => ⟨xs, q, Nat.le_refl _⟩
  yields := fun i H v H' _ q y => by
    obtain ⟨T, x, h1, h2, h3, h4⟩ := y
    exact ⟨T, .int (i : Nat), x, h1, h2, h3, rfl, h4 xs q⟩
/-- one of two ways to walk -/
theorem pi_or {X : Cx} {tg it : Expr} {w1 w2 : TI} (h : PI X tg it w1) (k : PI X tg it w2) : PI X tg it (fun σ H R => w1 σ H R ∨ w2 σ H R) := ⟨fun pins s σ H R I q => q.elim (h.run pins s σ H R I) (k.run pins s σ H R I)⟩
end Own

set_option Elab.async false
set_option linter.all false
set_option maxRecDepth 100000
set_option maxHeartbeats 4000000
/-! x == y and x != y, x of a class with an __eq__ of its own and no __ne__: whatever y is, whatever comes of it -/
namespace Own
open PySem PySem.Spec PyProof.Rows L2
section
variable {prog : Program} {w : World} {A : Around} {E : Value → Shared → Prop} {s : Shared} {K : PySem.W.Frag} {x C f : Addr} {ox : Obj} {od : Option Obj} {b : Value}
theorem ne_body (hu : A.units < cLine) (X : K.In s.heap) (I : PySem.W.InstAt s.heap x ox C od) (hs : PySem.W.findIn K (.ref C) "__eq__" = some (some (.ref f))) (hf : PySem.W.isFn K (.ref f) = true) {Q : Fin → Shared → Prop}
    (h : wpAny (model prog w) A (call (.ref f) [.ref x, b]) (fun v s' => ∃ r, v = .bool r ∧ Q (.done (.ret (.bool (!r)))) s') E s) : wpAny (model prog w) A (Builtin.«object.__ne__» ⟨[.ref x, b], []⟩) Q E s := by
  unfold Builtin.«object.__ne__»
  repeat (first
    | with_reducible refine wpAny_cRoomFor hu ?_
    | (refine wpAny_bind (m := callSpecialIfBound? (.ref x) (Str.ofString "__eq__") [b]) (PySem.W.ifBound_K X I hs hf (wpAny_mono h (fun v s' z => ?_) fun _ _ e => e)))
    | wp_step)
  obtain ⟨r, rfl, q⟩ := z
  repeat (first | exact q | exact wpAny_pure q | (refine wpAny_bind (m := truthy (.bool _)) (wpAny_truthy_bool ?_)) | wp_step)
theorem ne_bound {args : List Value} {Q : Option Value → Shared → Prop} (X : K.In s.heap) (I : PySem.W.InstAt s.heap x ox C od) (hs : PySem.W.findIn K (.ref C) "__ne__" = some (some (.builtin "object.__ne__")))
    (h : wpAny (model prog w) A (call (.builtin "object.__ne__") (.ref x :: args)) (fun v => Q (some v)) E s) : wpAny (model prog w) A (callSpecialIfBound? (.ref x) "__ne__" args) Q E s := by
  simp only [callSpecialIfBound?, bindSpecialIfBound?]
  refine wpAny_holding (wpAny_bind (wpAny_bind (wpAny_bind (I.type.here ((PySem.W.looks_findIn X hs).here (wpAny_bind (wpAny_askSetting (wpAny_ite ?_))))))))
  have go : wpAny (model prog w) A (call (.builtin "object.__ne__") ([.ref x] ++ args) >>= fun v => pure (some v)) Q E s := wpAny_bind (wpAny_mono h (fun v s' z => wpAny_pure z) fun _ _ e => e)
  split
  · exact wpAny_bind (wpAny_of_eq (F.cmp_object.ne.bind _) (wpAny_pure (by exact go)))
  · exact wpAny_tryCatch (wpAny_bind (wpAny_of_eq (F.cmp_object.ne.bind _) (wpAny_pure (by exact go))))
end
/-- what is known of a class with an __eq__ of its own and no __ne__ -/
structure Eqs (K : PySem.W.Frag) (C f : Addr) : Prop where
  eq : PySem.W.findIn K (.ref C) "__eq__" = some (some (.ref f))
  fn : PySem.W.isFn K (.ref f) = true
  ne : PySem.W.findIn K (.ref C) "__ne__" = some (some (.builtin "object.__ne__"))
  ob : PySem.W.mroIn K C (.type "object") = some true
def rOwn (K : PySem.W.Frag) (C : Addr) (neg : Bool) (sp : Sp) (E : XK) : R2 := fun x y H Q => ∃ (a dx : Addr) (fs : List (Str × V)) (t : Value), x = .ref a ∧ H a = some (.ins C dx fs) ∧ TyX K H y t ∧ PySem.W.notFirst K C t = true ∧
  sp [x, y] H (fun v H' => ∃ r : Bool, v = .bl r ∧ Q (.bl (if neg = true then !r else r)) H') E
section
variable {X : Cx} {CX : CXT} {n : Nat} {f C : Addr} {fd : FuncData} {ps : List Str} {sp : Sp} {E : XK}
theorem own_call (G : FnOk X.prog X.w X.K X.mg X.base CX n f fd ps sp) (hb : Binds X.K fd ps []) (hx : Passes CX X E) {A : Around} (hA : A.frames = X.A.frames) (hr : Room n A) {pins : List (Addr × Obj)} {σ : L2.St} {H : Hp} {s : Shared} (I : Inv X pins σ H s) {a : Addr} {y : V} {u : Value} (ry : RelV y u) {Q : VK}
    (hsp : sp [.ref a, y] H Q E) : wpAny (model X.prog X.w) A (call (.ref f) [.ref a, u]) (fun v s' => ∃ z H', Inv X pins σ H' s' ∧ RelV z v ∧ Q z H') X.xe s := by
  have e0 : Env0 X.prog X.w X.K X.mg X.base A X.stack s H := by
    have e := I.env0
    exact ⟨by rw [hA]; exact e.frames, e.mod, e.bs, e.bsz, e.funs, e.frf, e.hok, e.bare⟩
  have hl := G.len _ _ _ _ hsp
  have r2 : Vals [V.ref a, y] [Value.ref a, u] := .cons rfl (.cons ry .nil)
  have hbd : BindsTo s fd ⟨[.ref a, u], []⟩ (ps.zip [.ref a, u]) := by
    have z := hb s [.ref a, u] I.kIn (by simpa using hl)
    simpa using z
  refine wpAny_call (codeAny_mono (G.run A X.stack s H ⟨[.ref a, u], []⟩ [.ref a, u] [.ref a, y] _ E hr e0 hbd r2 hsp) fun r s' hq => ?_)
  cases r with
  | error e => exact hx pins σ H s e s' I hq
  | ok fl =>
    cases fl with
    | ret v =>
      obtain ⟨z, H', I', rz, q⟩ := I.after hq
      exact ⟨z, H', I', rz, q⟩
    | next => exact False.elim hq
    | brk => exact False.elim hq
    | cont => exact False.elim hq
theorem op_eqO (S : Eqs X.K C f) (G : FnOk X.prog X.w X.K X.mg X.base CX n f fd ps sp) (hb : Binds X.K fd ps []) (hr : Room n X.A) (hx : Passes CX X E) : OpR X (compareOp .Eq) (rOwn X.K C false sp E) := by
  intro pins s σ H x y v u Q I rx ry hq
  obtain ⟨a, dx, fs, t, rfl, ha, ty, nf, hsp⟩ := hq
  cases rx
  obtain ⟨P, Z, hP, _⟩ := kit_of I ry ty
  obtain ⟨mA, J, _⟩ := ins_get I.hok ha
  obtain ⟨od, J, _⟩ := J.look
  obtain ⟨m, hF⟩ := I.fr
  show wpAny (model X.prog X.w) X.A (richCompare .Eq (.ref a) u) (EP X pins σ Q) X.xe s
  refine PySem.W.cmp_K (op := .Eq) hr.units0 hF I.ok.mod.kin J (Z.ty _ _ I.kIn hP) nf S.eq S.fn (wpAny_mono (own_call G hb hx rfl hr I ry hsp) (fun r s' z => ?_) fun _ _ e => e)
  obtain ⟨z, H', I', rz, b, rfl, q⟩ := z
  cases rz
  exact ⟨.bl b, H', I', rfl, q⟩
theorem op_neO (S : Eqs X.K C f) (G : FnOk X.prog X.w X.K X.mg X.base CX n f fd ps sp) (hb : Binds X.K fd ps []) (hr : Room (n + 1) X.A) (hx : Passes CX X E) : OpR X (compareOp .NotEq) (rOwn X.K C true sp E) := by
  intro pins s σ H x y v u Q I rx ry hq
  obtain ⟨a, dx, fs, t, rfl, ha, ty, nf, hsp⟩ := hq
  cases rx
  obtain ⟨P, Z, hP, _⟩ := kit_of I ry ty
  obtain ⟨mA, J, _⟩ := ins_get I.hok ha
  obtain ⟨od, J, _⟩ := J.look
  show wpAny (model X.prog X.w) X.A (richCompare .NotEq (.ref a) u) (EP X pins σ Q) X.xe s
  have ny := Z.ty (model X.prog X.w) _ I.kIn hP
  have ru : X.A.in1.units < cLine := (hr.in1).units0
  have one : wpAny (model X.prog X.w) X.A (tryCompare (.ref a) "__ne__" u) (fun r s' => ∃ b : Bool, r = some (.bool b) ∧ EP X pins σ Q (.bool b) s') X.xe s := by
    unfold tryCompare
    refine wpAny_bind (ne_bound I.kIn J S.ne (wpAny_call (codeAny_call_builtin F.cmp_object.ne.plain F.cmpEntry_ne (PySem.W.check_slot F.cmpKind_ne F.cmpSplit_ne (J.type.andThen (PySem.W.looks_mroIn I.kIn S.ob)) (F.cmpArgs_ne _ _)
      (ne_body ru I.kIn J S.eq S.fn (wpAny_mono (own_call (A := X.A.in1) G hb hx rfl hr.in1 I ry hsp) (fun r s' z => ?_) fun _ _ e => e))))))
    obtain ⟨z, H', I', rz, b, rfl, q⟩ := z
    cases rz
    exact ⟨b, rfl, wpAny_pure ⟨!b, rfl, .bl (!b), H', I', rfl, q⟩⟩
  simp only [richCompare, cmpInfo_NotEq, oneThing_ref]
  refine wpAny_holding (wpAny_bind (wpAny_cRoomFor hr.units0 ?_))
  refine wpAny_bind (J.type.here (wpAny_bind (ny.here ?_)))
  split
  · rename_i q
    have e : PySem.W.subIn X.K t (.ref C) = some false := by
      rcases Bool.or_eq_true_iff.mp nf with e | e
      · rw [beq_iff_eq.mp e] at q
        simp at q
      · exact beq_iff_eq.mp e
    refine wpAny_bind ((PySem.W.looks_subIn I.kIn e).here ?_)
    simp only [Bool.false_eq_true, if_false]
    refine wpAny_bind (wpAny_mono one (fun r s' z => ?_) fun _ _ e => e)
    obtain ⟨b, rfl, z⟩ := z
    exact wpAny_pure z
  · refine wpAny_bind (wpAny_pure ?_)
    simp only [Bool.false_eq_true, if_false]
    refine wpAny_bind (wpAny_mono one (fun r s' z => ?_) fun _ _ e => e)
    obtain ⟨b, rfl, z⟩ := z
    exact wpAny_pure z
/-- a built-in type is none below an own class -/
theorem notFirst_type {K : PySem.W.Frag} {C : Addr} {T : String} (hT : T ∈ ["NoneType", "bool", "int", "str", "list", "tuple", "dict"]) : PySem.W.notFirst K C (.type T) = true := by
  have key : PySem.W.subIn K (.type T) (.ref C) = some false := by
    simp only [List.mem_cons, List.not_mem_nil, or_false] at hT
    rcases hT with rfl | rfl | rfl | rfl | rfl | rfl | rfl
    · show (fastBuiltinMro "NoneType").map (·.contains (.ref C)) = some false
      rw [show fastBuiltinMro "NoneType" = some [.type "NoneType", .type "object"] by decide +kernel]
      simp
    · show (fastBuiltinMro "bool").map (·.contains (.ref C)) = some false
      rw [show fastBuiltinMro "bool" = some [.type "bool", .type "int", .type "object"] by decide +kernel]
      simp
    · show (fastBuiltinMro "int").map (·.contains (.ref C)) = some false
      rw [show fastBuiltinMro "int" = some [.type "int", .type "object"] by decide +kernel]
      simp
    · show (fastBuiltinMro "str").map (·.contains (.ref C)) = some false
      rw [show fastBuiltinMro "str" = some [.type "str", .type "object"] by decide +kernel]
      simp
    · show (fastBuiltinMro "list").map (·.contains (.ref C)) = some false
      rw [show fastBuiltinMro "list" = some [.type "list", .type "object"] by decide +kernel]
      simp
    · show (fastBuiltinMro "tuple").map (·.contains (.ref C)) = some false
      rw [show fastBuiltinMro "tuple" = some [.type "tuple", .type "object"] by decide +kernel]
      simp
    · show (fastBuiltinMro "dict").map (·.contains (.ref C)) = some false
      rw [show fastBuiltinMro "dict" = some [.type "dict", .type "object"] by decide +kernel]
      simp
  unfold PySem.W.notFirst
  rw [key]
  simp
theorem notFirst_own {K : PySem.W.Frag} {C : Addr} : PySem.W.notFirst K C (.ref C) = true := by
  unfold PySem.W.notFirst
  simp
end
end Own

set_option Elab.async false
set_option linter.all false
set_option maxRecDepth 100000
set_option maxHeartbeats 4000000
/-! list(enumerate(xs)), xs a list: a new list of new pairs -/
namespace Own
open PySem PySem.Spec PyProof.Rows L2
theorem enum_no_len : typeLookup (.type "enumerate") "__len__" = pure none := by rw [typeLookup_type, builtinLookup_eq_fast]; kernel_rfl
theorem enum_no_hint : typeLookup (.type "enumerate") "__length_hint__" = pure none := by rw [typeLookup_type, builtinLookup_eq_fast]; kernel_rfl
/-- the walk before its i-th pair: none given out yet, or the first one held -/
structure EnSt (h : Heap) (e it l S : Addr) (i : Nat) : Prop where
  li : h.IsListIter it l i
  en : (∃ old, IsEnum h e it i old) ∨ ∃ old T f oT, IsEnumHeld h e it i old T f ∧ h.get? T = some oT ∧ T ≠ e ∧ T ≠ it ∧ T ≠ S
theorem EnSt.keep {h h' : Heap} {e it l S : Addr} {i : Nat} (x : EnSt h e it l S i) (k : ∀ b o, b ≠ S → h.get? b = some o → h'.get? b = some o) (n1 : e ≠ S) (n2 : it ≠ S) : EnSt h' e it l S i := by
  refine ⟨x.li.at fun o q => k it o n2 q, ?_⟩
  rcases x.en with ⟨old, he⟩ | ⟨old, T, f, oT, he, hT, r1, r2, r3⟩
  · exact .inl ⟨old, k _ _ n1 he⟩
  · exact .inr ⟨old, T, f, oT, k _ _ n1 he, k _ _ r3 hT, r1, r2, r3⟩
/-- the pairs that were given out, above lo, rising -/
structure EnG (items : Array Value) (lo : Addr) (h : Heap) (as : List Addr) : Prop where
  rise : as.Pairwise (· < ·)
  above : ∀ a ∈ as, lo < a
  pairs : ∀ (j : Nat) (a : Addr), as[j]? = some a → ∃ x t, items[j]? = some x ∧ h.get? a = some { cls := .type "tuple", data := .seq #[.int (j : Nat) t, x] }
theorem EnG.there {items : Array Value} {lo : Addr} {h : Heap} {as : List Addr} (g : EnG items lo h as) {a : Addr} (ha : a ∈ as) : a < h.objs.size := by
  obtain ⟨j, hj⟩ := List.mem_iff_getElem?.mp ha
  obtain ⟨_, _, _, e⟩ := g.pairs j a hj
  exact Heap.lt_size e
section
variable {prog : Program} {w : World} {A : Around} {E : Value → Shared → Prop} {s : Shared} {e it l S : Addr} {i : Nat} {items : Array Value}
theorem en_item {x : Value} {Q : Option Value → Shared → Prop} (st : EnSt s.heap e it l S i) (hl : s.heap.IsList l items) (hS : S < s.heap.objs.size) (hei : e ≠ it) (hle : l ≠ e) (hli : l ≠ it) (hx : items[i]? = some x)
    (hQ : ∀ h' tk t, EnSt h' e it l S (i + 1) → h'.IsList l items → h'.get? s.heap.objs.size = some { cls := .type "tuple", data := .seq #[.int (i : Nat) t, x] } → (∀ b o, b ≠ e → b ≠ it → s.heap.get? b = some o → h'.get? b = some o) →
      Q (some (.ref s.heap.objs.size)) { s with heap := h', toks := tk }) : wpAny (model prog w) A (pyNext (.ref e)) Q E s := by
  obtain ⟨hit, he⟩ := st
  have ec : ((i + 1 : Nat) : Int) = (i : Int) + 1 := by omega
  have nit : s.heap.objs.size ≠ it := let ⟨_, x, _⟩ := hit; Nat.ne_of_gt (Heap.lt_size x)
  rcases he with ⟨old, he⟩ | ⟨old, T, f, oT, he, hT, r1, r2, r3⟩
  · refine wpAny_pyNext_enum_item he hit hl hx hei fun h' ho hit' hT hsz hk => ?_
    exact hQ h' (s.toks + 1) _ ⟨hit', .inr ⟨_, s.heap.objs.size, false, _, (by rw [ec]; exact ho), hT, Nat.ne_of_gt (Heap.lt_size he), nit, Nat.ne_of_gt hS⟩⟩ (hl.at fun o x => hk l o hle hli x) hT hk
  · refine wpAny_pyNext_enum_item_held he hT r1 r2 hit hl hx hei fun h' ho hit' hT' hsz hk => ?_
    exact hQ h' (s.toks + 1) _ ⟨hit', .inr ⟨old, T, true, oT, (by rw [ec]; exact ho), hk _ _ r1 r2 hT, r1, r2, r3⟩⟩ (hl.at fun o x => hk l o hle hli x) hT' hk
theorem en_done {Q : Option Value → Shared → Prop} (hh : A.handled = none) (st : EnSt s.heap e it l S i) (hl : s.heap.IsList l items) (hx : items[i]? = none)
    (hQ : ∀ h', Heap.ExtBut it s.heap h' → Q none { s with heap := h' }) : wpAny (model prog w) A (pyNext (.ref e)) Q E s := by
  obtain ⟨hit, he⟩ := st
  rcases he with ⟨old, he⟩ | ⟨old, T, f, oT, he, hT, r1, r2, r3⟩
  · exact wpAny_pyNext_enum_end hh he hit hl hx hQ
  · exact wpAny_pyNext_enum_end_held hh he hit hl hx hQ
end
section
variable {prog : Program} {w : World} {A : Around} {s : Shared} {R : Result → Shared → Prop} {e it l : Addr} {items : Array Value}
theorem en_loop {S : Addr} (hh : A.handled = none) (heS : e < S) (hiS : it < S) (hlS : l < S) (hei : e ≠ it) (hle : l ≠ e) (hli : l ≠ it) (hn : items.size ≤ sizeLine) (res : Value) {h₁ : Heap}
    (hR : ∀ h' tk acc c as, (∀ b o, b ≠ S → b ≠ e → b ≠ it → h₁.get? b = some o → h'.get? b = some o) → h'.get? S = some { cls := .type "list", dict := none, data := .seq acc c, slots := #[] } → as.length = items.size → EnG items S h' as →
      acc.toList = as.map Value.ref → R (.ok (.ret res)) { s with heap := h', toks := tk }) :
    ∀ (k i : Nat) (h : Heap) (tk c : Nat) (acc : Array Value) (as : List Addr), items.size - i = k → i ≤ items.size → EnSt h e it l S i → h.IsList l items → (∀ b o, b ≠ S → b ≠ e → b ≠ it → h₁.get? b = some o → h.get? b = some o) →
      h.get? S = some { cls := .type "list", dict := none, data := .seq acc c, slots := #[] } → acc.toList = as.map Value.ref → as.length = i → EnG items S h as →
      codeAny (model prog w) A (.builtin "list.extend.loop" ⟨[.ref S, .ref e, res], []⟩) R { s with heap := h, toks := tk } := by
  have ne1 : S ≠ e := Nat.ne_of_gt heS
  have ne2 : S ≠ it := Nat.ne_of_gt hiS
  intro k
  induction k with
  | zero =>
    intro i h tk c acc as hk hi hst hL hkeep hS hacc hal hG
    have hin : i = items.size := by omega
    refine codeAny_builtin PySem.F.entry_extend_loop ?_
    rw [Around.under_plainId PySem.F.plain_extend_loop _]
    show wpAny _ A.in1 (pyNext (.ref e) >>= _) _ _ _
    refine wpAny_bind (en_done (s := { s with heap := h, toks := tk }) (A := A.in1) hh hst hL (Array.getElem?_eq_none (by omega)) fun h' he => ?_)
    refine wpAny_pure (hR h' tk acc c as (fun b o h1 h2 h3 q => he b o h3 (hkeep b o h1 h2 h3 q)) (he S _ ne2 hS) (by omega) ⟨hG.rise, hG.above, fun j a hj => ?_⟩ hacc)
    obtain ⟨x, t, e1, e3⟩ := hG.pairs j a hj
    exact ⟨x, t, e1, he a _ (Nat.ne_of_gt (Nat.lt_trans hiS (hG.above a (List.mem_of_getElem? hj)))) e3⟩
  | succ k ih =>
    intro i h tk c acc as hk hi hst hL hkeep hS hacc hal hG
    have hlt : i < items.size := by omega
    have hsz : acc.size = i := by rw [← Array.length_toList, hacc, List.length_map, hal]
    refine codeAny_builtin PySem.F.entry_extend_loop ?_
    rw [Around.under_plainId PySem.F.plain_extend_loop _]
    show wpAny _ A.in1 (pyNext (.ref e) >>= _) _ _ _
    refine wpAny_bind (en_item (s := { s with heap := h, toks := tk }) (S := S) hst hL (Heap.lt_size hS) hei hle hli (Array.getElem?_eq_getElem hlt) fun h' tk' t hst' hL' ht hkp => ?_)
    dsimp only at ht hkp ⊢
    have hS' := hkp S _ ne1 ne2 hS
    have up : ∀ b o, b ≠ S → h'.get? b = some o → (h'.update S (Obj.mapSeq (·.push (Value.ref h.objs.size)))).get? b = some o := fun b o hb q => (Heap.get?_update_other _ _ (Ne.symm hb)).trans q
    have hSl : S < h.objs.size := Heap.lt_size hS
    show wpAny _ A.in1 (updateSeq S (·.push (Value.ref h.objs.size)) >>= _) _ _ _
    refine wpAny_bind ?_
    refine wpAny_updateSeq hS' rfl (wpAny_pure ⟨plainId_quiet PySem.F.plain_extend_loop _, ih (i + 1) _ tk' _ (acc.push (Value.ref h.objs.size)) (as ++ [h.objs.size]) (by omega) hlt (hst'.keep up ne1.symm ne2.symm) (hL'.at fun o q => up l o (Nat.ne_of_lt hlS) q)
      (fun b o h1 h2 h3 q => up b o h1 (hkp b o h2 h3 (hkeep b o h1 h2 h3 q))) (Heap.get?_update_self _ hS' rfl) (by rw [Array.toList_push, hacc, List.map_append]; rfl) (by rw [List.length_append, hal]; rfl) ⟨?_, ?_, ?_⟩⟩) (by rw [hsz]; omega) (by show (acc.push (Value.ref h.objs.size)).size ≤ sizeLine + 1; rw [Array.size_push, hsz]; omega)
    · refine List.pairwise_append.mpr ⟨hG.rise, List.pairwise_singleton _ _, fun a ha b hb => ?_⟩
      rw [List.mem_singleton.mp hb]
      exact hG.there ha
    · intro a ha
      rcases List.mem_append.mp ha with ha | ha
      · exact hG.above a ha
      · rw [List.mem_singleton.mp ha]; exact hSl
    · intro j b hj
      rcases Nat.lt_trichotomy j as.length with h1 | h1 | h1
      · rw [List.getElem?_append_left h1] at hj
        obtain ⟨x, t2, e1, e3⟩ := hG.pairs j b hj
        have hb := hG.above b (List.mem_of_getElem? hj)
        exact ⟨x, t2, e1, up b _ (Nat.ne_of_gt hb) (hkp b _ (Nat.ne_of_gt (Nat.lt_trans heS hb)) (Nat.ne_of_gt (Nat.lt_trans hiS hb)) e3)⟩
      · subst h1
        have hb : h.objs.size = b := by simpa using hj
        subst hb
        exact ⟨_, t, Array.getElem?_eq_getElem (by omega), by subst hal; exact up _ _ (Nat.ne_of_gt hSl) ht⟩
      · have hnone : (as ++ [h.objs.size])[j]? = none := List.getElem?_eq_none (by rw [List.length_append, List.length_singleton]; omega)
        rw [hnone] at hj; cases hj
end
section
variable {prog : Program} {w : World} {A : Around} {E : Value → Shared → Prop} {s : Shared} {e it l : Addr} {items : Array Value}
theorem en_init {R : Result → Shared → Prop} {S : Addr} (hh : A.handled = none) (he : IsEnum s.heap e it 0 .none) (hit : s.heap.IsListIter it l 0) (hl : s.heap.IsList l items) (heS : e < S) (hiS : it < S) (hlS : l < S) (hei : e ≠ it) (hle : l ≠ e) (hli : l ≠ it)
    (hS : s.heap.get? S = some { cls := .type "list", data := .seq #[] }) (hn : items.size ≤ sizeLine)
    (hR : ∀ h' tk acc c as, (∀ b o, b ≠ S → b ≠ e → b ≠ it → s.heap.get? b = some o → h'.get? b = some o) → h'.get? S = some { cls := .type "list", dict := none, data := .seq acc c, slots := #[] } → as.length = items.size → EnG items S h' as →
      acc.toList = as.map Value.ref → R (.ok (.ret .none)) { s with heap := h', toks := tk }) :
    wpAny (model prog w) A.in1 (Builtin.«list.__init__» ⟨[.ref S, .ref e], []⟩)
      (fun fin s' => match fin with | .done f => R (.ok f) s' | .again c' => c'.quiet = true ∧ codeAny (model prog w) A c' R s') (fun e s' => R (.error e) s') s := by
  show wpAny _ _ (do let old ← Builtin.List.listItems (.ref S); Builtin.List.listUpdate (.ref S) (fun _ => #[]); letGo old.toList.reverse; Builtin.List.listExtendWith (.ref S) (.ref e) .none) _ _ s
  refine wpAny_bind ?_
  unfold Builtin.List.listItems
  refine wpAny_bind (wpAny_seqItems hS rfl (wpAny_pure ?_))
  show wpAny _ _ (updateSeq S (fun _ => #[]) >>= fun _ => letGo (#[] : Array Value).toList.reverse >>= fun _ => Builtin.List.listExtendWith (.ref S) (.ref e) .none) _ _ s
  refine wpAny_bind (wpAny_updateSeq hS rfl ?_)
  have hS₂ := Heap.get?_update_self (Obj.mapSeq (fun _ => (#[] : Array Value))) hS rfl
  have oth : ∀ b o, b ≠ S → s.heap.get? b = some o → (s.heap.update S (Obj.mapSeq (fun _ => (#[] : Array Value)))).get? b = some o :=
    fun b o hb q => (Heap.get?_update_other _ _ (Ne.symm hb)).trans q
  refine wpAny_bind (wpAny_letGo ?_)
  have he₂ : IsEnum (s.heap.update S (Obj.mapSeq (fun _ => (#[] : Array Value)))) e it 0 .none := oth e _ (Nat.ne_of_lt heS) he
  have hit₂ := hit.at (h' := s.heap.update S (Obj.mapSeq (fun _ => (#[] : Array Value)))) fun o q => oth it o (Nat.ne_of_lt hiS) q
  have hl₂ := hl.at (h' := s.heap.update S (Obj.mapSeq (fun _ => (#[] : Array Value)))) fun o q => oth l o (Nat.ne_of_lt hlS) q
  generalize s.heap.update S (Obj.mapSeq (fun _ => (#[] : Array Value))) = h2 at hS₂ oth he₂ hit₂ hl₂ ⊢
  replace hS₂ : h2.get? S = some { cls := .type "list", dict := none, data := .seq #[] 0, slots := #[] } := hS₂
  have key : ∀ (h : Heap) (c₁ tk : Nat), (∀ b o, b ≠ S → h2.get? b = some o → h.get? b = some o) → h.get? S = some { cls := .type "list", data := .seq #[] c₁ } →
      codeAny (model prog w) A (.builtin "list.extend.loop" ⟨[.ref S, .ref e, .none], []⟩) R { s with heap := h, toks := tk } := fun h c₁ tk hk hS₁ =>
    en_loop (s := s) (h₁ := s.heap) hh heS hiS hlS hei hle hli hn .none hR items.size 0 h tk c₁ #[] [] (Nat.sub_zero _) (Nat.zero_le _)
      ⟨hit₂.at fun o q => hk it o (Nat.ne_of_lt hiS) q, .inl ⟨.none, hk e _ (Nat.ne_of_lt heS) he₂⟩⟩ (hl₂.at fun o q => hk l o (Nat.ne_of_lt hlS) q) (fun b o h1 _ _ q => hk b o h1 (oth b o h1 q)) hS₁ rfl rfl
      ⟨List.Pairwise.nil, (fun _ ha => nomatch ha), (fun j a hj => by simp at hj)⟩
  have hT : ∀ {g d tk os}, (⟨h2, g, d, tk, os⟩ : Shared).TypeIs (.ref e) "enumerate" := fun {_ _ _ _} => ⟨_, he₂, rfl⟩
  unfold Builtin.List.listExtendWith
  refine wpAny_bind (wpAny_typeOf (T := "enumerate") hT ?_)
  have h1 : Builtin.List.listSameRef (.ref S) (.ref e) = false := by simp [Builtin.List.listSameRef, Nat.ne_of_gt heS]
  have h2' : (Value.type "enumerate" == Value.type "list") = false := by decide
  have h3 : (Value.type "enumerate" == Value.type "tuple") = false := by decide
  simp only [h1, h2', h3, Bool.or_false, Bool.false_eq_true, if_false]
  refine wpAny_bind (wpAny_pyIter_enum he₂ ?_)
  refine wpAny_bind (wpAny_holding ?_)
  unfold Builtin.List.listLengthHint
  refine wpAny_bind (wpAny_specialOf hT enum_no_len ?_)
  show wpAny _ A.in1 (specialOf (Value.ref e) (Str.ofString "__length_hint__") >>= _) _ _ _
  refine wpAny_bind (wpAny_specialOf hT enum_no_hint ?_)
  refine wpAny_pure ?_
  show wpAny _ A.in1 (rule "list.extend.makes-room" >>= fun _ => Builtin.List.listTouch (.ref S) >>= fun _ => again (.builtin "list.extend.loop" ⟨[.ref S, .ref e, .none], []⟩)) _ _ _
  refine wpAny_bind (wpAny_rule ?_)
  refine wpAny_bind ?_
  show wpAny _ _ (updateSeq S (·.push .none) >>= fun _ => updateSeq S (·.pop)) _ _ _
  refine wpAny_bind (wpAny_updateSeq hS₂ rfl ?_)
  have hS₃ := Heap.get?_update_self (Obj.mapSeq (·.push Value.none)) hS₂ rfl
  refine wpAny_updateSeq (hz := by seq_fits) hS₃ rfl ?_
  have hS₄ := Heap.get?_update_self (Obj.mapSeq (·.pop)) hS₃ rfl
  refine wpAny_pure ⟨plainId_quiet PySem.F.plain_extend_loop _, key _ _ _ (fun b o hb q => ?_) hS₄⟩
  exact (Heap.get?_update_other _ _ (Ne.symm hb)).trans ((Heap.get?_update_other _ _ (Ne.symm hb)).trans q)
theorem en_call {Q : Value → Shared → Prop} (hh : A.handled = none) (he : IsEnum s.heap e it 0 .none) (hit : s.heap.IsListIter it l 0) (hl : s.heap.IsList l items) (hei : e ≠ it) (hle : l ≠ e) (hli : l ≠ it) (hn : items.size ≤ sizeLine)
    (hQ : ∀ h' tk acc c as, (∀ b o, b ≠ e → b ≠ it → s.heap.get? b = some o → h'.get? b = some o) → h'.get? s.heap.objs.size = some { cls := .type "list", dict := none, data := .seq acc c, slots := #[] } → as.length = items.size → EnG items s.heap.objs.size h' as →
      acc.toList = as.map Value.ref → Q (.ref s.heap.objs.size) { s with heap := h', toks := tk }) :
    wpAny (model prog w) A (call (.type "list") [.ref e]) Q E s := by
  refine callType_codes (Q₁ := fun obj s₁ => obj = .ref s.heap.objs.size ∧ s₁ = { s with heap := s.heap.push { cls := .type "list", data := .seq #[] } }) PySem.F.called_list (PySem.F.typeCall_list_1 _) PySem.F.entry_list_init
    (code_list_new _ ⟨rfl, rfl⟩) fun obj s₁ h₁ => ?_
  obtain ⟨rfl, rfl⟩ := h₁
  have hS : (s.heap.push { cls := .type "list", data := .seq #[] }).get? s.heap.objs.size = some { cls := .type "list", data := .seq #[] } := Heap.get?_push_size _ rfl
  have l1 : e < s.heap.objs.size := Heap.lt_size he
  have l2 : it < s.heap.objs.size := let ⟨_, ho, _⟩ := hit; Heap.lt_size ho
  have l3 : l < s.heap.objs.size := let ⟨_, ho, _⟩ := hl; Heap.lt_size ho
  refine ⟨⟨_, hS, rfl⟩, PySem.F.args_list_init_2 _ _, en_init (A := A.in1) (items := items) (l := l) (it := it) hh (Heap.get?_push_of_some _ he) (hit.at fun o q => Heap.get?_push_of_some _ q) (hl.at fun o q => Heap.get?_push_of_some _ q) l1 l2 l3 hei hle hli hS hn (fun h' tk acc c as hk hS' hl' hG hacc => ?_)⟩
  exact ⟨rfl, hQ h' tk acc c as (fun b o n1 n2 q => hk b o (Nat.ne_of_lt (Heap.lt_size q)) n1 n2 (Heap.get?_push_of_some _ q)) hS' hl' hG hacc⟩
end
/-- the pairs as entries by their place -/
def enK : Nat → List V → List (Key × V)
  | _, [] => []
  | n, x :: r => (Sum.inl (n : Int), x) :: enK (n + 1) r
theorem enK_len : ∀ (n : Nat) (xs : List V), (enK n xs).length = xs.length
  | _, [] => rfl
  | n, x :: r => congrArg (· + 1) (enK_len (n + 1) r)
theorem enK_at : ∀ (n : Nat) (xs : List V) (j : Nat) (x : V), xs[j]? = some x → (enK n xs)[j]? = some (Sum.inl ((n + j : Nat) : Int), x)
  | n, y :: r, 0, x, h => by
    obtain rfl := Option.some.inj h
    rfl
  | n, y :: r, j + 1, x, h => by
    have z := enK_at (n + 1) r j x h
    rw [show n + 1 + j = n + (j + 1) by omega] at z
    exact z
def tListEnum (K : PySem.W.Frag) (ta : TA) : TE := fun σ H Q => ta σ H fun vs H1 => ∃ a xs, vs = [.ref a] ∧ SqL K H1 a xs ∧
  ∀ (H' : Hp) (p : Addr) (ts : List Addr), (∀ b o, H1 b = some o → H' b = some o) → H1 p = none → (∀ t ∈ ts, H1 t = none) → p ∉ ts → H' p = some (.lst (ts.map V.ref)) → ts.length = xs.length →
    (∀ (j : Nat) t x, ts[j]? = some t → xs[j]? = some x → H' t = some (.tup [.int (j : Nat), x])) → Q (.ref p) H'
section
variable {X : Cx} {e : Expr} {te : TA} {p p2 pos pos2 : Pos}
theorem enum_laid {pins : List (Addr × Obj)} {σ : L2.St} {H : Hp} {s : Shared} {h' : Heap} {tk : Nat} {xs : List V} {us : List Value} {acc : Array Value} {c : Nat} {as : List Addr} {S : Addr} (I : Inv X pins σ H s) (lS : s.heap.objs.size ≤ S) (hz : xs.length ≤ sizeLine) (rv : Vals xs us)
    (hk : ∀ b o, s.heap.get? b = some o → h'.get? b = some o) (hS : h'.get? S = some { cls := .type "list", dict := none, data := .seq acc c, slots := #[] }) (hl : as.length = us.length) (hG : EnG us.toArray S h' as) (hacc : acc.toList = as.map Value.ref) :
    ∃ H' : Hp, (∀ b o, H b = some o → H' b = some o) ∧ H S = none ∧ (∀ t ∈ as, H t = none) ∧ S ∉ as ∧ H' S = some (.lst (as.map V.ref)) ∧ (∀ (j : Nat) t x, as[j]? = some t → xs[j]? = some x → H' t = some (.tup [.int (j : Nat), x])) ∧ Inv X pins σ H' { s with heap := h', toks := tk } := by
  have lk : xs.length = us.length := rv.length
  have hSn : S ∉ as := fun z => Nat.lt_irrefl _ (hG.above _ z)
  have nd : as.Nodup := List.Pairwise.imp (fun {a b} (h : a < b) => Nat.ne_of_lt h) hG.rise
  have new : ∀ t ∈ as, H t = none := fun t ht => I.hok.fresh (Nat.le_trans lS (Nat.le_of_lt (hG.above t ht)))
  have newS : H S = none := I.hok.fresh lS
  have atP := LiI.putT_at as (enK 0 xs) (upd H S (.lst (as.map V.ref))) (by rw [enK_len]; omega) nd
  have off : ∀ b, b ∉ as → b ≠ S → LiI.putT (upd H S (.lst (as.map V.ref))) as (enK 0 xs) b = H b := fun b h1 h2 => by rw [LiI.putT_off as _ _ h1, upd_ne h2]
  have low : ∀ b o, s.heap.get? b = some o → b ∉ as ∧ b ≠ S := fun b o q => ⟨fun z => absurd (Heap.lt_size q) (Nat.not_lt.mpr (Nat.le_trans lS (Nat.le_of_lt (hG.above b z)))), Nat.ne_of_lt (Nat.lt_of_lt_of_le (Heap.lt_size q) lS)⟩
  have kp : ∀ b u, H b = some u → (LiI.putT (upd H S (.lst (as.map V.ref))) as (enK 0 xs)) b = some u := fun b u q => by
    rw [off b (fun z => by rw [new b z] at q; cases q) (fun z => by rw [z, newS] at q; cases q)]
    exact q
  have eS : LiI.putT (upd H S (.lst (as.map V.ref))) as (enK 0 xs) S = some (.lst (as.map V.ref)) := by rw [LiI.putT_off as _ _ hSn, upd_same]
  have at2 : ∀ (j : Nat) t x, as[j]? = some t → xs[j]? = some x → LiI.putT (upd H S (.lst (as.map V.ref))) as (enK 0 xs) t = some (.tup [.int (j : Nat), x]) := fun j t x e1 e2 => by
    obtain ⟨pk, f1, f2⟩ := LiI.paired_get atP e1
    have z := enK_at 0 xs j x e2
    rw [f1] at z
    rw [Option.some.inj z, Nat.zero_add] at f2
    exact f2
  refine ⟨LiI.putT (upd H S (.lst (as.map V.ref))) as (enK 0 xs), kp, newS, new, hSn, eS, at2, ?_⟩
  refine I.call' (ch := []) rfl ⟨fun b o q _ _ _ => hk b o q, fun b o q _ _ _ => ⟨o.slots, hk b o q⟩, fun b o q n _ => ?_, fun b o q _ => ⟨o, hk b o q⟩, fun b xs q => kp b _ q, fun b o u q => kp b _ q, fun b ps q => ⟨#[], by rw [kp b _ q]; simp⟩⟩ (fun b u q => ?_) I.bare fun b z => by simp at z
  · obtain ⟨z1, z2⟩ := low b o q
    rw [off b z1 z2]
    exact n
  · by_cases hb : b ∈ as
    · obtain ⟨j, e1⟩ := List.mem_iff_getElem?.mp hb
      obtain ⟨v, t, f1, f3⟩ := hG.pairs j b e1
      have f1' : us[j]? = some v := by simpa using f1
      obtain ⟨x, g1, g2⟩ : ∃ x, xs[j]? = some x ∧ RelV x v := by
        have hj : j < xs.length := by
          have := (List.getElem?_eq_some_iff.mp f1').1
          omega
        obtain ⟨u, hu, ru⟩ := rv.get (List.getElem?_eq_getElem hj)
        rw [f1'] at hu
        exact ⟨_, List.getElem?_eq_getElem hj, by rw [Option.some.inj hu]; exact ru⟩
      rw [at2 j b x e1 g1] at q
      cases q
      exact ⟨by show 2 ≤ sizeLine; decide, [.int (j : Nat) t, v], .cons ⟨_, rfl⟩ (.cons g2 .nil), ⟨_, f3, rfl, _, rfl⟩⟩
    · by_cases hb2 : b = S
      · rw [hb2] at q ⊢
        rw [eS] at q
        cases q
        refine ⟨by rw [List.length_map]; omega, acc.toList, c, by rw [hacc]; exact LiI.vals_refs as, ?_⟩
        rw [Array.toArray_toList]
        exact hS
      · rw [off b hb hb2] at q
        exact (I.hok b u q).stay (fun d v _ y => hk d v y) (fun d y => kp d _ y) fun d xs y => kp d _ y
/-- list(enumerate(e)) -/
theorem pe_listEnum (hc : X.calm = true) (he : PA X [e] te) (hg : Gl X "list") (hm : X.mg "list" = none) (hv : bootBuiltins "list" = some (.type "list")) (hg2 : Gl X "enumerate") (hm2 : X.mg "enumerate" = none) (hs : starEach [e] X.env = [(false, eval e X.env)] := by rfl)
    (ht : starEach [.Call (.Name "enumerate" p2) [e] [] pos2] X.env = (false, eval (.Call (.Name "enumerate" p2) [e] [] pos2) X.env) :: starEach [] X.env := by rfl) :
    PE X (.Call (.Name "list" p) [.Call (.Name "enumerate" p2) [e] [] pos2] [] pos) (tListEnum X.K te) := by
  refine ⟨fun pins s σ H Q I hq => ?_⟩
  refine wpAny_Call_Name_kw (ld_blt I hg hm hv ?_)
  refine PyProof.Rows.callWith_type1 ?_ ht rfl
  rw [ht]
  show wpAny _ _ (spliced ((false, eval (.Call (.Name "enumerate" p2) [e] [] pos2) X.env) :: backTo pos (starEach [] X.env))) _ _ s
  refine Calls.spliced_cons ?_
  refine Call_ (ld_blt I hg2 hm2 boot_enumerate (PyProof.Rows.callWith_type1 (thn (he.run pos2 pins s σ H _ I hq) fun us s1 ⟨vs, H1, I1, r1, q1⟩ => ?_) hs rfl))
  obtain ⟨a, xs, ex, hx, q⟩ := q1
  subst ex
  cases r1 with
  | cons r rr =>
    cases rr
    cases r
    obtain ⟨its, rv, p', hz⟩ := I1.list hx
    have la : a < s1.heap.objs.size := by
      obtain ⟨_, ho, _⟩ := p'.isList
      exact Heap.lt_size ho
    refine call_enumerate_list p'.isList fun h' hen hit hsz hk => ?_
    refine Calls.spliced_nil ?_
    have hl' : h'.IsList a its.toArray := p'.isList.at fun o q => hk _ o q
    refine en_call (s := { s1 with heap := h' }) (l := a) (I1.ok.hd hc) hen hit hl' (Nat.succ_ne_self _) (Nat.ne_of_lt (Nat.lt_succ_of_lt la)) (Nat.ne_of_lt la) (by have := rv.length; simp; omega) fun h2 tk acc c as hk2 hS hl hG hacc => ?_
    have ls : s1.heap.objs.size ≤ h'.objs.size := by omega
    obtain ⟨H', k1, k2, k3, k4, k5, k6, J⟩ := enum_laid (tk := tk) I1 ls hz rv (fun b o q => hk2 b o (Nat.ne_of_lt (Nat.lt_succ_of_lt (Heap.lt_size q))) (Nat.ne_of_lt (Heap.lt_size q)) (hk b o q)) hS (by rw [hl]; simp) hG hacc
    exact ⟨.ref _, H', J, rfl, q H' _ as k1 k2 k3 k4 k5 (by have := rv.length; rw [hl]; simp; omega) k6⟩
end
end Own

set_option Elab.async false
set_option linter.all false
set_option maxRecDepth 100000
namespace K01
open PySem PySem.Spec PyProof.Rows L2 Own
def topS (i : Nat) : Stmt := PySem.Challenge.pw_lastbell_k01_whole_houses_made.main.body.getD i (.Pass ⟨0, 0, 0, 0⟩)
abbrev sStream : Stmt := topS 18
abbrev sDraw : Stmt := topS 19
abbrev sPick : Stmt := topS 20
abbrev sMixed : Stmt := topS 21
abbrev sStepping : Stmt := topS 24
abbrev sHouse : Stmt := topS 25
abbrev sIsInt : Stmt := topS 6
abbrev sIsNum : Stmt := topS 7
abbrev sIsList : Stmt := topS 8
abbrev sIsPlace : Stmt := topS 11
abbrev sIsRoad : Stmt := topS 12
abbrev sIsDoor : Stmt := topS 13
abbrev sWrongRoad : Stmt := topS 14
abbrev sComes : Stmt := topS 15
abbrev sWrongDoor : Stmt := topS 16
abbrev sInit : Stmt := inClass (topS 10) 0
abbrev sSame : Stmt := topS 22
abbrev sLaw : Stmt := topS 30
abbrev sLoose : Stmt := topS 23
abbrev sMade : Stmt := topS 26
abbrev sTells : Stmt := topS 27
abbrev sKept : Stmt := topS 28
abbrev sOthers : Stmt := topS 29
abbrev sPlaces : Stmt := inClass (topS 10) 1
abbrev sRoads : Stmt := inClass (topS 10) 2
abbrev sDoors : Stmt := inClass (topS 10) 3
abbrev sHEq : Stmt := inClass (topS 10) 4
/-- the names that the law's helpers use must be the built-in ones -/
structure Bt (mg : Str → Option Value) : Prop where
  abs : mg "abs" = none
  int : mg "int" = none
  list : mg "list" = none
  len : mg "len" = none
  isi : mg "isinstance" = none
  tuple : mg "tuple" = none
  dict : mg "dict" = none
  bool : mg "bool" = none
  all : mg "all" = none
  zip : mg "zip" = none
  range : mg "range" = none
  enum : mg "enumerate" = none
  max : mg "max" = none
  str : mg "str" = none
  min : mg "min" = none
/-- all that was tracked stays but what stands at a and l -/
def But2 (a l : Addr) (H H' : Hp) : Prop := ∀ b o, b ≠ a → b ≠ l → H b = some o → H' b = some o
theorem But2.trans {a l : Addr} {H H1 H2 : Hp} (x : But2 a l H H1) (y : But2 a l H1 H2) : But2 a l H H2 := fun b o h1 h2 e => y b o h1 h2 (x b o h1 h2 e)
/-- the stream of draws: its list at a, the cells that are left at l -/
structure Strm (N : Int) (H : Hp) (a l : Addr) : Prop where
  ex : ∃ (xs : List Int) (c n m : Int), H a = some (.lst [.ref l, .int c, .int n, .int m]) ∧ H l = some (.lst (xs.map V.int)) ∧ xs.length ≤ 63 ∧ 0 ≤ c ∧ 0 ≤ n ∧ n ≤ N ∧ 0 ≤ m ∧ m < 2147483647
theorem Strm.ne {N : Int} {H : Hp} {a l : Addr} (x : Strm N H a l) : a ≠ l := by
  obtain ⟨xs, c, n, m, h1, h2, _⟩ := x.ex
  refine ne_of h1 h2 fun z => ?_
  have z1 := HO.lst.inj z
  cases xs with
  | nil => cases z1
  | cons y ys => cases z1
theorem Strm.mono {N M : Int} {H : Hp} {a l : Addr} (x : Strm N H a l) (h : N ≤ M) : Strm M H a l := by
  obtain ⟨xs, c, n, m, h1, h2, h3, h4, h5, h6, h7⟩ := x.ex
  exact ⟨xs, c, n, m, h1, h2, h3, h4, h5, Int.le_trans h6 h, h7⟩
theorem Strm.keep {N : Int} {H H' : Hp} {a l : Addr} (x : Strm N H a l) (k : ∀ b o, H b = some o → (∀ t, o ≠ .tbl t) → H' b = some o) : Strm N H' a l := by
  obtain ⟨xs, c, n, m, h1, h2, h3⟩ := x.ex
  exact ⟨xs, c, n, m, k _ _ h1 (fun t z => by cases z), k _ _ h2 (fun t z => by cases z), h3⟩
/-! ### lists of ints and of bools as data -/
theorem dp_ints {K : PySem.W.Frag} {H : Hp} : ∀ xs : List Int, DpAll K H (xs.map V.int) (xs.map PyData.int)
  | [] => .nil
  | x :: r => .cons (.int x) (dp_ints r)
theorem dp_bls {K : PySem.W.Frag} {H : Hp} : ∀ xs : List Bool, DpAll K H (xs.map V.bl) (xs.map PyData.bool)
  | [] => .nil
  | x :: r => .cons (.bl x) (dp_bls r)
theorem lay_ints : ∀ xs : List Int, PyData.canLayAll0 (xs.map PyData.int) = true ∧ PyData.depthAll (xs.map PyData.int) = 0
  | [] => ⟨rfl, rfl⟩
  | x :: r => by
    obtain ⟨h1, h2⟩ := lay_ints r
    constructor
    · show (PyData.canLay0 (.int x) && PyData.canLayAll0 (r.map PyData.int)) = true
      rw [h1] <;> rfl
    · show max (PyData.depth (.int x)) (PyData.depthAll (r.map PyData.int)) = 0
      rw [h2] <;> rfl
theorem lay_bls : ∀ xs : List Bool, PyData.canLayAll0 (xs.map PyData.bool) = true ∧ PyData.depthAll (xs.map PyData.bool) = 0
  | [] => ⟨rfl, rfl⟩
  | x :: r => by
    obtain ⟨h1, h2⟩ := lay_bls r
    constructor
    · show (PyData.canLay0 (.bool x) && PyData.canLayAll0 (r.map PyData.bool)) = true
      rw [h1] <;> rfl
    · show max (PyData.depth (.bool x)) (PyData.depthAll (r.map PyData.bool)) = 0
      rw [h2] <;> rfl
theorem sh_list {ds : List PyData} (h1 : PyData.canLayAll0 ds = true) (h2 : PyData.depthAll ds = 0) : SeqAt.shaped (.list ds) = true := by
  show (PyData.canLayAll0 ds && decide (PyData.depthAll ds + 1 ≤ 64)) = true
  rw [h1, h2]
  rfl
theorem sh_ints (xs : List Int) : SeqAt.shaped (.list (xs.map PyData.int)) = true := sh_list (lay_ints xs).1 (lay_ints xs).2
theorem sh_bls (xs : List Bool) : SeqAt.shaped (.list (xs.map PyData.bool)) = true := sh_list (lay_bls xs).1 (lay_bls xs).2
theorem eqv_bls : ∀ xs : List Bool, PyData.eqvAll (xs.map PyData.bool) (xs.map PyData.bool) = true
  | [] => rfl
  | x :: r => by
    show ((x == x) && PyData.eqvAll (r.map PyData.bool) (r.map PyData.bool)) = true
    rw [eqv_bls r, beq_self_eq_true] <;> rfl
end K01

set_option Elab.async false
set_option linter.all false
set_option maxRecDepth 100000
set_option maxHeartbeats 2000000
namespace K01
open PySem PySem.Spec PyProof.Rows L2 Own
theorem scDraw : FnScope ["_law_stream_here", "_law_many", "_law_cell", "_law_digit", "_law_mixed_here"] ["_law_stream_here", "_law_many"] (defScope sDraw) := ⟨rfl, rfl, rfl, by decide +kernel, rfl, by decide +kernel, by decide +kernel⟩
theorem scPick : FnScope ["_law_stream_here", "_law_things"] ["_law_stream_here", "_law_things"] (defScope sPick) := ⟨rfl, rfl, rfl, by decide +kernel, rfl, by decide +kernel, by decide +kernel⟩
theorem scStream : FnScope ["_law_script"] ["_law_script"] (defScope sStream) := ⟨rfl, rfl, rfl, by decide +kernel, rfl, by decide +kernel, by decide +kernel⟩
def spStream (K : PySem.W.Frag) : Sp := fun vs H Q _ => ∃ (s : Addr) (ns : List Int), vs = [.ref s] ∧ SqL K H s (ns.map V.int) ∧ ns.length ≤ 63 ∧
  ∀ H' a l, Same H H' → H a = none → H l = none → Strm 0 H' a l → Q (.ref a) H'
def spDraw : Sp := fun vs H Q _ => ∃ (a l : Addr) (N many : Int), vs = [.ref a, .int many] ∧ Strm N H a l ∧ 0 ≤ N ∧ N ≤ 1000000000 ∧ 0 < many ∧ many < 1073741824 ∧
  ∀ H' d, 0 ≤ d → d < many → But2 a l H H' → Strm (N + 1) H' a l → Q (.int d) H'
def spPick : Sp := fun vs H Q _ => ∃ (a l p : Addr) (N : Int) (xs : List V), vs = [.ref a, .ref p] ∧ Strm N H a l ∧ 0 ≤ N ∧ N ≤ 1000000000 ∧ p ≠ a ∧ p ≠ l ∧ H p = some (.lst xs) ∧ 0 < xs.length ∧ xs.length ≤ 1000 ∧
  ∀ H' v, v ∈ xs → But2 a l H H' → Strm (N + 1) H' a l → Q v H'
section
variable {P : Program} {w : World} {K : PySem.W.Frag} {mg : Str → Option Value} {base : Heap}
theorem ok_stream {f : Addr} {fd : FuncData} (F : Fun K "_law_stream" "_law_stream" sStream f fd) (T : Bt mg) : FnOk P w K mg base CX0 1 f fd ["_law_script"] (spStream K) := by
  refine F.ok scStream (fun vs H Q E h => ?_) (fun cdv A outer s H vs Q E hr h => ?_)
  · obtain ⟨s, ns, rfl, _⟩ := h
    rfl
  · obtain ⟨s0, ns, rfl, hS, hl, k⟩ := h
    refine ⟨_, pss_one (ps_ret (pe_lst (pa_cons (pe_callTy call_list_of (by rfl) T.list (by decide +kernel) (pa_cons (pv 0) pa_nil)) (pa_cons pe_int (pa_cons pe_int (pa_cons pe_int pa_nil)))))), ?_⟩
    refine ⟨_, rfl, s0, _, rfl, .inl hS, fun l hl0 => ⟨by show 4 ≤ sizeLine; decide, fun a ha => ?_⟩⟩
    have nal : a ≠ l := fun z => by
      rw [z, upd_same] at ha
      cases ha
    have ha0 : H a = none := by
      rw [upd_ne nal] at ha
      exact ha
    refine k _ a l (fun b o e => ?_) ha0 hl0 ⟨ns, 0, 0, 17, upd_same, ?_, hl, by decide, by decide, by decide, by decide, by decide⟩
    · rw [upd_ne (ne_of_none e ha0), upd_ne (ne_of_none e hl0)]
      exact e
    · rw [upd_ne nal.symm]
      exact upd_same
theorem but2_set {a l : Addr} {H H1 : Hp} {o : HO} (b : But2 a l H H1) : But2 a l H (upd H1 a o) := fun x y h1 h2 e => by
  rw [upd_ne h1]
  exact b x y h1 h2 e
theorem but2_setl {a l : Addr} {H H1 : Hp} {o : HO} (b : But2 a l H H1) : But2 a l H (upd H1 l o) := fun x y h1 h2 e => by
  rw [upd_ne h2]
  exact b x y h1 h2 e
theorem but2_new {a l p : Addr} {H H1 : Hp} {o : HO} (b : But2 a l H H1) (hp : H1 p = none) : But2 a l H (upd H1 p o) := fun x y h1 h2 e => by
  have z := b x y h1 h2 e
  rw [upd_ne (ne_of_none z hp)]
  exact z
theorem seq0 (n : Nat) : seqIndex? 0 (n + 1) = some 0 := by
  refine (ixN_seq (n := n + 1) (i := 0) (j := 0) ?_).1
  unfold ixN
  rw [if_pos (Int.le_refl 0), if_pos (by omega)]
  rfl
/-- the stream's state within a draw -/
structure Mid (a l : Addr) (n : Int) (H H' : Hp) (xs : List Int) (c m : Int) : Prop where
  ha : H' a = some (.lst [.ref l, .int c, .int n, .int m])
  hl : H' l = some (.lst (xs.map V.int))
  len : xs.length ≤ 63
  c0 : 0 ≤ c
  m0 : 0 ≤ m
  m1 : m < 2147483647
  but : But2 a l H H'
theorem Mid.ne {a l : Addr} {n : Int} {H H' : Hp} {xs : List Int} {c m : Int} (M : Mid a l n H H' xs c m) : a ≠ l := by
  refine ne_of M.ha M.hl fun z => ?_
  have z1 := HO.lst.inj z
  cases xs with
  | nil => cases z1
  | cons y ys => cases z1
theorem ok_draw {f : Addr} {fd : FuncData} (F : Fun K "_law_draw" "_law_draw" sDraw f fd) (T : Bt mg) : FnOk P w K mg base CX0 1 f fd ["_law_stream_here", "_law_many"] spDraw := by
  refine F.ok scDraw (fun vs H Q E h => ?_) (fun cdv A outer s H vs Q E hr h => ?_)
  · obtain ⟨a, l, N, many, rfl, _⟩ := h
    rfl
  · obtain ⟨a, l, N, many, rfl, S, hN0, hN1, hm0, hm1, k⟩ := h
    have nal := S.ne
    obtain ⟨xs, c, n, m, h1, h2, h3, h4, h5, h6, h7, h8⟩ := S.ex
    refine ⟨_, pss_cons (ps_asg (pe_op op_add (pe_ix ix_list (pv 0) pe_int (fun _ _ => rfl)) pe_int) (pg_sub (pv 0) pe_int set_list))
      (Evl.pss_cut (ps_while PassesOwn.never (PW.pt (pw_and (pt_cmpR op_eq (pe_ix ix_list (pv 0) pe_int (fun _ _ => rfl)) pe_int (nomark _)) (pw_and1 (pt_cmpR (op_neD hr.units) (pe_ix ix_list (pv 0) pe_int (fun _ _ => rfl)) (pe_lst pa_nil) (nomark _)))))
        (pss_cons (ps_set (i := 2) scDraw.nd rfl (Or.inl rfl) (pe_callB call_abs (by rfl) T.abs (by decide +kernel) (pa_cons (pe_bm PySem.F.plainAttrs_list PySem.F.slot_list_pop PySem.F.type_list_pop mt_popAt (pe_ix ix_list (pv 0) pe_int (fun _ _ => rfl)) (pa_cons pe_int pa_nil)) pa_nil)))
        (pss_cons (ps_asg (pe_op op_mod (pe_callTy call_int1 (by rfl) T.int (by decide +kernel) (pa_cons (pe_op op_add (pe_op op_add (pe_op op_mul (pe_ix ix_list (pv 0) pe_int (fun _ _ => rfl)) pe_int) (pv 2)) pe_int) pa_nil)) pe_int) (pg_sub (pv 0) pe_int set_list))
        (pss_one (ps_asg (pe_ifExp (pt_cmpR op_ge (pv 2) (pe_op op_pow pe_int pe_int) (nomark _)) (pv 2) pe_int) (pg_sub (pv 0) pe_int set_list))))))
      (pss_cons (ps_if (pt_cmpR op_gt (pe_ix ix_list (pv 0) pe_int (fun _ _ => rfl)) pe_int (nomark _))
        (pss_cons (ps_set (i := 3) scDraw.nd rfl (Or.inl rfl) (pe_op op_modN (pe_callTy call_int1 (by rfl) T.int (by decide +kernel) (pa_cons (pe_ix ix_list (pv 0) pe_int (fun _ _ => rfl)) pa_nil)) (pv 1)))
        (pss_cons (ps_asg (pe_op op_fdivN (pe_ix ix_list (pv 0) pe_int (fun _ _ => rfl)) (pv 1)) (pg_sub (pv 0) pe_int set_list))
        (pss_one (ps_ret (pv 3))))) pss_nil)
      (pss_cons (ps_set (i := 4) scDraw.nd rfl (Or.inl rfl) (pe_op op_mod (pe_callTy call_int1 (by rfl) T.int (by decide +kernel) (pa_cons (pe_op op_pow (pe_op op_add (pe_op op_add (pe_ix ix_list (pv 0) pe_int (fun _ _ => rfl)) (pe_op op_mul pe_int (pe_ix ix_list (pv 0) pe_int (fun _ _ => rfl)))) pe_int) pe_int) pa_nil)) pe_int))
      (pss_one (ps_ret (pe_op op_modN (pe_op op_mod (pe_callTy call_int1 (by rfl) T.int (by decide +kernel) (pa_cons (pe_op op_pow (pe_op op_add (pe_op op_add (pe_op op_mul (pv 4) pe_int) (pe_op op_mul pe_int (pe_ix ix_list (pv 0) pe_int (fun _ _ => rfl)))) pe_int) pe_int) pa_nil)) pe_int) (pv 1))))))), ?_⟩
    refine ⟨_, rfl, a, _, _, _, rfl, rfl, SqL.of h1, (by rfl), _, _, rfl, rfl, _, rfl, a, _, _, 2, rfl, rfl, h1, (by rfl), ?_⟩
    refine ⟨fun σ' H' => ∃ (xs : List Int) (c m : Int) (v : Option V), σ' = [some (.ref a), some (.int many), v, none, none] ∧ Mid a l (n + 1) H H' xs c m, ?_, ?_⟩
    · refine ⟨fun j σ' H' => ∃ (xs : List Int) (c m : Int) (v : Option V), σ' = [some (.ref a), some (.int many), v, none, none] ∧ Mid a l (n + 1) H H' xs c m ∧ j = xs.length, ⟨_, xs, c, m, none, rfl, ⟨upd_same, by rw [upd_ne nal.symm]; exact h2, h3, h4, h7, h8, fun b o q1 q2 e => by rw [upd_ne q1]; exact e⟩, rfl⟩, ?_⟩
      rintro j σ' H1 ⟨xs, c0, m0, v, rfl, M, rfl⟩
      refine ⟨_, rfl, a, _, _, _, rfl, rfl, SqL.of M.ha, (by rfl), rfl, _, rfl, ?_⟩
      refine ite2 (fun hc => ?_) (fun hc => ?_)
      · have hc0 : c0 = 0 := V.int.inj (of_decide_eq_true hc)
        refine ⟨_, rfl, a, _, _, _, rfl, rfl, SqL.of M.ha, (by rfl), Nat.zero_le _, fun p hp => ?_⟩
        have npa : a ≠ p := ne_of_none M.ha hp
        have npl : l ≠ p := ne_of_none M.hl hp
        have M2 : Mid a l (n + 1) H (upd H1 p (.lst [])) xs c0 m0 := ⟨by rw [upd_ne npa]; exact M.ha, by rw [upd_ne npl]; exact M.hl, M.len, M.c0, M.m0, M.m1, but2_new M.but hp⟩
        refine ⟨.list (xs.map PyData.int), .list [], .lst (SqL.of M2.hl) (dp_ints xs), .lst (SqL.of upd_same) .nil, sh_ints xs, rfl, _, rfl, ?_⟩
        cases xs with
        | nil =>
          refine iteF ?_
          exact ⟨[], c0, m0, v, rfl, M2⟩
        | cons y ys =>
          refine iteT ⟨fun σ2 H2 => ∃ (xs : List Int) (c m : Int) (v : Option V), σ2 = [some (.ref a), some (.int many), v, none, none] ∧ Mid a l (n + 1) H H2 xs c m ∧ ys.length = xs.length, ?_, ?_⟩
          · rintro σ2 H2 ⟨xs, c, m, v, e1, e2, e3⟩
            exact ⟨ys.length, Nat.lt_succ_self _, xs, c, m, v, e1, e2, e3⟩
          · have hl2 := M2.hl
            refine ⟨_, rfl, a, _, _, .ref l, rfl, rfl, SqL.of M2.ha, (by rfl), .inl ⟨rfl, _, SqL.of hl2⟩, l, _, 0, 0, .int y, rfl, rfl, hl2, by decide, by decide, (by rw [List.length_map]; exact seq0 _), rfl, _, rfl, ?_⟩
            have M3 : Mid a l (n + 1) H (upd (upd H1 p (.lst [])) l (.lst (ys.map V.int))) ys c0 m0 := ⟨by rw [upd_ne nal]; exact M2.ha, upd_same, by have := M2.len; simp at this; omega, M2.c0, M2.m0, M2.m1, but2_setl M2.but⟩
            have z0 : ((y :: ys).map V.int).eraseIdx 0 = ys.map V.int := rfl
            rw [z0]
            have cell0 : (0 : Int) ≤ (if y < 0 then -y else y) := by split <;> omega
            generalize (if y < 0 then -y else y) = cell at cell0 ⊢
            refine ⟨_, rfl, a, _, _, _, rfl, rfl, SqL.of M3.ha, (by rfl), _, _, rfl, rfl, .inl ⟨by have := M3.m0; omega, by have := M3.m1; omega⟩, _, rfl, _, _, rfl, rfl, _, _, rfl, rfl, .inl ⟨_, rfl, _, _, rfl, rfl, (show (0 : Int) < 2147483647 by decide), _, rfl, a, _, _, 3, rfl, rfl, M3.ha, (by rfl), ?_⟩⟩
            have r0 := Int.emod_nonneg (m0 * 8191 + cell + 3) (by decide : (2147483647 : Int) ≠ 0)
            have r1 := Int.emod_lt_of_pos (m0 * 8191 + cell + 3) (by decide : (0 : Int) < 2147483647)
            have M4 : Mid a l (n + 1) H (upd (upd (upd H1 p (.lst [])) l (.lst (ys.map V.int))) a (.lst [.ref l, .int c0, .int (n + 1), .int ((m0 * 8191 + cell + 3) % 2147483647)])) ys c0 ((m0 * 8191 + cell + 3) % 2147483647) :=
              ⟨upd_same, by rw [upd_ne nal.symm]; exact M3.hl, M3.len, M3.c0, r0, r1, but2_set M3.but⟩
            refine ⟨_, rfl, _, _, rfl, rfl, ⟨by decide, by decide, by decide⟩, _, _, rfl, rfl, _, rfl, ?_⟩
            have last : ∀ c2 : Int, 0 ≤ c2 → ∃ (xs : List Int) (c m : Int) (v : Option V), [some (V.ref a), some (V.int many), some (V.int cell), none, none] = [some (V.ref a), some (V.int many), v, none, none] ∧ Mid a l (n + 1) H (upd (upd (upd (upd H1 p (.lst [])) l (.lst (ys.map V.int))) a (.lst [.ref l, .int c0, .int (n + 1), .int ((m0 * 8191 + cell + 3) % 2147483647)])) a (.lst [.ref l, .int c2, .int (n + 1), .int ((m0 * 8191 + cell + 3) % 2147483647)])) xs c m ∧ ys.length = xs.length :=
              fun c2 hc2 => ⟨ys, c2, _, _, rfl, ⟨upd_same, by rw [upd_ne nal.symm]; exact M4.hl, M4.len, hc2, r0, r1, but2_set M4.but⟩, rfl⟩
            refine ite2 (fun hge => ?_) (fun hge => ?_)
            · exact ⟨_, rfl, _, rfl, a, _, _, 1, rfl, rfl, M4.ha, (by rfl), last _ cell0⟩
            · exact ⟨_, rfl, a, _, _, 1, rfl, rfl, M4.ha, (by rfl), last _ (Int.le_refl 0)⟩
      · refine iteF ?_
        exact ⟨xs, c0, m0, v, rfl, M⟩
    · rintro σ' H1 ⟨xs, c, m, v, rfl, M⟩
      have mod0 : ∀ z : Int, 0 ≤ z.fmod many ∧ z.fmod many < many := fun z => by
        rw [Int.fmod_eq_emod_of_nonneg z (by omega)]
        exact ⟨Int.emod_nonneg _ (by omega), Int.emod_lt_of_pos _ hm0⟩
      have c0 := M.c0
      have m0 := M.m0
      have m1 := M.m1
      have fin : ∀ (H2 : Hp) (c2 : Int), 0 ≤ c2 → H2 a = some (.lst [.ref l, .int c2, .int (n + 1), .int m]) → H2 l = some (.lst (xs.map V.int)) → Strm (N + 1) H2 a l := fun H2 c2 h0 ha hl => ⟨xs, c2, n + 1, m, ha, hl, M.len, h0, by omega, by omega, m0, m1⟩
      refine ⟨_, rfl, a, _, _, _, rfl, rfl, SqL.of M.ha, (by rfl), _, _, rfl, rfl, _, rfl, ite2 (fun hc => ?_) (fun hc => ?_)⟩
      · refine ⟨_, rfl, a, _, _, _, rfl, rfl, SqL.of M.ha, (by rfl), .inl ⟨_, rfl, _, rfl, _, _, rfl, rfl, (show many ≠ 0 by omega), ?_⟩⟩
        refine ⟨_, rfl, a, _, _, _, rfl, rfl, SqL.of M.ha, (by rfl), _, rfl, _, _, rfl, rfl, ⟨by omega, by omega⟩, _, rfl, a, _, _, 1, rfl, rfl, M.ha, (by rfl), _, rfl, ?_⟩
        refine k _ _ (mod0 c).1 (mod0 c).2 (but2_set M.but) (fin _ (c.fdiv many) ?_ upd_same (by rw [upd_ne nal.symm]; exact M.hl))
        rw [Int.fdiv_eq_ediv_of_nonneg _ (by omega)]
        exact Int.ediv_nonneg c0 (by omega)
      · refine ⟨_, rfl, a, _, _, _, rfl, rfl, SqL.of M.ha, (by rfl), _, rfl, a, _, _, _, rfl, rfl, SqL.of M.ha, (by rfl), _, _, rfl, rfl, .inl ⟨by decide, by decide⟩, _, _, rfl, rfl, _, _, rfl, rfl, _, _, rfl, rfl, ⟨by decide, by decide, ?_⟩, .inl ⟨_, rfl, _, _, rfl, rfl, (show (0 : Int) < 2147483629 by decide), ?_⟩⟩
        · show (m + 7919 * (n + 1) + 104729).natAbs < 2 ^ 64
          omega
        · have r0 := Int.emod_nonneg ((m + 7919 * (n + 1) + 104729) ^ (5 : Int).toNat) (by decide : (2147483629 : Int) ≠ 0)
          have r1 := Int.emod_lt_of_pos ((m + 7919 * (n + 1) + 104729) ^ (5 : Int).toNat) (by decide : (0 : Int) < 2147483629)
          refine ⟨_, rfl, _, _, rfl, rfl, .inl ⟨Int.lt_of_lt_of_le (by decide) r0, Int.lt_trans r1 (by decide)⟩, _, rfl, a, _, _, _, rfl, rfl, SqL.of M.ha, (by rfl), _, _, rfl, rfl, .inl ⟨by decide, by decide⟩, _, _, rfl, rfl, _, _, rfl, rfl, _, _, rfl, rfl, ⟨by decide, by decide, ?_⟩, .inl ⟨_, rfl, _, _, rfl, rfl, (show (0 : Int) < 1000000007 by decide), _, rfl, _, _, rfl, rfl, (show many ≠ 0 by omega), ?_⟩⟩
          · show ((m + 7919 * (n + 1) + 104729) ^ (5 : Int).toNat % 2147483629 * 48271 + 30011 * (n + 1) + 29).natAbs < 2 ^ 64
            generalize (m + 7919 * (n + 1) + 104729) ^ (5 : Int).toNat % 2147483629 = z at r0 r1
            omega
          · exact k _ _ (mod0 _).1 (mod0 _).2 M.but (fin _ c c0 M.ha M.hl)
theorem ok_pick {f fD : Addr} {fd fdD : FuncData} (F : Fun K "_law_pick" "_law_pick" sPick f fd) (T : Bt mg) (FD : Fun K "_law_draw" "_law_draw" sDraw fD fdD) (gD : mg "_law_draw" = some (.ref fD)) (bD : Binds K fdD ["_law_stream_here", "_law_many"] []) :
    FnOk P w K mg base CX0 2 f fd ["_law_stream_here", "_law_things"] spPick := by
  have GD : FnOk P w K mg base CX0 1 fD fdD ["_law_stream_here", "_law_many"] spDraw := ok_draw FD T
  refine F.ok scPick (fun vs H Q E h => ?_) (fun cdv A outer s H vs Q E hr h => ?_)
  · obtain ⟨a, l, p, N, xs, rfl, _⟩ := h
    rfl
  · obtain ⟨a, l, p, N, xs, rfl, S, hN0, hN1, hpa, hpl, hp, hx0, hx1, k⟩ := h
    refine ⟨_, pss_one (ps_ret (pe_ix ix_list (pv 1) (pe_call GD hr (by rfl) gD FD.kp bD .nil pass0 (pa_cons (pv 0) (pa_cons (pe_callB call_len_seq (by rfl) T.len PySem.boot_len (pa_cons (pv 1) pa_nil)) pa_nil))) (fun _ _ => rfl))), ?_⟩
    refine ⟨_, rfl, _, rfl, _, rfl, p, xs, rfl, .inl (SqL.of hp), a, l, N, (xs.length : Int), rfl, S, hN0, hN1, by omega, by omega, fun H' d d0 d1 b S' => ?_⟩
    have hd : d.toNat < xs.length := by omega
    have e : atI xs d = some xs[d.toNat] := at_of (j := d.toNat) (by omega) (List.getElem?_eq_getElem hd)
    exact ⟨p, xs, d, _, rfl, rfl, SqL.of (b _ _ hpa hpl hp), e, k H' _ (List.getElem_mem hd) b S'⟩
end
end K01

set_option Elab.async false
set_option linter.all false
set_option maxRecDepth 100000
set_option maxHeartbeats 4000000
namespace K01
open PySem PySem.Spec PyProof.Rows L2 Own
theorem scMixed : FnScope ["_law_stream_here", "_law_things", "_law_left", "_law_found", "_law_k"] ["_law_stream_here", "_law_things"] (defScope sMixed) := ⟨rfl, rfl, rfl, by decide +kernel, rfl, by decide +kernel, by decide +kernel⟩
/-- what was new behind a call was new ahead of it -/
theorem But2.fresh {N : Int} {a l p : Addr} {H H' : Hp} (b : But2 a l H H') (S : Strm N H' a l) (h : H' p = none) : H p = none := by
  obtain ⟨xs, c, n, m, h1, h2, _⟩ := S.ex
  cases e : H p with
  | none => rfl
  | some o =>
    rw [b p o (ne_of_none h1 h).symm (ne_of_none h2 h).symm e] at h
    cases h
theorem But2.refl {a l : Addr} {H : Hp} : But2 a l H H := fun _ _ _ _ e => e
theorem Strm.but {N : Int} {a l : Addr} {H H' : Hp} (S : Strm N H a l) (k : ∀ b o, H b = some o → H' b = some o) : Strm N H' a l := S.keep fun b o e _ => k b o e
/-- a draw's place and the list's are unlike new ones -/
theorem Strm.ne_new {N : Int} {a l p : Addr} {H : Hp} (S : Strm N H a l) (h : H p = none) : p ≠ a ∧ p ≠ l := by
  obtain ⟨xs, c, n, m, h1, h2, _⟩ := S.ex
  exact ⟨(ne_of_none h1 h).symm, (ne_of_none h2 h).symm⟩
def spMixed : Sp := fun vs H Q _ => ∃ (a l p : Addr) (N : Int) (xs : List V), vs = [.ref a, .ref p] ∧ Strm N H a l ∧ 0 ≤ N ∧ N + 100 ≤ 1000000000 ∧ p ≠ a ∧ p ≠ l ∧ H p = some (.lst xs) ∧ xs.length ≤ 100 ∧
  ∀ H' q ys, List.Perm ys xs → But2 a l H H' → H q = none → H' q = some (.lst ys) → Strm (N + 100) H' a l → Q (.ref q) H'
structure MixI (a l p pl pf : Addr) (N : Int) (xs : List V) (H0 : Hp) (i : Nat) (σ : L2.St) (H : Hp) : Prop where
  s : ∃ k, σ = [some (.ref a), some (.ref p), some (.ref pl), some (.ref pf), k]
  d : ∃ ls fs, H pl = some (.lst ls) ∧ H pf = some (.lst fs) ∧ ls.length + i = xs.length ∧ fs.length = i ∧ List.Perm (fs ++ ls) xs
  b : But2 a l H0 H
  t : Strm (N + i) H a l
theorem same_new {H : Hp} {p : Addr} {o : HO} (h : H p = none) : Same H (upd H p o) := fun b u e => by
  rw [upd_ne (ne_of_none e h)]
  exact e
theorem perm_erase : ∀ {ls : List V} {j : Nat} (h : j < ls.length), List.Perm ([ls[j]] ++ ls.eraseIdx j) ls
  | x :: r, 0, _ => .refl _
  | x :: r, j + 1, h => by
    have z := perm_erase (ls := r) (j := j) (Nat.lt_of_succ_lt_succ h)
    show List.Perm (r[j]'(Nat.lt_of_succ_lt_succ h) :: x :: r.eraseIdx j) (x :: r)
    exact .trans (.swap _ _ _) (.cons _ z)
theorem Strm.upd {N : Int} {a l p : Addr} {H : Hp} {o : HO} (S : Strm N H a l) (h1 : p ≠ a) (h2 : p ≠ l) : Strm N (L2.upd H p o) a l := by
  obtain ⟨xs, c, n, m, h3, h4, h5⟩ := S.ex
  exact ⟨xs, c, n, m, by rw [upd_ne h1.symm]; exact h3, by rw [upd_ne h2.symm]; exact h4, h5⟩
section
variable {P : Program} {w : World} {K : PySem.W.Frag} {mg : Str → Option Value} {base : Heap}
theorem ok_mixed {f fD : Addr} {fd fdD : FuncData} (F : Fun K "_law_mixed" "_law_mixed" sMixed f fd) (T : Bt mg) (FD : Fun K "_law_draw" "_law_draw" sDraw fD fdD) (gD : mg "_law_draw" = some (.ref fD)) (bD : Binds K fdD ["_law_stream_here", "_law_many"] []) :
    FnOk P w K mg base CX0 2 f fd ["_law_stream_here", "_law_things"] spMixed := by
  have GD : FnOk P w K mg base CX0 1 fD fdD ["_law_stream_here", "_law_many"] spDraw := ok_draw FD T
  refine F.ok scMixed (fun vs H Q E h => ?_) (fun cdv A outer s H vs Q E hr h => ?_)
  · obtain ⟨a, l, p, N, xs, rfl, _⟩ := h
    rfl
  · obtain ⟨a, l, p, N, xs, rfl, S, hN0, hN1, hpa, hpl, hp, hx, k⟩ := h
    refine ⟨_, (pss_cons (ps_par (i := 2) (j := 3) (by rfl) scMixed.nd rfl rfl (by decide) rfl rfl (pa_cons (pe_callTy call_list_of (by rfl) T.list (by decide +kernel) (pa_cons (pv 1) pa_nil)) (pa_cons (pe_lst pa_nil) pa_nil)) (by rfl))
  (pss_cons (ps_for PassesOwn.never rfl (pi_range1 (by rfl) T.range (pa_cons (pe_callB call_len_seq (by rfl) T.len (by decide +kernel) (pa_cons (pv 2) pa_nil)) pa_nil)) (pg_name (i := 4) (x := "_law_k") scMixed.nd rfl (Or.inl rfl)) (pss_one (ps_expr (pe_bm PySem.F.plainAttrs_list PySem.F.slot_list_append PySem.F.type_list_append mt_append (pv 3) (pa_cons (pe_bm PySem.F.plainAttrs_list PySem.F.slot_list_pop PySem.F.type_list_pop mt_popAt (pv 2) (pa_cons (pe_call GD hr (by rfl) gD FD.kp bD .nil pass0 (pa_cons (pv 0) (pa_cons (pe_callB call_len_seq (by rfl) T.len (by decide +kernel) (pa_cons (pv 2) pa_nil)) pa_nil))) pa_nil)) pa_nil)))))
  (pss_one (ps_ret (pv 3))))), ?_⟩
    refine ⟨_, rfl, p, xs, rfl, .inl (SqL.of hp), fun pl hpl0 => ⟨Nat.zero_le _, fun pf hpf => ⟨_, _, rfl, ?_⟩⟩⟩
    have ⟨n1, n2⟩ := S.ne_new hpl0
    have S1 : Strm N (upd H pl (.lst xs)) a l := S.but fun b o e => same_new hpl0 b o e
    have ⟨n3, n4⟩ := S1.ne_new hpf
    have S2 : Strm N (upd (upd H pl (.lst xs)) pf (.lst [])) a l := S1.but fun b o e => same_new hpf b o e
    have npf : pl ≠ pf := ne_of_none (H := upd H pl (.lst xs)) upd_same hpf
    have hf0 : H pf = none := by
      rw [upd_ne npf.symm] at hpf
      exact hpf
    have b0 : But2 a l H (upd (upd H pl (.lst xs)) pf (.lst [])) := but2_new (but2_new But2.refl hpl0) hpf
    refine ⟨_, rfl, pl, xs, rfl, .inl (SqL.of (by rw [upd_ne npf]; exact upd_same)), _, rfl, by omega, by omega, ?_⟩
    refine for_range (MixI a l p pl pf N xs H) ⟨⟨_, rfl⟩, ⟨xs, [], by rw [upd_ne npf]; exact upd_same, upd_same, rfl, rfl, .refl _⟩, b0, by simpa using S2⟩ (fun i σ H1 hi w => ?_) (fun σ H1 w => ?_)
    · obtain ⟨⟨k0, rfl⟩, ⟨ls, fs, hl, hf, e1, e2, pm⟩, bt, st⟩ := w
      have hi' : i < xs.length := by omega
      have e0 : (xs.length : Int).toNat = xs.length := by omega
      refine ⟨_, rfl, .inl ⟨rfl, _, SqL.of hf⟩, _, rfl, .inl ⟨rfl, _, SqL.of hl⟩, _, rfl, _, rfl, pl, ls, rfl, .inl (SqL.of hl), a, l, _, _, rfl, st, by omega, by omega, by omega, by omega, fun H2 d d0 d1 b2 st2 => ?_⟩
      have hl2 := b2 _ _ n1 n2 hl
      have hf2 := b2 _ _ n3 n4 hf
      have hd : d.toNat < ls.length := by omega
      refine ⟨pl, ls, d, d.toNat, ls[d.toNat], rfl, rfl, hl2, by omega, by omega, (ixN_seq (n := ls.length) (i := d) (j := d.toNat) ?_).1, List.getElem?_eq_getElem hd, ?_⟩
      · unfold ixN
        rw [if_pos d0, if_pos d1]
      refine ⟨pf, fs, _, rfl, rfl, ?_, ?_, ?_⟩
      · rw [upd_ne npf.symm]
        exact hf2
      · rw [e2]
        exact Nat.lt_of_lt_of_le (Nat.lt_of_lt_of_le hi' hx) (by decide)
      · refine ⟨⟨_, rfl⟩, ⟨ls.eraseIdx d.toNat, fs ++ [ls[d.toNat]], ?_, upd_same, ?_, ?_, ?_⟩, ?_, ?_⟩
        · rw [upd_ne npf]
          exact upd_same
        · rw [List.length_eraseIdx_of_lt hd]
          omega
        · rw [List.length_append, e2]
          rfl
        · refine List.Perm.trans ?_ pm
          rw [List.append_assoc]
          refine List.Perm.append_left fs ?_
          exact perm_erase hd
        · exact fun b o h1 h2 e => by
            have z := bt b o h1 h2 e
            have z1 := b2 _ _ h1 h2 z
            have q1 : b ≠ pl := ne_of_none e hpl0
            have q2 : b ≠ pf := ne_of_none e hf0
            rw [upd_ne q2, upd_ne q1]
            exact z1
        · have z : N + ((i + 1 : Nat) : Int) = N + i + 1 := by omega
          rw [z]
          refine (st2.upd n1 n2).upd n3 n4
    · obtain ⟨⟨k0, rfl⟩, ⟨ls, fs, hl, hf, e1, e2, pm⟩, bt, st⟩ := w
      have e0 : (xs.length : Int).toNat = xs.length := by omega
      rw [e0] at e1 e2 st
      have ln : ls = [] := List.eq_nil_of_length_eq_zero (by omega)
      rw [ln, List.append_nil] at pm
      refine ⟨_, rfl, k _ pf fs pm bt hf0 hf (st.mono (by omega))⟩
end
end K01

set_option Elab.async false
set_option linter.all false
set_option maxRecDepth 100000
set_option maxHeartbeats 8000000
namespace K01
open PySem PySem.Spec PyProof.Rows L2 Own
theorem cut_to (xs : List V) {k : Int} (h : 0 ≤ k) : cutV xs none (some k) = xs.take k.toNat := by
  obtain ⟨n, rfl⟩ := Int.eq_ofNat_of_zero_le h
  unfold cutV
  rw [HT.sIx_nat]
  show (xs.drop 0).take (min n xs.length - 0) = xs.take n
  rw [List.drop_zero, Nat.sub_zero]
  by_cases z : n ≤ xs.length
  · rw [Nat.min_eq_left z]
  · rw [Nat.min_eq_right (by omega), List.take_of_length_le (Nat.le_refl _), List.take_of_length_le (by omega)]
theorem cut_from (xs : List V) {k : Int} (h : 0 ≤ k) : cutV xs (some k) none = xs.drop k.toNat := by
  obtain ⟨n, rfl⟩ := Int.eq_ofNat_of_zero_le h
  unfold cutV
  rw [HT.sIx_nat]
  show (xs.drop (min n xs.length)).take (xs.length - min n xs.length) = xs.drop n
  by_cases z : n ≤ xs.length
  · rw [Nat.min_eq_left z, List.take_of_length_le (by rw [List.length_drop]; exact Nat.le_refl _)]
  · rw [Nat.min_eq_right (by omega), List.drop_eq_nil_of_le (Nat.le_refl _), List.drop_eq_nil_of_le (by omega), List.take_nil]
/-- tuples stay -/
def TL (H H' : Hp) : Prop := ∀ b t, H b = some (.tup t) → H' b = some (.tup t)
theorem TL.trans {H H1 H2 : Hp} (x : TL H H1) (y : TL H1 H2) : TL H H2 := fun b t e => y b t (x b t e)
theorem TL.refl {H : Hp} : TL H H := fun _ _ e => e
theorem TL.new {H : Hp} {p : Addr} {o : HO} (h : H p = none) : TL H (upd H p o) := fun b t e => same_new h _ _ e
theorem TL.set {H : Hp} {p : Addr} {xs : List V} {o : HO} (h : H p = some (.lst xs)) : TL H (upd H p o) := fun b t e => by
  have n : b ≠ p := fun z => by
    rw [z, h] at e
    cases e
  rw [upd_ne n]
  exact e
theorem strm_ls {N : Int} {H : Hp} {a l : Addr} (S : Strm N H a l) : ∃ xs ys, H a = some (.lst xs) ∧ H l = some (.lst ys) := by
  obtain ⟨xs, c, n, m, h1, h2, _⟩ := S.ex
  exact ⟨_, _, h1, h2⟩
theorem But2.tl {N : Int} {H H' : Hp} {a l : Addr} (b : But2 a l H H') (S : Strm N H a l) : TL H H' := fun c t e => by
  obtain ⟨xs, ys, h1, h2⟩ := strm_ls S
  refine b c _ (fun z => ?_) (fun z => ?_) e
  · rw [z, h1] at e
    cases e
  · rw [z, h2] at e
    cases e
/-- values that are tuples of a kind -/
def AllT (H : Hp) (P : List V → Prop) (xs : List V) : Prop := ∀ v ∈ xs, ∃ p t, v = .ref p ∧ H p = some (.tup t) ∧ P t
theorem AllT.tl {H H' : Hp} {P : List V → Prop} {xs : List V} (h : AllT H P xs) (k : TL H H') : AllT H' P xs := fun v hv => by
  obtain ⟨p, t, e1, e2, e3⟩ := h v hv
  exact ⟨p, t, e1, k _ _ e2, e3⟩
theorem AllT.sub {H : Hp} {P : List V → Prop} {xs ys : List V} (h : AllT H P xs) (k : ∀ v ∈ ys, v ∈ xs) : AllT H P ys := fun v hv => h v (k v hv)
theorem AllT.app {H : Hp} {P : List V → Prop} {xs ys : List V} (h : AllT H P xs) (k : AllT H P ys) : AllT H P (xs ++ ys) := fun v hv => by
  rcases List.mem_append.mp hv with z | z
  · exact h v z
  · exact k v z
theorem AllT.nil {H : Hp} {P : List V → Prop} : AllT H P [] := fun v hv => by cases hv
theorem AllT.one {H : Hp} {P : List V → Prop} {p : Addr} {t : List V} (h : H p = some (.tup t)) (k : P t) : AllT H P [.ref p] := fun v hv => by
  rw [List.mem_singleton.mp hv]
  exact ⟨p, t, rfl, h, k⟩
theorem AllT.cons {H : Hp} {P : List V → Prop} {p : Addr} {t : List V} {xs : List V} (h : H p = some (.tup t)) (k : P t) (r : AllT H P xs) : AllT H P (.ref p :: xs) := (AllT.one h k).app r
/-- a road between some places; those of length 0 lead on in rank -/
def Rok (ps : List Int) (rk : Int → Nat) (t : List V) : Prop := ∃ x y d r : Int, t = [.int x, .int y, .int d, .int r] ∧ x ∈ ps ∧ y ∈ ps ∧ x ≠ y ∧ 0 ≤ d ∧ d ≤ 9 ∧ 1 ≤ r ∧ r ≤ 10 ∧ (d = 0 → rk x < rk y)
theorem nodup_but (b : Int) : ∀ {xs : List Int}, xs.Nodup → xs.length ≤ (xs.filter fun x => !decide (x = b)).length + 1
  | [], _ => Nat.zero_le _
  | x :: r, h => by
    obtain ⟨h1, h2⟩ := List.nodup_cons.mp h
    by_cases z : x = b
    · have e : (r.filter fun x => !decide (x = b)) = r := by
        refine List.filter_eq_self.mpr fun y hy => ?_
        have q : y ≠ b := fun w => h1 (by rw [z, ← w]; exact hy)
        rw [decide_eq_false q]
        rfl
      rw [List.filter_cons, decide_eq_true z]
      show (x :: r).length ≤ (r.filter fun x => !decide (x = b)).length + 1
      rw [e]
      exact Nat.le_refl _
    · have ih := nodup_but b h2
      rw [List.filter_cons, decide_eq_false z]
      show r.length + 1 ≤ (x :: r.filter fun x => !decide (x = b)).length + 1
      rw [List.length_cons]
      omega
/-- two more places -/
theorem two_more {b e : Int} {xs : List Int} (h : xs.Nodup) (hl : 4 ≤ xs.length) : ∃ x y r, (xs.filter fun z => !decide (z = b) && !decide (z = e)) = x :: y :: r ∧ x ≠ y ∧ x ∈ xs ∧ y ∈ xs ∧ x ≠ b ∧ x ≠ e ∧ y ≠ b ∧ y ≠ e := by
  have h1 := nodup_but e h
  have h2 := nodup_but b (h.filter fun x => !decide (x = e))
  rw [List.filter_filter] at h2
  have h3 : ((xs.filter fun z => !decide (z = b) && !decide (z = e))).Nodup := h.filter _
  have hm : ∀ z ∈ (xs.filter fun z => !decide (z = b) && !decide (z = e)), z ∈ xs ∧ z ≠ b ∧ z ≠ e := fun z hz => by
    obtain ⟨q1, q2⟩ := List.mem_filter.mp hz
    refine ⟨q1, fun w => ?_, fun w => ?_⟩
    · rw [decide_eq_true w] at q2
      cases q2
    · rw [decide_eq_true w] at q2
      cases z' : decide (z = b) <;> rw [z'] at q2 <;> cases q2
  generalize (xs.filter fun z => !decide (z = b) && !decide (z = e)) = f at h2 h3 hm
  match f, h3, hm, h2 with
  | [], _, _, h2 => simp at h2; omega
  | [x], _, _, h2 => simp at h2; omega
  | x :: y :: r, h3, hm, _ =>
    refine ⟨x, y, r, rfl, fun z => ?_, (hm x (by simp)).1, (hm y (by simp)).1, (hm x (by simp)).2.1, (hm x (by simp)).2.2, (hm y (by simp)).2.1, (hm y (by simp)).2.2⟩
    rw [z] at h3
    exact (List.nodup_cons.mp h3).1 List.mem_cons_self
abbrev NStep : List Str := ["_law_stream_here", "_law_begin", "_law_end", "_law_order", "_law_wide", "_law_one", "_law_other", "_law_room", "_law_first", "_law_middle", "_law_last", "_law_found", "_law_place"]
theorem scStepping : FnScope NStep ["_law_stream_here", "_law_begin", "_law_end", "_law_order", "_law_wide"] (defScope sStepping) := ⟨rfl, rfl, rfl, by decide +kernel, rfl, by decide +kernel, by decide +kernel⟩
def spStepping : Sp := fun vs H Q _ => ∃ (a l po : Addr) (N b e wide : Int) (ps : List Int), vs = [.ref a, .int b, .int e, .ref po, .int wide] ∧ Strm N H a l ∧ 0 ≤ N ∧ N + 20 ≤ 1000000000 ∧ po ≠ a ∧ po ≠ l ∧
  H po = some (.lst (ps.map V.int)) ∧ ps.Nodup ∧ 4 ≤ ps.length ∧ ps.length ≤ 100 ∧ b ∈ ps ∧ e ∈ ps ∧ 1 ≤ wide ∧ wide ≤ 10 ∧
  ∀ H' q xs, But2 a l H H' → H q = none → H' q = some (.lst xs) → xs.length = 5 → (∀ rk, AllT H' (Rok ps rk) xs) → Strm (N + 20) H' a l → Q (.ref q) H'
section
variable {P : Program} {w : World} {K : PySem.W.Frag} {mg : Str → Option Value} {base : Heap}
theorem ok_stepping {f fD : Addr} {fd fdD : FuncData} (F : Fun K "_law_stepping" "_law_stepping" sStepping f fd) (T : Bt mg) (FD : Fun K "_law_draw" "_law_draw" sDraw fD fdD) (gD : mg "_law_draw" = some (.ref fD)) (bD : Binds K fdD ["_law_stream_here", "_law_many"] []) :
    FnOk P w K mg base CX0 2 f fd ["_law_stream_here", "_law_begin", "_law_end", "_law_order", "_law_wide"] spStepping := by
  have GD : FnOk P w K mg base CX0 1 fD fdD ["_law_stream_here", "_law_many"] spDraw := ok_draw FD T
  refine F.ok scStepping (fun vs H Q E h => ?_) (fun cdv A outer s H vs Q E hr h => ?_)
  · obtain ⟨a, l, po, N, b, e, wide, ps, rfl, _⟩ := h
    rfl
  · obtain ⟨a, l, po, N, b, e, wide, ps, rfl, S, hN0, hN1, hpa, hpl, hp, hnd, hl4, hl1, hb, he, hw0, hw1, k⟩ := h
    refine ⟨_, (pss_cons (ps_asg (pe_slice sl_list (pe_lc (own := [("_law_place", 12)]) (g := gName 12) rfl scStepping.nd (pi_list (pv 3)) (blkOk_by (N := NStep) (sc := defScope sStepping) (by decide +kernel)) (fun _ _ _ _ _ => (pg_name (i := 12) (x := "_law_place") scStepping.nd rfl (Or.inl rfl))) (fun _ _ _ _ _ => (pts_one (PW.pt (pw_and (pt_cmpR op_ne (pv 12) (pv 1) (nomark _)) (pw_and1 (pt_cmpR op_ne (pv 12) (pv 2) (nomark _))))))) (fun _ _ _ _ _ => (pv 12))) po_none (po_some pe_int)) (pg_unl rfl (pgs_cons (pg_name (i := 5) (x := "_law_one") scStepping.nd rfl (Or.inl rfl)) (pgs_cons (pg_name (i := 6) (x := "_law_other") scStepping.nd rfl (Or.inl rfl)) pgs_nil))))
  (pss_cons (ps_par (i := 7) (j := 8) (by rfl) scStepping.nd rfl rfl (by decide) rfl rfl (pa_cons (pe_op op_add pe_int (pe_call GD hr (by rfl) gD FD.kp bD .nil pass0 (pa_cons (pv 0) (pa_cons (pv 4) pa_nil)))) (pa_cons (pe_op op_add pe_int (pe_call GD hr (by rfl) gD FD.kp bD .nil pass0 (pa_cons (pv 0) (pa_cons pe_int pa_nil)))) pa_nil)) (by rfl))
  (pss_cons (ps_par (i := 9) (j := 10) (by rfl) scStepping.nd rfl rfl (by decide) rfl rfl (pa_cons (pe_op op_add pe_int (pe_call GD hr (by rfl) gD FD.kp bD .nil pass0 (pa_cons (pv 0) (pa_cons pe_int pa_nil)))) (pa_cons (pe_op op_add pe_int (pe_call GD hr (by rfl) gD FD.kp bD .nil pass0 (pa_cons (pv 0) (pa_cons pe_int pa_nil)))) pa_nil)) (by rfl))
  (pss_cons (ps_set (i := 11) scStepping.nd rfl (Or.inl rfl) (pe_lst (pa_cons (pe_tup (pa_cons (pv 1) (pa_cons (pv 5) (pa_cons (pv 8) (pa_cons (pv 7) pa_nil))))) (pa_cons (pe_tup (pa_cons (pv 5) (pa_cons (pv 6) (pa_cons (pv 9) (pa_cons (pv 7) pa_nil))))) (pa_cons (pe_tup (pa_cons (pv 6) (pa_cons (pv 2) (pa_cons (pv 10) (pa_cons (pv 7) pa_nil))))) pa_nil)))))
  (pss_cons (ps_expr (pe_bm PySem.F.plainAttrs_list PySem.F.slot_list_append PySem.F.type_list_append mt_append (pv 11) (pa_cons (pe_tup (pa_cons (pv 1) (pa_cons (pv 6) (pa_cons (pe_op op_add (pe_op op_add (pe_op op_add (pv 8) (pv 9)) pe_int) (pe_call GD hr (by rfl) gD FD.kp bD .nil pass0 (pa_cons (pv 0) (pa_cons pe_int pa_nil)))) (pa_cons (pe_op op_add pe_int (pe_call GD hr (by rfl) gD FD.kp bD .nil pass0 (pa_cons (pv 0) (pa_cons (pv 4) pa_nil)))) pa_nil))))) pa_nil)))
  (pss_one (ps_ret (pe_op op_cat (pv 11) (pe_lst (pa_cons (pe_tup (pa_cons (pv 5) (pa_cons (pv 2) (pa_cons (pe_op op_add (pe_op op_add (pe_op op_add (pv 9) (pv 10)) pe_int) (pe_call GD hr (by rfl) gD FD.kp bD .nil pass0 (pa_cons (pv 0) (pa_cons pe_int pa_nil)))) (pa_cons (pe_op op_add pe_int (pe_call GD hr (by rfl) gD FD.kp bD .nil pass0 (pa_cons (pv 0) (pa_cons (pv 4) pa_nil)))) pa_nil))))) pa_nil)))))))))), ?_⟩
    refine ⟨_, rfl, po, rfl, ⟨_, SqL.of hp⟩, fun D hD => ?_⟩
    refine lc_it walk_list (fun i H' => Same H H' ∧ H' D = some (.lst (((ps.take i).filter fun z => !decide (z = b) && !decide (z = e)).map V.int))) ⟨same_new hD, upd_same⟩ (fun i H' _ q => SqL.of (q.1 _ _ hp)) ?_ ?_
    · rintro i x H3 H4 hi ⟨q1, q2⟩ ⟨rfl, hx⟩
      rw [List.getElem?_map] at hx
      obtain ⟨z, hz, rfl⟩ := Option.map_eq_some_iff.mp hx
      have e1 : (ps.take (i + 1)) = ps.take i ++ [z] := by rw [List.take_add_one, hz]; rfl
      have e2 : ((ps.take (i + 1)).filter fun z => !decide (z = b) && !decide (z = e)) = ((ps.take i).filter fun z => !decide (z = b) && !decide (z = e)) ++ ([z].filter fun z => !decide (z = b) && !decide (z = e)) := by rw [e1, List.filter_append]
      have skip : (!decide (z = b) && !decide (z = e)) = false → Same H H4 ∧ H4 D = some (HO.lst (List.map V.int (List.filter (fun z => !decide (z = b) && !decide (z = e)) (List.take (i + 1) ps)))) := fun hf => by
        rw [e2, List.filter_cons, hf]
        refine ⟨q1, ?_⟩
        rw [q2]
        simp
      refine ⟨rfl, _, rfl, _, rfl, rfl, _, rfl, ite2 (fun hc => ?_) (fun hc => ?_)⟩
      · have hzb : z ≠ b := fun w => by
          rw [w, decide_eq_true rfl] at hc
          cases hc
        refine ⟨_, rfl, _, rfl, rfl, _, rfl, ite2 (fun hc2 => ?_) (fun hc2 => ?_)⟩
        · have hze : z ≠ e := fun w => by
            rw [w, decide_eq_true rfl] at hc2
            cases hc2
          refine ⟨_, rfl, _, q2, ?_, fun p o g => ?_, ?_⟩
          · rw [List.length_map]
            refine Nat.lt_of_le_of_lt (List.length_filter_le _ _) ?_
            rw [List.length_take]
            exact Nat.lt_of_le_of_lt (Nat.min_le_right _ _) (Nat.lt_of_le_of_lt hl1 (by decide))
          · rw [upd_ne (ne_of_none g hD)]
            exact q1 _ _ g
          · rw [upd_same, e2, List.map_append, List.filter_cons, decide_eq_false hzb, decide_eq_false hze]
            rfl
        · have hze : z = e := by
            cases w : decide (z = e) with
            | true => exact of_decide_eq_true w
            | false => exact absurd (fun w2 => of_decide_eq_false w (V.int.inj w2)) (by simpa using hc2)
          refine skip ?_
          rw [decide_eq_true hze]
          simp
      · have hzb : z = b := by
          cases w : decide (z = b) with
          | true => exact of_decide_eq_true w
          | false => exact absurd (fun w2 => of_decide_eq_false w (V.int.inj w2)) (by simpa using hc)
        refine skip ?_
        rw [decide_eq_true hzb]
        rfl
    · rintro H3 ⟨q1, q2⟩
      obtain ⟨x, y, r, ef, nxy, hx, hy, nxb, nxe, nyb, nye⟩ := two_more (b := b) (e := e) hnd hl4
      rw [List.length_map, List.take_of_length_le (Nat.le_refl _), ef] at q2
      refine ⟨_, rfl, D, _, rfl, SqL.of q2, fun t ht => ?_⟩
      rw [cut_to _ (by decide)]
      have S3 : Strm N H3 a l := S.but q1
      have b3 : But2 a l H H3 := fun p o h1 h2 g => q1 _ _ g
      generalize hH5 : upd H3 t (.lst (List.take (Int.toNat 2) (List.map V.int (x :: y :: r)))) = H5
      have b5 : But2 a l H H5 := by rw [← hH5]; exact but2_new b3 ht
      have S5 : Strm N H5 a l := by rw [← hH5]; exact S3.but (same_new ht)
      have g5 : H5 t = some (.lst [.int x, .int y]) := by rw [← hH5]; exact upd_same
      refine ⟨t, _, rfl, SqL.of g5, rfl, _, _, rfl, _, _, rfl, rfl, ?_⟩
      refine ⟨_, rfl, _, rfl, a, l, _, wide, rfl, S5, hN0, by omega, by omega, by omega, fun H6 d1 p1 r1 b6 S6 => ?_⟩
      refine ⟨_, _, rfl, rfl, _, rfl, a, l, _, 2, rfl, S6, by omega, by omega, by decide, by decide, fun H7 d2 p2 r2 b7 S7 => ?_⟩
      refine ⟨_, _, rfl, rfl, _, _, rfl, ?_⟩
      refine ⟨_, rfl, a, l, _, 2, rfl, S7, by omega, by omega, by decide, by decide, fun H8 d3 p3 r3 b8 S8 => ?_⟩
      refine ⟨_, _, rfl, rfl, _, rfl, a, l, _, 2, rfl, S8, by omega, by omega, by decide, by decide, fun H9 d4 p4 r4 b9 S9 => ?_⟩
      refine ⟨_, _, rfl, rfl, _, _, rfl, ?_⟩
      have c9 : But2 a l H H9 := (((b5.trans b6).trans b7).trans b8).trans b9
      refine ⟨_, rfl, _, rfl, _, rfl, _, rfl, (by show 4 ≤ sizeLine; decide), fun t1 ht1 => ?_⟩
      refine ⟨_, rfl, _, rfl, _, rfl, _, rfl, (by show 4 ≤ sizeLine; decide), fun t2 ht2 => ?_⟩
      refine ⟨_, rfl, _, rfl, _, rfl, _, rfl, (by show 4 ≤ sizeLine; decide), fun t3 ht3 => ?_⟩
      refine ⟨(by show 3 ≤ sizeLine; decide), fun t4 ht4 => ?_⟩
      have u1 := same_new (o := .tup [.int b, .int x, .int (1 + d2), .int (1 + d1)]) ht1
      have u2 := same_new (o := .tup [.int x, .int y, .int (1 + d3), .int (1 + d1)]) ht2
      have u3 := same_new (o := .tup [.int y, .int e, .int (1 + d4), .int (1 + d1)]) ht3
      have u4 := same_new (o := .lst [.ref t1, .ref t2, .ref t3]) ht4
      have v1 := (u2.trans (u3.trans u4)) _ _ upd_same
      have v2 := (u3.trans u4) _ _ upd_same
      have v3 := u4 _ _ upd_same
      have S10 := S9.but (u1.trans (u2.trans (u3.trans u4)))
      have S93 := S9.but (u1.trans (u2.trans u3))
      have n4 := S93.ne_new ht4
      have f4 : H t4 = none := But2.fresh (((c9.trans (fun p o _ _ g => u1 p o g)).trans (fun p o _ _ g => u2 p o g)).trans (fun p o _ _ g => u3 p o g)) S93 ht4
      have b10 := ((((c9.trans (fun p o _ _ g => u1 p o g)).trans (fun p o _ _ g => u2 p o g)).trans (fun p o _ _ g => u3 p o g)).trans (fun p o _ _ g => u4 p o g))
      have v4 : upd (upd (upd (upd H9 t1 (.tup [.int b, .int x, .int (1 + d2), .int (1 + d1)])) t2 (.tup [.int x, .int y, .int (1 + d3), .int (1 + d1)])) t3 (.tup [.int y, .int e, .int (1 + d4), .int (1 + d1)])) t4 (.lst [.ref t1, .ref t2, .ref t3]) t4 = some (.lst [.ref t1, .ref t2, .ref t3]) := upd_same
      refine ⟨_, rfl, .inl ⟨rfl, _, SqL.of v4⟩, _, rfl, _, rfl, _, rfl, _, rfl, _, _, rfl, rfl, _, _, rfl, rfl, ?_⟩
      clear u1 u2 u3 u4
      refine ⟨_, rfl, a, l, _, 3, rfl, S10, by omega, by omega, by decide, by decide, fun H11 d5 p5 r5 b11 S11 => ?_⟩
      refine ⟨_, _, rfl, rfl, _, rfl, _, rfl, a, l, _, wide, rfl, S11, by omega, by omega, by omega, by omega, fun H12 d6 p6 r6 b12 S12 => ?_⟩
      refine ⟨_, _, rfl, rfl, (by show 4 ≤ sizeLine; decide), fun t5 ht5 => ?_⟩
      have k12 : TL _ H12 := (b11.tl S10).trans (b12.tl S11)
      have w1 := k12 _ _ v1
      have w2 := k12 _ _ v2
      have w3 := k12 _ _ v3
      have w4 := b12 _ _ n4.1 n4.2 (b11 _ _ n4.1 n4.2 v4)
      have c12 : But2 a l H H12 := ((show But2 a l H _ from b10).trans b11).trans b12
      clear v1 v2 v3 v4 k12 b11 b12 S11 S10 b10 S93
      have u5 := same_new (o := .tup [.int b, .int y, .int (1 + d2 + (1 + d3) + 1 + d5), .int (1 + d6)]) ht5
      have n54 : t4 ≠ t5 := ne_of_none w4 ht5
      refine ⟨t4, _, _, rfl, rfl, u5 _ _ w4, (by show 3 < sizeLine; decide), ?_⟩
      refine ⟨_, rfl, ?_⟩
      have s5 : TL (upd H12 t5 (.tup [.int b, .int y, .int (1 + d2 + (1 + d3) + 1 + d5), .int (1 + d6)])) (upd (upd H12 t5 (.tup [.int b, .int y, .int (1 + d2 + (1 + d3) + 1 + d5), .int (1 + d6)])) t4 (.lst [.ref t1, .ref t2, .ref t3, .ref t5])) := TL.set (u5 _ _ w4)
      have x5 := s5 _ _ upd_same
      have x1 := s5 _ _ (u5 _ _ w1)
      have x2 := s5 _ _ (u5 _ _ w2)
      have x3 := s5 _ _ (u5 _ _ w3)
      have x4 : (upd (upd H12 t5 (.tup [.int b, .int y, .int (1 + d2 + (1 + d3) + 1 + d5), .int (1 + d6)])) t4 (.lst [.ref t1, .ref t2, .ref t3, .ref t5])) t4 = some (.lst [.ref t1, .ref t2, .ref t3, .ref t5]) := upd_same
      have c13 : But2 a l H (upd (upd H12 t5 (.tup [.int b, .int y, .int (1 + d2 + (1 + d3) + 1 + d5), .int (1 + d6)])) t4 (.lst [.ref t1, .ref t2, .ref t3, .ref t5])) := fun p o h1 h2 g => by
        rw [upd_ne (ne_of_none g f4)]
        exact u5 _ _ (c12 _ _ h1 h2 g)
      have S13 : Strm _ (upd (upd H12 t5 (.tup [.int b, .int y, .int (1 + d2 + (1 + d3) + 1 + d5), .int (1 + d6)])) t4 (.lst [.ref t1, .ref t2, .ref t3, .ref t5])) a l := (S12.but u5).upd n4.1 n4.2
      refine ⟨_, rfl, _, rfl, _, rfl, _, rfl, _, _, rfl, rfl, _, _, rfl, rfl, ?_⟩
      refine ⟨_, rfl, a, l, _, 3, rfl, S13, by omega, by omega, by decide, by decide, fun H14 d7 p7 r7 b14 S14 => ?_⟩
      refine ⟨_, _, rfl, rfl, _, rfl, _, rfl, a, l, _, wide, rfl, S14, by omega, by omega, by omega, by omega, fun H15 d8 p8 r8 b15 S15 => ?_⟩
      refine ⟨_, _, rfl, rfl, (by show 4 ≤ sizeLine; decide), fun t6 ht6 => ?_⟩
      have k15 : TL _ H15 := (b14.tl S13).trans (b15.tl S14)
      have y1 := k15 _ _ x1
      have y2 := k15 _ _ x2
      have y3 := k15 _ _ x3
      have y5 := k15 _ _ x5
      have y4 := b15 _ _ n4.1 n4.2 (b14 _ _ n4.1 n4.2 x4)
      have c15 : But2 a l H H15 := (c13.trans b14).trans b15
      clear x1 x2 x3 x4 x5 k15 b14 b15 S14 S13 c13 s5
      refine ⟨(by show 1 ≤ sizeLine; decide), fun t7 ht7 => ?_⟩
      have u6 := same_new (o := .tup [.int x, .int e, .int (1 + d3 + (1 + d4) + 1 + d7), .int (1 + d8)]) ht6
      have u7 := same_new (o := .lst [.ref t6]) ht7
      refine ⟨t4, t7, _, _, rfl, rfl, (u6.trans u7) _ _ y4, upd_same, (by show 5 ≤ sizeLine; decide), fun q hq => ?_⟩
      have u8 := same_new (o := .lst [.ref t1, .ref t2, .ref t3, .ref t5, .ref t6]) hq
      have uu := u6.trans (u7.trans u8)
      have S16 := S15.but (u6.trans u7)
      have c16 : But2 a l H _ := fun p o h1 h2 g => (u6.trans u7) _ _ (c15 p o h1 h2 g)
      refine k _ q _ (fun p o h1 h2 g => u8 _ _ (c16 p o h1 h2 g)) (But2.fresh c16 S16 hq) upd_same rfl (fun rk => ?_) ((S15.but uu).mono (by omega))
      have pl : ∀ d r : Int, 1 ≤ d → ∀ u v : Int, d = 0 → rk u < rk v := fun d r h u v z => by omega
      refine AllT.cons (uu _ _ y1) ⟨b, x, _, _, rfl, hb, hx, nxb.symm, by omega, by omega, by omega, by omega, fun z => by omega⟩ ?_
      refine AllT.cons (uu _ _ y2) ⟨x, y, _, _, rfl, hx, hy, nxy, by omega, by omega, by omega, by omega, fun z => by omega⟩ ?_
      refine AllT.cons (uu _ _ y3) ⟨y, e, _, _, rfl, hy, he, nye, by omega, by omega, by omega, by omega, fun z => by omega⟩ ?_
      refine AllT.cons (uu _ _ y5) ⟨b, y, _, _, rfl, hb, hy, nyb.symm, by omega, by omega, by omega, by omega, fun z => by omega⟩ ?_
      exact AllT.one ((u7.trans u8) _ _ upd_same) ⟨x, e, _, _, rfl, hx, he, nxe, by omega, by omega, by omega, by omega, fun z => by omega⟩
end
end K01

set_option Elab.async false
set_option linter.all false
set_option maxRecDepth 100000
set_option maxHeartbeats 8000000
namespace K01
open PySem PySem.Spec PyProof.Rows L2 Own
theorem ixT {X : Cx} {K : PySem.W.Frag} (h : X.K = K) : IxR X (rIxT K) := by
  subst h
  exact ix_tup
/-- a permutation of ints is one of ints -/
theorem perm_ints {ys : List V} {xs : List Int} (h : List.Perm ys (xs.map V.int)) : ∃ zs : List Int, ys = zs.map V.int ∧ List.Perm zs xs := by
  let g : V → Int := fun v => match v with | .int i => i | _ => 0
  have e : ∀ (ws : List V), (∀ v ∈ ws, v ∈ xs.map V.int) → ws = (ws.map g).map V.int := fun ws => by
    induction ws with
    | nil => exact fun _ => rfl
    | cons w r ih =>
      intro hm
      obtain ⟨i, _, hi⟩ := List.mem_map.mp (hm w List.mem_cons_self)
      have e2 := ih fun v hv => hm v (List.mem_cons_of_mem _ hv)
      rw [List.map_cons, List.map_cons, ← e2, ← hi]
  refine ⟨ys.map g, e ys fun v hv => h.mem_iff.mp hv, ?_⟩
  have p := h.map g
  rw [List.map_map] at p
  have z : (g ∘ V.int) = id := rfl
  rw [z, List.map_id] at p
  exact p
/-- the places in a drawn order -/
structure Hm (many cut : Int) (ps : List Int) : Prop where
  nd : ps.Nodup
  len : (ps.length : Int) = many
  mem : ∀ x ∈ ps, 0 ≤ x ∧ x < many
  c1 : 1 ≤ cut
  c2 : cut < many
  m2 : 2 ≤ many
  m20 : many ≤ 20
structure Hl (long wide late : Int) : Prop where
  l1 : 1 ≤ long
  l2 : long ≤ 5
  w1 : 1 ≤ wide
  w2 : wide ≤ 10
  t1 : 1 ≤ late
  t2 : late ≤ 3
theorem range_perm {many : Int} (h2 : 2 ≤ many) {ys : List V} (h : List.Perm ys (rgV 0 many)) : ∃ ps : List Int, ys = ps.map V.int ∧ ps.Nodup ∧ (ps.length : Int) = many ∧ ∀ x ∈ ps, 0 ≤ x ∧ x < many := by
  have e : rgV 0 many = ((List.range many.toNat).map fun i : Nat => (i : Int)).map V.int := by
    unfold rgV
    rw [List.map_map, Int.sub_zero]
    refine List.map_congr_left fun i _ => ?_
    show V.int (0 + (i : Int)) = V.int (i : Int)
    rw [Int.zero_add]
  rw [e] at h
  obtain ⟨ps, rfl, pm⟩ := perm_ints h
  refine ⟨ps, rfl, ?_, ?_, fun x hx => ?_⟩
  · refine pm.nodup_iff.mpr ?_
    refine List.Pairwise.map _ (fun i j n z => n (Int.ofNat.inj z)) List.nodup_range
  · rw [pm.length_eq, List.length_map, List.length_range]
    omega
  · obtain ⟨i, hi, rfl⟩ := List.mem_map.mp (pm.mem_iff.mp hx)
    have := List.mem_range.mp hi
    omega
/-- a list that is the def's own: new, and not the stream's -/
structure Fr (a l : Addr) (H0 : Hp) (p : Addr) : Prop where
  na : p ≠ a
  nl : p ≠ l
  f : H0 p = none
theorem Fr.of {a l p : Addr} {H0 H : Hp} {n : Int} (b : But2 a l H0 H) (t : Strm n H a l) (h : H p = none) : Fr a l H0 p := ⟨(t.ne_new h).1, (t.ne_new h).2, b.fresh t h⟩
/-- what holds throughout -/
structure B0 (a l po : Addr) (H0 : Hp) (ps : List Int) (n : Int) (H : Hp) : Prop where
  b : But2 a l H0 H
  t : Strm n H a l
  o : H po = some (.lst (ps.map V.int))
  r : Fr a l H0 po
theorem B0.draw {a l po : Addr} {H0 H H' : Hp} {ps : List Int} {n m : Int} (x : B0 a l po H0 ps n H) (b : But2 a l H H') (t : Strm m H' a l) : B0 a l po H0 ps m H' := ⟨x.b.trans b, t, b _ _ x.r.na x.r.nl x.o, x.r⟩
theorem B0.same {a l po : Addr} {H0 H H' : Hp} {ps : List Int} {n : Int} (x : B0 a l po H0 ps n H) (b : Same H H') : B0 a l po H0 ps n H' := ⟨x.b.trans fun p o _ _ g => b p o g, x.t.but b, b _ _ x.o, x.r⟩
theorem B0.new {a l po p : Addr} {H0 H : Hp} {ps : List Int} {n : Int} {o : HO} (x : B0 a l po H0 ps n H) (h : H p = none) : B0 a l po H0 ps n (upd H p o) := x.same (same_new h)
theorem B0.set {a l po p : Addr} {H0 H : Hp} {ps : List Int} {n : Int} {o : HO} (x : B0 a l po H0 ps n H) (r : Fr a l H0 p) (h : p ≠ po) : B0 a l po H0 ps n (upd H p o) := ⟨fun q u h1 h2 g => by
  rw [upd_ne (ne_of_none g r.f)]
  exact x.b q u h1 h2 g, x.t.upd r.na r.nl, by rw [upd_ne h.symm]; exact x.o, x.r⟩
theorem B0.mono {a l po : Addr} {H0 H : Hp} {ps : List Int} {n m : Int} (x : B0 a l po H0 ps n H) (h : n ≤ m) : B0 a l po H0 ps m H := ⟨x.b, x.t.mono h, x.o, x.r⟩
theorem B0.fr {a l po p : Addr} {H0 H : Hp} {ps : List Int} {n : Int} (x : B0 a l po H0 ps n H) (h : H p = none) : Fr a l H0 p := Fr.of x.b x.t h
theorem B0.tl {a l po : Addr} {H0 H H' : Hp} {ps : List Int} {n : Int} (x : B0 a l po H0 ps n H) (b : But2 a l H H') : TL H H' := b.tl x.t
/-- a door at one of the places -/
def Dok (ps : List Int) (S : Int → Bool) (t : List V) : Prop := ∃ x h : Int, t = [.str (if S x = true then "in" else "out"), .int x, .int h] ∧ x ∈ ps ∧ 0 ≤ h ∧ h ≤ 9
def InT (t : List V) : Prop := ∃ x h : Int, t = [.str "in", .int x, .int h]
def OutT (t : List V) : Prop := ∃ x h : Int, t = [.str "out", .int x, .int h]
def Has (H : Hp) (P : List V → Prop) (xs : List V) : Prop := ∃ v ∈ xs, ∃ p t, v = .ref p ∧ H p = some (.tup t) ∧ P t
theorem Has.tl {H H' : Hp} {P : List V → Prop} {xs : List V} (h : Has H P xs) (k : TL H H') : Has H' P xs := by
  obtain ⟨v, hv, p, t, e1, e2, e3⟩ := h
  exact ⟨v, hv, p, t, e1, k _ _ e2, e3⟩
theorem Has.sub {H : Hp} {P : List V → Prop} {xs ys : List V} (h : Has H P xs) (k : ∀ v ∈ xs, v ∈ ys) : Has H P ys := by
  obtain ⟨v, hv, r⟩ := h
  exact ⟨v, k v hv, r⟩
def Pok (ps : List Int) (t : List V) : Prop := ∃ x y : Int, t = [.int x, .int y] ∧ x ∈ ps ∧ y ∈ ps ∧ x ≠ y
/-- whether a place is one of the INS' -/
def Sof (ps : List Int) (cut : Int) (x : Int) : Bool := decide (x ∈ ps.take cut.toNat)
/-- the drawn house in the heap -/
structure HouseAt (H : Hp) (many full doors : Int) (pr pd : Addr) (xs ys : List V) : Prop where
  m2 : 2 ≤ many
  m20 : many ≤ 20
  r : H pr = some (.lst xs)
  d : H pd = some (.lst ys)
  ne : pr ≠ pd
  roads : ∃ (ps : List Int) (rk : Int → Nat) (S : Int → Bool), (∀ x ∈ ps, 0 ≤ x ∧ x < many) ∧ AllT H (Rok ps rk) xs ∧ AllT H (Dok ps S) ys
  i : Has H InT ys
  o : Has H OutT ys
  lr : (xs.length : Int) ≤ full
  ld : (ys.length : Int) ≤ doors
  ld2 : 2 ≤ ys.length
  lr1 : 1 ≤ full → 0 < xs.length
def spHouse : Sp := fun vs H Q _ => ∃ (a l : Addr) (N places full doors : Int), vs = [.ref a, .int places, .int full, .int doors] ∧ Strm N H a l ∧ 0 ≤ N ∧ N + 2000 ≤ 1000000000 ∧ 2 ≤ places ∧ places ≤ 20 ∧ 0 ≤ full ∧ full ≤ 100 ∧ 2 ≤ doors ∧ doors ≤ 20 ∧
  ∀ H' t pr pd many xs ys, But2 a l H H' → H t = none → H pr = none → H pd = none → H' t = some (.tup [.int many, .ref pr, .ref pd]) → many ≤ places → HouseAt H' many full doors pr pd xs ys → Strm (N + 2000) H' a l → Q (.ref t) H'
end K01

set_option Elab.async false
set_option linter.all false
set_option maxRecDepth 100000
set_option maxHeartbeats 8000000
namespace K01
open PySem PySem.Spec PyProof.Rows L2 Own
abbrev NHouse : List Str := ["_law_stream_here", "_law_places", "_law_full", "_law_doors", "_law_many", "_law_order", "_law_found", "_law_some", "_law_long", "_law_wide", "_law_late", "_law_cut", "_law_k", "_law_sort", "_law_begins", "_law_ends", "_law_line", "_law_one", "_law_other", "_law_roads", "_law_rank", "_law_length", "_law_crossed", "_law_at", "_law_door"]
theorem scHouse : FnScope NHouse ["_law_stream_here", "_law_places", "_law_full", "_law_doors"] (defScope sHouse) := ⟨rfl, rfl, rfl, by decide +kernel, rfl, by decide +kernel, by decide +kernel⟩
/-- the slots behind the first rows -/
abbrev sgA (a po pf pn : Addr) (places full doors many long wide late cut : Int) (k sort begins ends line one other roads rank length crossed at_ : Option V) : L2.St :=
  [some (.ref a), some (.int places), some (.int full), some (.int doors), some (.int many), some (.ref po), some (.ref pf), some (.ref pn), some (.int long), some (.int wide), some (.int late), some (.int cut), k, sort, begins, ends, line, one, other, roads, rank, length, crossed, at_, none]
def MA (a l : Addr) (H0 : Hp) (N places full doors : Int) : L2.St → Hp → Prop := fun σ H => ∃ (po pf pn : Addr) (many long wide late cut : Int) (ps : List Int),
  σ = sgA a po pf pn places full doors many long wide late cut none none none none none none none none none none none none ∧ Hm many cut ps ∧ many ≤ places ∧ Hl long wide late ∧ B0 a l po H0 ps (N + 110) H ∧
  Fr a l H0 pf ∧ Fr a l H0 pn ∧ po ≠ pf ∧ po ≠ pn ∧ pf ≠ pn ∧ H pf = some (.lst []) ∧ H pn = some (.lst [])
/-- all stays but what stands at a, l and p -/
def But3 (a l p : Addr) (H H' : Hp) : Prop := ∀ b o, b ≠ a → b ≠ l → b ≠ p → H b = some o → H' b = some o
/-- the places of INS, of OUTS -/
structure Ends (a l : Addr) (H0 : Hp) (p : Addr) (ps bs : List Int) (H : Hp) : Prop where
  r : Fr a l H0 p
  h : H p = some (.lst (bs.map V.int))
  n : 0 < bs.length
  m : bs.length ≤ 20
  s : ∀ x ∈ bs, x ∈ ps
theorem Has.one {H : Hp} {P : List V → Prop} {xs : List V} {i : Nat} {x : V} (h : Has H P (xs.take (i + 1))) (e : xs[i]? = some x) : Has H P (xs.take i) ∨ ∃ p t, x = .ref p ∧ H p = some (.tup t) ∧ P t := by
  obtain ⟨v, hv, r⟩ := h
  rw [List.take_add_one, e] at hv
  rcases List.mem_append.mp hv with z | z
  · exact .inl ⟨v, z, r⟩
  · obtain rfl : v = x := by simpa using z
    exact .inr r
/-- two neighbours are unlike -/
def Nb (L : List Int) (i : Nat) : Prop := ∃ k u v, k < i ∧ L[k]? = some u ∧ L[k + 1]? = some v ∧ u ≠ v
theorem nb_of {L : List Int} {x : Int} (h : L[0]? = some x) : ∀ {n : Nat} {y : Int}, L[n]? = some y → x ≠ y → Nb L n
  | 0, y, e, ne => by
    rw [h] at e
    exact absurd (Option.some.inj e) ne
  | n + 1, y, e, ne => by
    have hn : n < L.length := by
      have := (List.getElem?_eq_some_iff.mp e).1
      omega
    by_cases z : L[n] = y
    · obtain ⟨k, u, v, h1, h2⟩ := nb_of h (n := n) (y := y) (by rw [List.getElem?_eq_getElem hn, z]) ne
      exact ⟨k, u, v, by omega, h2⟩
    · exact ⟨n, L[n], y, by omega, List.getElem?_eq_getElem hn, e, z⟩
theorem Nb.down {L : List Int} {j : Nat} (h : Nb L (j + 1)) (e : ∀ u v, L[j]? = some u → L[j + 1]? = some v → u = v) : Nb L j := by
  obtain ⟨k, u, v, h1, h2, h3, h4⟩ := h
  by_cases z : k = j
  · subst z
    exact absurd (e u v h2 h3) h4
  · exact ⟨k, u, v, by omega, h2, h3, h4⟩
def sorts0 (acc : List V) : List V := [.str "in", .str "out"] ++ acc
def MB (a l : Addr) (H0 : Hp) (N places full doors : Int) : L2.St → Hp → Prop := fun σ H => ∃ (po pf pn : Addr) (many long wide late cut : Int) (ps : List Int) (sort : Option V) (xs : List V),
  σ = sgA a po pf pn places full doors many long wide late cut none sort none none none none none none none none none none ∧ Hm many cut ps ∧ many ≤ places ∧ Hl long wide late ∧ B0 a l po H0 ps (N + 200) H ∧
  Fr a l H0 pf ∧ Fr a l H0 pn ∧ po ≠ pf ∧ po ≠ pn ∧ pf ≠ pn ∧ H pf = some (.lst []) ∧ H pn = some (.lst xs) ∧ AllT H (Dok ps (Sof ps cut)) xs ∧ Has H InT xs ∧ Has H OutT xs ∧ 2 ≤ xs.length ∧ (xs.length : Int) ≤ doors
structure LB (a l : Addr) (H0 : Hp) (N : Int) (po pf pn q : Addr) (cut : Int) (ps : List Int) (sorts : List V) (sh : L2.St → Prop) (i : Nat) (σ : L2.St) (H : Hp) : Prop where
  s : sh σ
  b : B0 a l po H0 ps (N + 2 * i) H
  f : H pf = some (.lst [])
  q : H q = some (.lst sorts)
  n : ∃ xs, H pn = some (.lst xs) ∧ xs.length = i ∧ AllT H (Dok ps (Sof ps cut)) xs ∧ (0 < i → Has H InT xs) ∧ (1 < i → Has H OutT xs)
def MC (a l : Addr) (H0 : Hp) (N places full doors : Int) : L2.St → Hp → Prop := fun σ H => ∃ (po pf pn pb pe : Addr) (many long wide late cut : Int) (ps bs es : List Int) (sort : Option V) (xs : List V),
  σ = sgA a po pf pn places full doors many long wide late cut none sort (some (.ref pb)) (some (.ref pe)) none none none none none none none none ∧ Hm many cut ps ∧ many ≤ places ∧ Hl long wide late ∧ B0 a l po H0 ps (N + 200) H ∧
  Fr a l H0 pf ∧ Fr a l H0 pn ∧ po ≠ pf ∧ po ≠ pn ∧ pf ≠ pn ∧ H pf = some (.lst []) ∧ H pn = some (.lst xs) ∧ AllT H (Dok ps (Sof ps cut)) xs ∧ Has H InT xs ∧ Has H OutT xs ∧ 2 ≤ xs.length ∧ (xs.length : Int) ≤ doors ∧
  Ends a l H0 pb ps bs H ∧ Ends a l H0 pe ps es H ∧ pb ≠ pf ∧ pe ≠ pf ∧ (∀ x ∈ bs, Sof ps cut x = true) ∧ ∀ x ∈ es, Sof ps cut x = false
theorem Ends.draw {a l p : Addr} {H0 H H' : Hp} {ps bs : List Int} (x : Ends a l H0 p ps bs H) (b : But2 a l H H') : Ends a l H0 p ps bs H' := ⟨x.r, b _ _ x.r.na x.r.nl x.h, x.n, x.m, x.s⟩
theorem Ends.same {a l p : Addr} {H0 H H' : Hp} {ps bs : List Int} (x : Ends a l H0 p ps bs H) (b : Same H H') : Ends a l H0 p ps bs H' := ⟨x.r, b _ _ x.h, x.n, x.m, x.s⟩
theorem Ends.set {a l p q : Addr} {H0 H : Hp} {o : HO} {ps bs : List Int} (x : Ends a l H0 p ps bs H) (h : p ≠ q) : Ends a l H0 p ps bs (upd H q o) := ⟨x.r, by rw [upd_ne h]; exact x.h, x.n, x.m, x.s⟩
/-- what stays while roads are laid -/
structure Kept (a l : Addr) (H0 : Hp) (po pf pn pb pe : Addr) (ps bs es : List Int) (xs : List V) (G0 : Hp) (n : Int) (H : Hp) : Prop where
  b : B0 a l po H0 ps n H
  n : H pn = some (.lst xs)
  t : TL G0 H
  x : Ends a l H0 pb ps bs H
  y : Ends a l H0 pe ps es H
  fn : Fr a l H0 pn
theorem Kept.draw {a l po pf pn pb pe : Addr} {H0 G0 H H' : Hp} {ps bs es : List Int} {xs : List V} {n m : Int} (w : Kept a l H0 po pf pn pb pe ps bs es xs G0 n H) (b : But2 a l H H') (S : Strm m H' a l) : Kept a l H0 po pf pn pb pe ps bs es xs G0 m H' :=
  ⟨w.b.draw b S, b _ _ w.fn.na w.fn.nl w.n, w.t.trans (b.tl w.b.t), w.x.draw b, w.y.draw b, w.fn⟩
theorem Kept.same {a l po pf pn pb pe : Addr} {H0 G0 H H' : Hp} {ps bs es : List Int} {xs : List V} {n : Int} (w : Kept a l H0 po pf pn pb pe ps bs es xs G0 n H) (b : Same H H') : Kept a l H0 po pf pn pb pe ps bs es xs G0 n H' :=
  ⟨w.b.same b, b _ _ w.n, w.t.trans fun c t e => b _ _ e, w.x.same b, w.y.same b, w.fn⟩
theorem Kept.new {a l po pf pn pb pe p : Addr} {H0 G0 H : Hp} {o : HO} {ps bs es : List Int} {xs : List V} {n : Int} (w : Kept a l H0 po pf pn pb pe ps bs es xs G0 n H) (h : H p = none) : Kept a l H0 po pf pn pb pe ps bs es xs G0 n (upd H p o) := w.same (same_new h)
theorem Kept.set {a l po pf pn pb pe p : Addr} {H0 G0 H : Hp} {o : HO} {zs : List V} {ps bs es : List Int} {xs : List V} {n : Int} (w : Kept a l H0 po pf pn pb pe ps bs es xs G0 n H) (r : Fr a l H0 p) (h : H p = some (.lst zs)) (h1 : p ≠ po) (h2 : p ≠ pn) (h3 : p ≠ pb) (h4 : p ≠ pe) : Kept a l H0 po pf pn pb pe ps bs es xs G0 n (upd H p o) :=
  ⟨w.b.set r h1, by rw [upd_ne h2.symm]; exact w.n, w.t.trans (TL.set h), w.x.set h3.symm, w.y.set h4.symm, w.fn⟩
theorem Kept.mono {a l po pf pn pb pe : Addr} {H0 G0 H : Hp} {ps bs es : List Int} {xs : List V} {n m : Int} (w : Kept a l H0 po pf pn pb pe ps bs es xs G0 n H) (h : n ≤ m) : Kept a l H0 po pf pn pb pe ps bs es xs G0 m H := ⟨w.b.mono h, w.n, w.t, w.x, w.y, w.fn⟩
structure LE (a l : Addr) (H0 : Hp) (N : Int) (po pf pn pb pe : Addr) (ps bs es : List Int) (xs : List V) (G0 : Hp) (sh : L2.St → Prop) (i : Nat) (σ : L2.St) (H : Hp) : Prop where
  s : sh σ
  w : Kept a l H0 po pf pn pb pe ps bs es xs G0 (N + 110 * i) H
  f : ∃ fs, H pf = some (.lst fs) ∧ (fs.length ≤ 30 + i ∧ 0 < fs.length) ∧ AllT H (Pok ps) fs
structure LD (a l : Addr) (H0 : Hp) (N : Int) (po pf pn pb pe : Addr) (ps bs es : List Int) (xs : List V) (G0 : Hp) (sh : L2.St → Prop) (i : Nat) (σ : L2.St) (H : Hp) : Prop where
  s : sh σ
  w : Kept a l H0 po pf pn pb pe ps bs es xs G0 (N + 110 * i) H
  f : ∃ fs, H pf = some (.lst fs) ∧ (fs.length ≤ 3 * i ∧ (0 < i → 0 < fs.length)) ∧ AllT H (Pok ps) fs
def MD (cap : Nat) (a l : Addr) (H0 : Hp) (N M places full doors : Int) : L2.St → Hp → Prop := fun σ H => ∃ (po pf pn pb pe : Addr) (many long wide late cut : Int) (ps bs es : List Int) (k sort line one other : Option V) (xs fs : List V) (G0 : Hp),
  σ = sgA a po pf pn places full doors many long wide late cut k sort (some (.ref pb)) (some (.ref pe)) line one other none none none none none ∧ Hm many cut ps ∧ many ≤ places ∧ Hl long wide late ∧
  Fr a l H0 pf ∧ po ≠ pf ∧ po ≠ pn ∧ pf ≠ pn ∧ AllT G0 (Dok ps (Sof ps cut)) xs ∧ Has G0 InT xs ∧ Has G0 OutT xs ∧ 2 ≤ xs.length ∧ (xs.length : Int) ≤ doors ∧
  Kept a l H0 po pf pn pb pe ps bs es xs G0 (N + M) H ∧ pb ≠ pf ∧ pe ≠ pf ∧ H pf = some (.lst fs) ∧ (fs.length ≤ cap ∧ 0 < fs.length) ∧ AllT H (Pok ps) fs
/-- the ranks of the places, in a list at pk -/
structure Rnk (a l : Addr) (H0 : Hp) (pk : Addr) (ps rs : List Int) (H : Hp) : Prop where
  r : Fr a l H0 pk
  h : H pk = some (.lst (rs.map V.int))
  p : List.Perm rs ps
def rkOf (rs : List Int) (x : Int) : Nat := rs.idxOf x
theorem idx_ok {x : Int} : ∀ {rs : List Int}, x ∈ rs → (rs.map V.int)[rs.idxOf x]? = some (.int x) ∧ ∀ (m : Nat) (z' : V), m < rs.idxOf x → (rs.map V.int)[m]? = some z' → eqV z' (.int x) = false
  | y :: r, h => by
    rw [List.idxOf_cons]
    by_cases e : y = x
    · subst e
      rw [beq_self_eq_true]
      exact ⟨rfl, fun m z' hm => absurd hm (Nat.not_lt_zero _)⟩
    · have e2 : (y == x) = false := by simpa using e
      rw [e2]
      have hr : x ∈ r := by
        rcases List.mem_cons.mp h with q | q
        · exact absurd q.symm e
        · exact q
      obtain ⟨h1, h2⟩ := idx_ok hr
      refine ⟨h1, fun m z' hm hz => ?_⟩
      match m, hm, hz with
      | 0, _, hz =>
        obtain rfl := Option.some.inj hz
        exact decide_eq_false e
      | m + 1, hm, hz => exact h2 m z' (Nat.lt_of_succ_lt_succ hm) hz
theorem ints_flat (rs : List Int) : (rs.map V.int).all flatV = true := by
  rw [List.all_map]
  exact List.all_eq_true.mpr fun _ _ => rfl
theorem idx_lt {x y : Int} {rs : List Int} (hx : x ∈ rs) (hy : y ∈ rs) (n : x ≠ y) (h : ¬ rs.idxOf x > rs.idxOf y) : rkOf rs x < rkOf rs y := by
  unfold rkOf
  refine Nat.lt_of_le_of_ne (Nat.le_of_not_lt h) fun z => n ?_
  have h1 := (idx_ok hx).1
  have h2 := (idx_ok hy).1
  rw [z, h2] at h1
  exact (V.int.inj (Option.some.inj h1)).symm
def MF (a l : Addr) (H0 : Hp) (N M places full doors : Int) : L2.St → Hp → Prop := fun σ H => ∃ (po pf pn pb pe pr pk : Addr) (many long wide late cut : Int) (ps bs es rs : List Int) (k sort line one other length : Option V) (xs fs rd : List V) (G0 : Hp),
  σ = sgA a po pf pn places full doors many long wide late cut k sort (some (.ref pb)) (some (.ref pe)) line one other (some (.ref pr)) (some (.ref pk)) length none none ∧ Hm many cut ps ∧ many ≤ places ∧ Hl long wide late ∧
  Fr a l H0 pr ∧ pr ≠ po ∧ pr ≠ pn ∧ pr ≠ pb ∧ pr ≠ pe ∧ pr ≠ pk ∧ AllT G0 (Dok ps (Sof ps cut)) xs ∧ Has G0 InT xs ∧ Has G0 OutT xs ∧ 2 ≤ xs.length ∧ (xs.length : Int) ≤ doors ∧
  Kept a l H0 po pf pn pb pe ps bs es xs G0 (N + M) H ∧ H pf = some (.lst fs) ∧ (fs.length ≤ 33 ∧ 0 < fs.length) ∧ AllT H (Pok ps) fs ∧ Rnk a l H0 pk ps rs H ∧ H pr = some (.lst rd) ∧ (rd.length : Int) ≤ full ∧ AllT H (Rok ps (rkOf rs)) rd
def MG (a l : Addr) (H0 : Hp) (N M places full doors : Int) : L2.St → Hp → Prop := fun σ H => ∃ (po pf pn pb pe pr pk : Addr) (many long wide late cut : Int) (ps bs es rs : List Int) (k sort line one other length cr at_ : Option V) (xs rd : List V) (G0 : Hp),
  σ = sgA a po pf pn places full doors many long wide late cut k sort (some (.ref pb)) (some (.ref pe)) line one other (some (.ref pr)) (some (.ref pk)) length cr at_ ∧ Hm many cut ps ∧ many ≤ places ∧ Hl long wide late ∧
  Fr a l H0 pr ∧ pr ≠ po ∧ pr ≠ pn ∧ pr ≠ pb ∧ pr ≠ pe ∧ pr ≠ pk ∧ AllT G0 (Dok ps (Sof ps cut)) xs ∧ Has G0 InT xs ∧ Has G0 OutT xs ∧ 2 ≤ xs.length ∧ (xs.length : Int) ≤ doors ∧
  Kept a l H0 po pf pn pb pe ps bs es xs G0 (N + M) H ∧ Rnk a l H0 pk ps rs H ∧ H pr = some (.lst rd) ∧ ((rd.length : Int) ≤ full ∧ (1 ≤ full → 0 < rd.length)) ∧ AllT H (Rok ps (rkOf rs)) rd
structure LG (a l : Addr) (H0 : Hp) (N : Int) (po pf pn pb pe pr pk q : Addr) (ps bs es rs : List Int) (xs qs : List V) (G0 : Hp) (sh : L2.St → Prop) (i : Nat) (σ : L2.St) (H : Hp) : Prop where
  s : sh σ
  w : Kept a l H0 po pf pn pb pe ps bs es xs G0 (N + 2 * i) H
  q : H q = some (.lst qs)
  aq : AllT H (Pok ps) qs
  R : Rnk a l H0 pk ps rs H
  r : ∃ rd, H pr = some (.lst rd) ∧ rd.length = i ∧ AllT H (Rok ps (rkOf rs)) rd
theorem Rnk.draw {a l pk : Addr} {H0 H H' : Hp} {ps rs : List Int} (x : Rnk a l H0 pk ps rs H) (b : But2 a l H H') : Rnk a l H0 pk ps rs H' := ⟨x.r, b _ _ x.r.na x.r.nl x.h, x.p⟩
theorem Rnk.same {a l pk : Addr} {H0 H H' : Hp} {ps rs : List Int} (x : Rnk a l H0 pk ps rs H) (b : Same H H') : Rnk a l H0 pk ps rs H' := ⟨x.r, b _ _ x.h, x.p⟩
theorem Rnk.set {a l pk q : Addr} {H0 H : Hp} {o : HO} {ps rs : List Int} (x : Rnk a l H0 pk ps rs H) (h : q ≠ pk) : Rnk a l H0 pk ps rs (upd H q o) := ⟨x.r, by rw [upd_ne h.symm]; exact x.h, x.p⟩
theorem mem_set_or {w v : V} : ∀ {xs : List V} {j : Nat}, v ∈ xs → v ∈ xs.set j w ∨ xs[j]? = some v
  | x :: r, 0, h => by
    rcases List.mem_cons.mp h with rfl | q
    · exact .inr rfl
    · exact .inl (List.mem_cons_of_mem _ q)
  | x :: r, j + 1, h => by
    rcases List.mem_cons.mp h with rfl | q
    · exact .inl List.mem_cons_self
    · rcases mem_set_or (j := j) q with z | z
      · exact .inl (List.mem_cons_of_mem _ z)
      · exact .inr z
/-- ints and tuples are unlike -/
theorem ints_ne {H : Hp} {p q : Addr} {ps : List Int} {xs : List V} {P : List V → Prop} (h1 : H p = some (.lst (ps.map V.int))) (h2 : H q = some (.lst xs)) (a : AllT H P xs) (n : 0 < ps.length) : q ≠ p := fun z => by
  rw [z, h1] at h2
  have e := HO.lst.inj (Option.some.inj h2)
  match ps, n, e with
  | i :: r, _, e =>
    rw [← e] at a
    obtain ⟨p', t, e1, _⟩ := a (V.int i) List.mem_cons_self
    cases e1
theorem ixN_at {n : Nat} {d : Int} (h0 : 0 ≤ d) (h1 : d < n) : ixN n d = some d.toNat := by
  unfold ixN
  rw [if_pos h0, if_pos h1]
theorem sof_in {ps : List Int} {cut : Int} {x : Int} (h : x ∈ ps.take cut.toNat) : Sof ps cut x = true := decide_eq_true h
theorem sof_out {ps : List Int} {cut : Int} {x : Int} (hn : ps.Nodup) (h : x ∈ ps.drop cut.toNat) : Sof ps cut x = false := by
  refine decide_eq_false fun z => ?_
  have e := List.take_append_drop cut.toNat ps
  rw [← e] at hn
  exact (List.nodup_append.mp hn).2.2 x z x h rfl
section
variable {P : Program} {w : World} {K : PySem.W.Frag} {mg : Str → Option Value} {base : Heap}
theorem ok_house {f fD fP fM fS : Addr} {fd fdD fdP fdM fdS : FuncData} (F : Fun K "_law_house" "_law_house" sHouse f fd) (T : Bt mg)
    (FD : Fun K "_law_draw" "_law_draw" sDraw fD fdD) (gD : mg "_law_draw" = some (.ref fD)) (bD : Binds K fdD ["_law_stream_here", "_law_many"] [])
    (FP : Fun K "_law_pick" "_law_pick" sPick fP fdP) (gP : mg "_law_pick" = some (.ref fP)) (bP : Binds K fdP ["_law_stream_here", "_law_things"] [])
    (FM : Fun K "_law_mixed" "_law_mixed" sMixed fM fdM) (gM : mg "_law_mixed" = some (.ref fM)) (bM : Binds K fdM ["_law_stream_here", "_law_things"] [])
    (FS : Fun K "_law_stepping" "_law_stepping" sStepping fS fdS) (gS : mg "_law_stepping" = some (.ref fS)) (bS : Binds K fdS ["_law_stream_here", "_law_begin", "_law_end", "_law_order", "_law_wide"] []) :
    FnOk P w K mg base CX0 3 f fd ["_law_stream_here", "_law_places", "_law_full", "_law_doors"] spHouse := by
  have GD : FnOk P w K mg base CX0 1 fD fdD ["_law_stream_here", "_law_many"] spDraw := ok_draw FD T
  have GP : FnOk P w K mg base CX0 2 fP fdP ["_law_stream_here", "_law_things"] spPick := ok_pick FP T FD gD bD
  have GM : FnOk P w K mg base CX0 2 fM fdM ["_law_stream_here", "_law_things"] spMixed := ok_mixed FM T FD gD bD
  have GS : FnOk P w K mg base CX0 2 fS fdS ["_law_stream_here", "_law_begin", "_law_end", "_law_order", "_law_wide"] spStepping := ok_stepping FS T FD gD bD
  refine F.ok scHouse (fun vs H Q E h => ?_) (fun cdv A outer s H vs Q E hr h => ?_)
  · obtain ⟨a, l, N, places, full, doors, rfl, _⟩ := h
    rfl
  · obtain ⟨a, l, N, places, full, doors, rfl, S, hN0, hN1, hp2, hp20, hf0, hf1, hd2, hd20, k⟩ := h
    refine ⟨_, (pss_cons (ps_set (i := 4) scHouse.nd rfl (Or.inl rfl) (pe_op op_add pe_int (pe_callB (call_max2 rfl) (by rfl) T.max (by decide +kernel) (pa_cons (pe_call GD (hr.mono (by decide)) (by rfl) gD FD.kp bD .nil pass0 (pa_cons (pv 0) (pa_cons (pe_op op_sub (pv 1) pe_int) pa_nil))) (pa_cons (pe_call GD (hr.mono (by decide)) (by rfl) gD FD.kp bD .nil pass0 (pa_cons (pv 0) (pa_cons (pe_op op_sub (pv 1) pe_int) pa_nil))) pa_nil)))))
  (pss_cons (ps_par3 (i := 5) (j := 6) (l := 7) (by rfl) scHouse.nd rfl rfl rfl (by decide) (by decide) (by decide) rfl rfl rfl (pa_cons (pe_call GM hr (by rfl) gM FM.kp bM .nil pass0 (pa_cons (pv 0) (pa_cons (pe_listRg rfl (by rfl) T.list (prg_1 (by rfl) T.range (pv 4))) pa_nil))) (pa_cons (pe_lst pa_nil) (pa_cons (pe_lst pa_nil) pa_nil))) (by rfl))
  (pss_cons (ps_par3 (i := 8) (j := 9) (l := 10) (by rfl) scHouse.nd rfl rfl rfl (by decide) (by decide) (by decide) rfl rfl rfl (pa_cons (pe_call GP hr (by rfl) gP FP.kp bP .nil pass0 (pa_cons (pv 0) (pa_cons (pe_lst (pa_cons pe_int (pa_cons pe_int (pa_cons pe_int (pa_cons pe_int pa_nil))))) pa_nil))) (pa_cons (pe_call GP hr (by rfl) gP FP.kp bP .nil pass0 (pa_cons (pv 0) (pa_cons (pe_lst (pa_cons pe_int (pa_cons pe_int (pa_cons pe_int (pa_cons pe_int pa_nil))))) pa_nil))) (pa_cons (pe_call GP hr (by rfl) gP FP.kp bP .nil pass0 (pa_cons (pv 0) (pa_cons (pe_lst (pa_cons pe_int (pa_cons pe_int (pa_cons pe_int pa_nil)))) pa_nil))) pa_nil))) (by rfl))
  (Evl.pss_cut (ps_set (i := 11) scHouse.nd rfl (Or.inl rfl) (pe_call GP hr (by rfl) gP FP.kp bP .nil pass0 (pa_cons (pv 0) (pa_cons (pe_lst (pa_cons (pe_op op_add pe_int (pe_call GD (hr.mono (by decide)) (by rfl) gD FD.kp bD .nil pass0 (pa_cons (pv 0) (pa_cons (pe_op op_sub (pv 4) pe_int) pa_nil)))) (pa_cons (pe_op op_fdiv (pv 4) pe_int) (pa_cons (pe_op op_fdiv (pe_op op_add (pv 4) pe_int) pe_int) pa_nil)))) pa_nil))))
  (Evl.pss_cut (ps_for PassesOwn.never rfl (pi_list (pe_op op_cat (pe_lst (pa_cons pe_str (pa_cons pe_str pa_nil))) (pe_lc (own := [("_law_k", 12)]) (g := gName 12) (tt := tYes) rfl scHouse.nd (pi_range1 (by rfl) T.range (pa_cons (pe_call GD (hr.mono (by decide)) (by rfl) gD FD.kp bD .nil pass0 (pa_cons (pv 0) (pa_cons (pe_op op_sub (pv 3) pe_int) pa_nil))) pa_nil)) (blkOk_by (N := NHouse) (sc := defScope sHouse) (by decide +kernel)) (fun _ _ _ _ _ => (pg_name (i := 12) (x := "_law_k") scHouse.nd rfl (Or.inl rfl))) (fun _ _ _ _ _ => pts_nil) (fun _ _ _ _ _ => (pe_call GP hr (by rfl) gP FP.kp bP .nil pass0 (pa_cons (pv 0) (pa_cons (pe_lst (pa_cons pe_str (pa_cons pe_str pa_nil))) pa_nil))))))) (pg_name (i := 13) (x := "_law_sort") scHouse.nd rfl (Or.inl rfl)) (pss_one (ps_expr (pe_bm PySem.F.plainAttrs_list PySem.F.slot_list_append PySem.F.type_list_append mt_append (pv 7) (pa_cons (pe_tup (pa_cons (pv 13) (pa_cons (pe_call GP hr (by rfl) gP FP.kp bP .nil pass0 (pa_cons (pv 0) (pa_cons (pe_ifExp (pt_cmpR op_eq (pv 13) pe_str (nomark _)) (pe_slice sl_list (pv 5) po_none (po_some (pv 11))) (pe_slice sl_list (pv 5) (po_some (pv 11)) po_none)) pa_nil))) (pa_cons (pe_call GD (hr.mono (by decide)) (by rfl) gD FD.kp bD .nil pass0 (pa_cons (pv 0) (pa_cons (pv 10) pa_nil))) pa_nil)))) pa_nil)))))
  (Evl.pss_cut (ps_par (i := 14) (j := 15) (by rfl) scHouse.nd rfl rfl (by decide) rfl rfl (pa_cons (pe_lc (own := [("_law_door", 24)]) (g := gName 24) rfl scHouse.nd (pi_list (pv 7)) (blkOk_by (N := NHouse) (sc := defScope sHouse) (by decide +kernel)) (fun _ _ _ _ _ => (pg_name (i := 24) (x := "_law_door") scHouse.nd rfl (Or.inl rfl))) (fun _ _ _ _ _ => (pts_one (pt_cmpR op_eq (pe_ix (ixT (K := K) rfl) (pv 24) pe_int (fun _ _ => rfl)) pe_str (nomark _)))) (fun _ _ _ _ _ => (pe_ix (ixT (K := K) rfl) (pv 24) pe_int (fun _ _ => rfl)))) (pa_cons (pe_lc (own := [("_law_door", 24)]) (g := gName 24) rfl scHouse.nd (pi_list (pv 7)) (blkOk_by (N := NHouse) (sc := defScope sHouse) (by decide +kernel)) (fun _ _ _ _ _ => (pg_name (i := 24) (x := "_law_door") scHouse.nd rfl (Or.inl rfl))) (fun _ _ _ _ _ => (pts_one (pt_cmpR op_eq (pe_ix (ixT (K := K) rfl) (pv 24) pe_int (fun _ _ => rfl)) pe_str (nomark _)))) (fun _ _ _ _ _ => (pe_ix (ixT (K := K) rfl) (pv 24) pe_int (fun _ _ => rfl)))) pa_nil)) (by rfl))
  (Evl.pss_cut (ps_for PassesOwn.never rfl (pi_range1 (by rfl) T.range (pa_cons (pe_op op_add pe_int (pe_call GD (hr.mono (by decide)) (by rfl) gD FD.kp bD .nil pass0 (pa_cons (pv 0) (pa_cons pe_int pa_nil)))) pa_nil)) (pg_name (i := 12) (x := "_law_k") scHouse.nd rfl (Or.inl rfl)) (pss_cons (ps_set (i := 16) scHouse.nd rfl (Or.inl rfl) (pe_op op_cat (pe_lst (pa_cons (pe_call GP hr (by rfl) gP FP.kp bP .nil pass0 (pa_cons (pv 0) (pa_cons (pv 14) pa_nil))) pa_nil)) (pe_slice sl_list (pe_call GM hr (by rfl) gM FM.kp bM .nil pass0 (pa_cons (pv 0) (pa_cons (pv 5) pa_nil))) po_none (po_some (pe_call GP hr (by rfl) gP FP.kp bP .nil pass0 (pa_cons (pv 0) (pa_cons (pe_lst (pa_cons pe_int (pa_cons pe_int (pa_cons pe_int (pa_cons pe_int (pa_cons pe_int pa_nil)))))) pa_nil)))))))
  (pss_cons (ps_expr (pe_bm PySem.F.plainAttrs_list PySem.F.slot_list_append PySem.F.type_list_append mt_append (pv 16) (pa_cons (pe_call GP hr (by rfl) gP FP.kp bP .nil pass0 (pa_cons (pv 0) (pa_cons (pv 15) pa_nil))) pa_nil)))
  (pss_one (ps_expr (pe_bm PySem.F.plainAttrs_list PySem.F.slot_list_extend PySem.F.type_list_extend mt_extend (pv 6) (pa_cons (pe_lc (own := [("_law_one", 17), ("_law_other", 18)]) (g := gTup K 2 (gCons (gName 17) (gCons (gName 18) gNil))) rfl scHouse.nd (pi_zip (by rfl) T.zip (pa_cons (pv 16) (pa_cons (pe_slice sl_list (pv 16) (po_some pe_int) po_none) pa_nil))) (blkOk_by (N := NHouse) (sc := defScope sHouse) (by decide +kernel)) (fun _ _ _ _ _ => (pg_tup rfl (pgs_cons (pg_name (i := 17) (x := "_law_one") scHouse.nd rfl (Or.inl rfl)) (pgs_cons (pg_name (i := 18) (x := "_law_other") scHouse.nd rfl (Or.inl rfl)) pgs_nil)))) (fun _ _ _ _ _ => (pts_one (pt_cmpR op_ne (pv 17) (pv 18) (nomark _)))) (fun _ _ _ _ _ => (pe_tup (pa_cons (pv 17) (pa_cons (pv 18) pa_nil))))) pa_nil)))))))
  (Evl.pss_cut (ps_for PassesOwn.never rfl (pi_range1 (by rfl) T.range (pa_cons (pe_call GD (hr.mono (by decide)) (by rfl) gD FD.kp bD .nil pass0 (pa_cons (pv 0) (pa_cons pe_int pa_nil))) pa_nil)) (pg_name (i := 12) (x := "_law_k") scHouse.nd rfl (Or.inl rfl)) (pss_cons (ps_asg (pe_slice sl_list (pe_call GM hr (by rfl) gM FM.kp bM .nil pass0 (pa_cons (pv 0) (pa_cons (pv 5) pa_nil))) po_none (po_some pe_int)) (pg_unl rfl (pgs_cons (pg_name (i := 17) (x := "_law_one") scHouse.nd rfl (Or.inl rfl)) (pgs_cons (pg_name (i := 18) (x := "_law_other") scHouse.nd rfl (Or.inl rfl)) pgs_nil))))
  (pss_one (ps_expr (pe_bm PySem.F.plainAttrs_list PySem.F.slot_list_append PySem.F.type_list_append mt_append (pv 6) (pa_cons (pe_tup (pa_cons (pv 17) (pa_cons (pv 18) pa_nil))) pa_nil))))))
  (Evl.pss_cut (ps_par (i := 19) (j := 20) (by rfl) scHouse.nd rfl rfl (by decide) rfl rfl (pa_cons (pe_lst pa_nil) (pa_cons (pe_call GP hr (by rfl) gP FP.kp bP .nil pass0 (pa_cons (pv 0) (pa_cons (pe_lst (pa_cons (pv 5) (pa_cons (pv 5) (pa_cons (pe_call GM hr (by rfl) gM FM.kp bM .nil pass0 (pa_cons (pv 0) (pa_cons (pv 5) pa_nil))) pa_nil)))) pa_nil))) pa_nil)) (by rfl))
  (Evl.pss_cut (ps_for PassesOwn.never rfl (pi_list (pe_slice sl_list (pv 6) po_none (po_some (pv 2)))) (pg_tup rfl (pgs_cons (pg_name (i := 17) (x := "_law_one") scHouse.nd rfl (Or.inl rfl)) (pgs_cons (pg_name (i := 18) (x := "_law_other") scHouse.nd rfl (Or.inl rfl)) pgs_nil))) (pss_cons (ps_set (i := 21) scHouse.nd rfl (Or.inl rfl) (pe_call GD (hr.mono (by decide)) (by rfl) gD FD.kp bD .nil pass0 (pa_cons (pv 0) (pa_cons (pe_op op_add (pv 8) pe_int) pa_nil))))
  (Evl.pss_cut (ps_set (i := 21) scHouse.nd rfl (Or.inl rfl) (pe_ifExp (PW.pt (pw_and (pt_cmpR op_eq (pv 21) pe_int (nomark _)) (pw_and1 (pt_cmpR op_gt (pe_bm PySem.F.plainAttrs_list PySem.F.slot_list_index PySem.F.type_list_index mt_index (pv 20) (pa_cons (pv 17) pa_nil)) (pe_bm PySem.F.plainAttrs_list PySem.F.slot_list_index PySem.F.type_list_index mt_index (pv 20) (pa_cons (pv 18) pa_nil)) (nomark _))))) pe_int (pv 21)))
  (pss_one (ps_expr (pe_bm PySem.F.plainAttrs_list PySem.F.slot_list_append PySem.F.type_list_append mt_append (pv 19) (pa_cons (pe_tup (pa_cons (pv 17) (pa_cons (pv 18) (pa_cons (pv 21) (pa_cons (pe_op op_add pe_int (pe_call GD (hr.mono (by decide)) (by rfl) gD FD.kp bD .nil pass0 (pa_cons (pv 0) (pa_cons (pv 9) pa_nil)))) pa_nil))))) pa_nil)))))))
  (Evl.pss_cut (ps_if (PW.pt (pw_and (pt_cmpR op_gt (pv 4) pe_int (nomark _)) (pw_and (pt_cmpR op_gt (pv 2) pe_int (nomark _)) (pw_and1 (pt_cmpR op_eq (pe_call GD (hr.mono (by decide)) (by rfl) gD FD.kp bD .nil pass0 (pa_cons (pv 0) (pa_cons pe_int pa_nil))) pe_int (nomark _)))))) (pss_cons (ps_set (i := 22) scHouse.nd rfl (Or.inl rfl) (pe_call GS hr (by rfl) gS FS.kp bS .nil pass0 (pa_cons (pv 0) (pa_cons (pe_call GP hr (by rfl) gP FP.kp bP .nil pass0 (pa_cons (pv 0) (pa_cons (pv 14) pa_nil))) (pa_cons (pe_call GP hr (by rfl) gP FP.kp bP .nil pass0 (pa_cons (pv 0) (pa_cons (pv 15) pa_nil))) (pa_cons (pv 5) (pa_cons (pv 9) pa_nil)))))))
  (pss_one (ps_set (i := 19) scHouse.nd rfl (Or.inl rfl) (pe_call GM hr (by rfl) gM FM.kp bM .nil pass0 (pa_cons (pv 0) (pa_cons (pe_op op_cat (pv 22) (pe_slice sl_list (pv 19) po_none (po_some (pe_call GD (hr.mono (by decide)) (by rfl) gD FD.kp bD .nil pass0 (pa_cons (pv 0) (pa_cons (pe_op op_sub (pv 2) pe_int) pa_nil)))))) pa_nil)))))) pss_nil)
  (Evl.pss_cut (ps_if (PW.pt (pw_and (pt_cmpR op_eq (pe_call GD (hr.mono (by decide)) (by rfl) gD FD.kp bD .nil pass0 (pa_cons (pv 0) (pa_cons pe_int pa_nil))) pe_int (nomark _)) (pw_and1 (pt_cmpR op_gt (pe_callB call_len_seq (by rfl) T.len (by decide +kernel) (pa_cons (pv 19) pa_nil)) pe_int (nomark _))))) (pss_cons (ps_set (i := 23) scHouse.nd rfl (Or.inl rfl) (pe_call GD (hr.mono (by decide)) (by rfl) gD FD.kp bD .nil pass0 (pa_cons (pv 0) (pa_cons (pe_callB call_len_seq (by rfl) T.len (by decide +kernel) (pa_cons (pv 19) pa_nil)) pa_nil))))
  (pss_one (ps_asg (pe_tup (pa_cons (pe_ix ix_tup (pe_ix ix_list (pv 19) (pv 23) (fun _ _ => rfl)) pe_int (fun _ _ => rfl)) (pa_cons (pe_ix ix_tup (pe_ix ix_list (pv 19) (pv 23) (fun _ _ => rfl)) pe_int (fun _ _ => rfl)) (pa_cons (pe_op op_add pe_int (pe_call GD (hr.mono (by decide)) (by rfl) gD FD.kp bD .nil pass0 (pa_cons (pv 0) (pa_cons pe_int pa_nil)))) (pa_cons (pe_ix ix_tup (pe_ix ix_list (pv 19) (pv 23) (fun _ _ => rfl)) pe_int (fun _ _ => rfl)) pa_nil))))) (pg_sub (pv 19) (pv 23) set_list)))) pss_nil)
  (Evl.pss_cut (ps_if (PW.pt (pw_and (pt_cmpR op_eq (pe_call GD (hr.mono (by decide)) (by rfl) gD FD.kp bD .nil pass0 (pa_cons (pv 0) (pa_cons pe_int pa_nil))) pe_int (nomark _)) (pw_and1 (pt_cmpR op_gt (pe_callB call_len_seq (by rfl) T.len (by decide +kernel) (pa_cons (pv 7) pa_nil)) pe_int (nomark _))))) (pss_cons (ps_set (i := 23) scHouse.nd rfl (Or.inl rfl) (pe_op op_add pe_int (pe_call GD (hr.mono (by decide)) (by rfl) gD FD.kp bD .nil pass0 (pa_cons (pv 0) (pa_cons (pe_op op_sub (pe_callB call_len_seq (by rfl) T.len (by decide +kernel) (pa_cons (pv 7) pa_nil)) pe_int) pa_nil)))))
  (pss_one (ps_asg (pe_tup (pa_cons (pe_ix ix_tup (pe_ix ix_list (pv 7) (pv 23) (fun _ _ => rfl)) pe_int (fun _ _ => rfl)) (pa_cons (pe_ix ix_tup (pe_ix ix_list (pv 7) (pv 23) (fun _ _ => rfl)) pe_int (fun _ _ => rfl)) (pa_cons (pe_op op_add pe_int (pe_call GD (hr.mono (by decide)) (by rfl) gD FD.kp bD .nil pass0 (pa_cons (pv 0) (pa_cons pe_int pa_nil)))) pa_nil)))) (pg_sub (pv 7) (pv 23) set_list)))) pss_nil)
  (pss_one (ps_ret (pe_tup (pa_cons (pv 4) (pa_cons (pv 19) (pa_cons (pe_call GM hr (by rfl) gM FM.kp bM .nil pass0 (pa_cons (pv 0) (pa_cons (pv 7) pa_nil))) pa_nil))))))))))))))))))), ?_⟩
    refine ⟨_, rfl, _, rfl, _, _, rfl, rfl, a, l, N, _, rfl, S, hN0, by omega, by omega, by omega, fun H1 m1 q1 r1 b1 S1 => ?_⟩
    refine ⟨_, rfl, _, rfl, _, _, rfl, rfl, a, l, _, _, rfl, S1, by omega, by omega, by omega, by omega, fun H2 m2 q2 r2 b2 S2 => ?_⟩
    refine ⟨_, _, rfl, _, _, rfl, rfl, ?_⟩
    dsimp only
    have hm2 : 2 ≤ 2 + (if m2 > m1 then m2 else m1) := by split <;> omega
    have hmp : 2 + (if m2 > m1 then m2 else m1) ≤ places := by split <;> omega
    generalize (2 + (if m2 > m1 then m2 else m1)) = many at hm2 hmp ⊢
    have c2 : But2 a l H H2 := b1.trans b2
    refine ⟨_, rfl, _, rfl, many, rfl, RgOk.of_le (by decide) (by omega) (by decide) (by omega), fun q0 hq0 => ?_⟩
    have S3 := S2.but (same_new (o := .lst (rgV 0 many)) hq0)
    have n0 := S2.ne_new hq0
    refine ⟨a, l, q0, _, _, rfl, S3, by omega, by omega, n0.1, n0.2, upd_same, by rw [rgV_length]; omega, fun H4 po ys pm b4 f4 o4 S4 => ?_⟩
    obtain ⟨ps, rfl, hnd, hlen, hmem⟩ := range_perm hm2 pm
    have c3 : But2 a l H (upd H2 q0 (.lst (rgV 0 many))) := but2_new c2 hq0
    have c4 := c3.trans b4
    have B4 : B0 a l po H ps (N + 102) H4 := ⟨c4, S4.mono (by omega), o4, Fr.of c3 S3 f4⟩
    refine ⟨Nat.zero_le _, fun pf hpf => ⟨Nat.zero_le _, fun pn hpn => ⟨_, _, _, rfl, ?_⟩⟩⟩
    have B5 := B4.new (o := .lst []) hpf
    have Ff := B4.fr hpf
    have n5 : po ≠ pf := ne_of_none B4.o hpf
    have B6 := B5.new (o := .lst []) hpn
    have Fn := B5.fr hpn
    have n6 : po ≠ pn := ne_of_none B5.o hpn
    have n7 : pf ≠ pn := ne_of_none (H := upd H4 pf (.lst [])) upd_same hpn
    have vf : upd (upd H4 pf (.lst [])) pn (.lst []) pf = some (.lst []) := by
      rw [upd_ne n7]
      exact upd_same
    have vn : upd (upd H4 pf (.lst [])) pn (.lst []) pn = some (.lst []) := upd_same
    clear B4 B5 c4 c3 o4 f4 b4 S4 S3 n0 hq0 b1 b2 S1 S2 c2 hpf
    generalize upd (upd H4 pf (.lst [])) pn (.lst []) = H6 at B6 vf vn ⊢
    refine ⟨_, rfl, (by show 4 ≤ sizeLine; decide), fun t1 h1 => ?_⟩
    have C1 := B6.new (o := .lst [.int 1, .int 2, .int 3, .int 5]) h1
    have vf1 := same_new (o := .lst [.int 1, .int 2, .int 3, .int 5]) h1 _ _ vf
    have vn1 := same_new (o := .lst [.int 1, .int 2, .int 3, .int 5]) h1 _ _ vn
    have g1 := B6.fr h1
    refine ⟨a, l, t1, _, _, rfl, C1.t, by omega, by omega, g1.na, g1.nl, upd_same, by decide, by decide, fun H7 v1 hv1 b7 S7 => ?_⟩
    have D1 := C1.draw b7 S7
    have vf2 := b7 _ _ Ff.na Ff.nl vf1
    have vn2 := b7 _ _ Fn.na Fn.nl vn1
    refine ⟨_, rfl, (by show 4 ≤ sizeLine; decide), fun t2 h2 => ?_⟩
    have C2 := D1.new (o := .lst [.int 1, .int 3, .int 3, .int 10]) h2
    have vf3 := same_new (o := .lst [.int 1, .int 3, .int 3, .int 10]) h2 _ _ vf2
    have vn3 := same_new (o := .lst [.int 1, .int 3, .int 3, .int 10]) h2 _ _ vn2
    have g2 := D1.fr h2
    refine ⟨a, l, t2, _, _, rfl, C2.t, by omega, by omega, g2.na, g2.nl, upd_same, by decide, by decide, fun H8 v2 hv2 b8 S8 => ?_⟩
    have D2 := C2.draw b8 S8
    have vf4 := b8 _ _ Ff.na Ff.nl vf3
    have vn4 := b8 _ _ Fn.na Fn.nl vn3
    refine ⟨_, rfl, (by show 3 ≤ sizeLine; decide), fun t3 h3 => ?_⟩
    have C3 := D2.new (o := .lst [.int 1, .int 1, .int 3]) h3
    have vf5 := same_new (o := .lst [.int 1, .int 1, .int 3]) h3 _ _ vf4
    have vn5 := same_new (o := .lst [.int 1, .int 1, .int 3]) h3 _ _ vn4
    have g3 := D2.fr h3
    refine ⟨a, l, t3, _, _, rfl, C3.t, by omega, by omega, g3.na, g3.nl, upd_same, by decide, by decide, fun H9 v3 hv3 b9 S9 => ?_⟩
    have D3 := C3.draw b9 S9
    have vf6 := b9 _ _ Ff.na Ff.nl vf5
    have vn6 := b9 _ _ Fn.na Fn.nl vn5
    refine ⟨_, _, _, rfl, ?_⟩
    obtain ⟨long, rfl, l1, l2⟩ : ∃ i : Int, v1 = .int i ∧ 1 ≤ i ∧ i ≤ 5 := by
      simp only [List.mem_cons, List.not_mem_nil, or_false] at hv1
      rcases hv1 with rfl | rfl | rfl | rfl
      all_goals exact ⟨_, rfl, by decide, by decide⟩
    obtain ⟨wide, rfl, w1, w2⟩ : ∃ i : Int, v2 = .int i ∧ 1 ≤ i ∧ i ≤ 10 := by
      simp only [List.mem_cons, List.not_mem_nil, or_false] at hv2
      rcases hv2 with rfl | rfl | rfl | rfl
      all_goals exact ⟨_, rfl, by decide, by decide⟩
    obtain ⟨late, rfl, e1, e2⟩ : ∃ i : Int, v3 = .int i ∧ 1 ≤ i ∧ i ≤ 3 := by
      simp only [List.mem_cons, List.not_mem_nil, or_false] at hv3
      rcases hv3 with rfl | rfl | rfl
      all_goals exact ⟨_, rfl, by decide, by decide⟩
    clear vf vn vf1 vn1 vf2 vn2 vf3 vn3 vf4 vn4 vf5 vn5 C1 C2 C3 D1 D2 g1 g2 g3 b7 b8 b9 S7 S8 S9 B6 h1 h2 h3
    refine ⟨MA a l H N places full doors, ?_, ?_⟩
    · refine ⟨_, rfl, _, rfl, _, rfl, _, _, rfl, rfl, a, l, _, _, rfl, D3.t, by omega, by omega, by omega, by omega, fun H10 d0 p0 r0 b10 S10 => ?_⟩
      have D4 := D3.draw b10 S10
      have vf7 := b10 _ _ Ff.na Ff.nl vf6
      have vn7 := b10 _ _ Fn.na Fn.nl vn6
      refine ⟨_, _, rfl, rfl, _, rfl, _, _, rfl, rfl, ⟨by decide, by decide⟩, _, rfl, _, _, rfl, rfl, _, _, rfl, rfl, ⟨by decide, by decide⟩, (by show 3 ≤ sizeLine; decide), fun t4 h4 => ?_⟩
      have g4 := D4.fr h4
      have C4 := D4.new (o := .lst [.int (1 + d0), .int (many / 2), .int ((many + 1) / 2)]) h4
      have vf8 := same_new (o := .lst [.int (1 + d0), .int (many / 2), .int ((many + 1) / 2)]) h4 _ _ vf7
      have vn8 := same_new (o := .lst [.int (1 + d0), .int (many / 2), .int ((many + 1) / 2)]) h4 _ _ vn7
      refine ⟨a, l, t4, _, _, rfl, C4.t, by omega, by omega, g4.na, g4.nl, upd_same, by show 0 < 3; decide, by show 3 ≤ 1000; decide, fun H11 v4 hv4 b11 S11 => ?_⟩
      obtain ⟨cut, rfl, k1, k2⟩ : ∃ i : Int, v4 = .int i ∧ 1 ≤ i ∧ i < many := by
        simp only [List.mem_cons, List.not_mem_nil, or_false] at hv4
        rcases hv4 with rfl | rfl | rfl
        · exact ⟨_, rfl, by omega, by omega⟩
        · exact ⟨_, rfl, by omega, by omega⟩
        · exact ⟨_, rfl, by omega, by omega⟩
      exact ⟨po, pf, pn, many, long, wide, late, cut, ps, rfl, ⟨hnd, hlen, hmem, k1, k2, hm2, by omega⟩, hmp, ⟨l1, l2, w1, w2, e1, e2⟩, (C4.draw b11 S11).mono (by omega), Ff, Fn, n5, n6, n7, b11 _ _ Ff.na Ff.nl vf8, b11 _ _ Fn.na Fn.nl vn8⟩
    · clear D3 vf6 vn6 Ff Fn n5 n6 n7 hnd hlen hmem hm2 hmp l1 l2 w1 w2 e1 e2 hv1 hv2 hv3
      clear hpn S
      rintro σ0 G0 ⟨po, pf, pn, many, long, wide, late, cut, ps, rfl, hm, hmp, hl, B, Ff, Fn, n5, n6', n7', vf, vn⟩
      have lenps := hm.len
      have lc1 := hm.c1
      have lc2 := hm.c2
      have lm2 := hm.m20
      refine ⟨MB a l H N places full doors, ?_, ?_⟩
      · refine ⟨(by show 2 ≤ sizeLine; decide), fun p1 hp1 => ?_⟩
        have B1 := B.new (o := .lst [.str "in", .str "out"]) hp1
        have g1 := B.fr hp1
        have s1 := same_new (o := .lst [.str "in", .str "out"]) hp1
        refine ⟨_, rfl, _, rfl, _, _, rfl, rfl, a, l, _, _, rfl, B1.t, by omega, by omega, by omega, by omega, fun H2 d p2 r2 b2 S2 => ?_⟩
        have B2 := B1.draw b2 S2
        refine ⟨d, rfl, by omega, by omega, fun D hD => ?_⟩
        have gD' := B2.fr hD
        refine lc_it walk_range (fun i H' => ∃ acc : List V, But2 a l H2 H' ∧ Strm (N + 111 + i) H' a l ∧ H' D = some (.lst acc) ∧ acc.length = i ∧ ∀ v ∈ acc, v = .str "in" ∨ v = .str "out")
          ⟨[], but2_new But2.refl hD, (S2.but (same_new hD)).mono (by omega), upd_same, rfl, fun v hv => by cases hv⟩ (fun i H' _ q => trivial) ?_ ?_
        · rintro i x H3 H4 hi ⟨acc, b3, S3, e3, l3, a3⟩ ⟨rfl, rfl⟩
          refine ⟨rfl, ?_⟩
          dsimp only [tYes]
          refine iteT ?_
          refine ⟨_, rfl, (by show 2 ≤ sizeLine; decide), fun t ht => ?_⟩
          have n3 := S3.ne_new ht
          refine ⟨a, l, t, _, _, rfl, S3.but (same_new ht), by omega, by omega, n3.1, n3.2, upd_same, by decide, by decide, fun H5 v hv b5 S5 => ?_⟩
          refine ⟨acc, b5 _ _ gD'.na gD'.nl (same_new ht _ _ e3), by rw [l3]; exact Nat.lt_of_lt_of_le (Nat.lt_trans hi (show d.toNat < 100 by omega)) (by decide), acc ++ [v], ?_, ?_, upd_same, by rw [List.length_append, l3]; rfl, fun u hu => ?_⟩
          · intro b o h1 h2 e
            rw [upd_ne (ne_of_none e hD)]
            exact b5 _ _ h1 h2 (same_new ht _ _ (b3 _ _ h1 h2 e))
          · exact (S5.upd gD'.na gD'.nl).mono (by omega)
          · rcases List.mem_append.mp hu with z | z
            · exact a3 u z
            · rw [List.mem_singleton.mp z]
              simp only [List.mem_cons, List.not_mem_nil, or_false] at hv
              exact hv
        · rintro H3 ⟨acc, b3, S3, e3, l3, a3⟩
          have B3 := B2.draw b3 S3
          have ld : d.toNat ≤ 18 := by omega
          have ldd : (d.toNat : Int) = d := by omega
          have e4 := b3 _ _ g1.na g1.nl (b2 _ _ g1.na g1.nl upd_same)
          have vf3 := b3 _ _ Ff.na Ff.nl (b2 _ _ Ff.na Ff.nl (s1 _ _ vf))
          have vn3 := b3 _ _ Fn.na Fn.nl (b2 _ _ Fn.na Fn.nl (s1 _ _ vn))
          refine ⟨p1, D, _, _, rfl, rfl, e4, e3, by rw [l3]; exact Nat.le_trans (show 2 + d.toNat ≤ 20 by omega) (by decide), fun q hq => ?_⟩
          have B4 := B3.new (o := .lst (sorts0 acc)) hq
          have Fq := B3.fr hq
          have vf4 := same_new (o := .lst (sorts0 acc)) hq _ _ vf3
          have vn4 := same_new (o := .lst (sorts0 acc)) hq _ _ vn3
          have nqf : q ≠ pf := (ne_of_none vf3 hq).symm
          have nqn : q ≠ pn := (ne_of_none vn3 hq).symm
          refine ⟨q, rfl, ⟨_, SqL.of upd_same⟩, ?_⟩
          have lsorts : (sorts0 acc).length = 2 + d.toNat := by
            unfold sorts0
            rw [List.length_append, l3]
            rfl
          refine for_list (xs := sorts0 acc) (LB a l H (N + 131) po pf pn q cut ps (sorts0 acc) (fun σ => ∃ sort, σ = sgA a po pf pn places full doors many long wide late cut none sort none none none none none none none none none none)) ⟨⟨_, rfl⟩, B4.mono (by omega), vf4, upd_same, [], vn4, rfl, AllT.nil, fun z => absurd z (by decide), fun z => absurd z (by decide)⟩ (fun i σ H _ w => SqL.of w.q) (fun i x σ H1 hx w => ?_) (fun σ H1 w => ?_)
          · have hi16 : i < 2 + d.toNat := by
              rw [← lsorts]
              exact (List.getElem?_eq_some_iff.mp hx).1
            obtain ⟨⟨sort, rfl⟩, xs, hn, hl0, ha, hI, hO⟩ := (⟨w.s, w.n⟩ : _ ∧ _)
            have hi16 : i < 20 := by omega
            have hxs : (x = .str "in" ∧ i ≠ 1) ∨ (x = .str "out" ∧ i ≠ 0) := by
              match i, hx with
              | 0, hx => exact .inl ⟨(Option.some.inj hx).symm, by decide⟩
              | 1, hx => exact .inr ⟨(Option.some.inj hx).symm, by decide⟩
              | j + 2, hx =>
                have hj : acc[j]? = some x := hx
                rcases a3 x (List.mem_of_getElem? hj) with z | z
                · exact .inl ⟨z, by omega⟩
                · exact .inr ⟨z, by omega⟩
            rcases hxs with ⟨rfl, ni1⟩ | ⟨rfl, ni0⟩
            · refine ⟨_, rfl, .inl ⟨rfl, _, SqL.of hn⟩, _, rfl, _, rfl, _, rfl, rfl, _, rfl, ?_⟩
              refine iteT ?_
              refine ⟨_, rfl, _, rfl, _, rfl, po, _, rfl, SqL.of w.b.o, fun p hp => ?_⟩
              rw [cut_to _ (by omega), List.map_take.symm]
              have B1 := w.b.new (o := .lst ((ps.take cut.toNat).map V.int)) hp
              have g1 := w.b.fr hp
              have n1 := same_new (o := .lst ((ps.take cut.toNat).map V.int)) hp _ _ hn
              have f1 := same_new (o := .lst ((ps.take cut.toNat).map V.int)) hp _ _ w.f
              have q1 := same_new (o := .lst ((ps.take cut.toNat).map V.int)) hp _ _ w.q
              have a1 := ha.tl (TL.new (o := .lst ((ps.take cut.toNat).map V.int)) hp)
              have i1 := fun z => (hI z).tl (TL.new (o := .lst ((ps.take cut.toNat).map V.int)) hp)
              have o1 := fun z => (hO z).tl (TL.new (o := .lst ((ps.take cut.toNat).map V.int)) hp)
              refine ⟨a, l, p, _, _, rfl, B1.t, by omega, by omega, g1.na, g1.nl, upd_same, by rw [List.length_map, List.length_take]; omega, by rw [List.length_map, List.length_take]; omega, fun H5 v hv b5 S5 => ?_⟩
              obtain ⟨x, hx, rfl⟩ := List.mem_map.mp hv
              have B2 := B1.draw b5 S5
              refine ⟨_, rfl, _, rfl, a, l, _, _, rfl, S5, by omega, by omega, by have := hl.t1; omega, by have := hl.t2; omega, fun H6 d p6 r6 b6 S6 => ?_⟩
              have B3 := B2.draw b6 S6
              refine ⟨(by show 3 ≤ sizeLine; decide), fun tp htp => ?_⟩
              have k6 : TL _ H6 := (b5.tl B1.t).trans (b6.tl S5)
              have n6 := b6 _ _ Fn.na Fn.nl (b5 _ _ Fn.na Fn.nl n1)
              have f6 := b6 _ _ Ff.na Ff.nl (b5 _ _ Ff.na Ff.nl f1)
              have q6 := b6 _ _ Fq.na Fq.nl (b5 _ _ Fq.na Fq.nl q1)
              have u7 := same_new (o := .tup [.str "in", .int x, .int d]) htp
              have B4 := B3.new (o := .tup [.str "in", .int x, .int d]) htp
              have n7 := u7 _ _ n6
              refine ⟨pn, _, _, rfl, rfl, n7, by rw [hl0]; exact Nat.lt_of_lt_of_le hi16 (by decide), ?_⟩
              have k8 : TL _ (upd (upd H6 tp (.tup [.str "in", .int x, .int d])) pn (.lst (xs ++ [.ref tp]))) := k6.trans ((TL.new htp).trans (TL.set n7))
              have t8 : upd (upd H6 tp (.tup [.str "in", .int x, .int d])) pn (.lst (xs ++ [.ref tp])) tp = some (.tup [.str "in", .int x, .int d]) := TL.set n7 _ _ upd_same
              refine ⟨⟨_, rfl⟩, (B4.set Fn n6'.symm).mono (by omega), ?_, ?_, xs ++ [.ref tp], upd_same, by rw [List.length_append, hl0]; rfl, ?_, ?_, ?_⟩
              · rw [upd_ne n7']
                exact u7 _ _ f6
              · rw [upd_ne nqn]
                exact u7 _ _ q6
              · refine (a1.tl k8).app (AllT.one t8 ⟨x, d, ?_, List.mem_of_mem_take hx, p6, by have := hl.t2; omega⟩)
                rw [sof_in hx]
                rfl
              · exact fun _ => ⟨.ref tp, List.mem_append.mpr (.inr List.mem_cons_self), tp, _, rfl, t8, x, d, rfl⟩
              · refine fun z => ((o1 ?_).tl k8).sub fun v hv => List.mem_append.mpr (.inl hv)
                by_cases z1 : i = 1
                · exact absurd z1 ni1
                · omega
            · refine ⟨_, rfl, .inl ⟨rfl, _, SqL.of hn⟩, _, rfl, _, rfl, _, rfl, rfl, _, rfl, ?_⟩
              refine iteF ?_
              refine ⟨_, rfl, _, rfl, _, rfl, po, _, rfl, SqL.of w.b.o, fun p hp => ?_⟩
              rw [cut_from _ (by omega), List.map_drop.symm]
              have B1 := w.b.new (o := .lst ((ps.drop cut.toNat).map V.int)) hp
              have g1 := w.b.fr hp
              have n1 := same_new (o := .lst ((ps.drop cut.toNat).map V.int)) hp _ _ hn
              have f1 := same_new (o := .lst ((ps.drop cut.toNat).map V.int)) hp _ _ w.f
              have q1 := same_new (o := .lst ((ps.drop cut.toNat).map V.int)) hp _ _ w.q
              have a1 := ha.tl (TL.new (o := .lst ((ps.drop cut.toNat).map V.int)) hp)
              have i1 := fun z => (hI z).tl (TL.new (o := .lst ((ps.drop cut.toNat).map V.int)) hp)
              have o1 := fun z => (hO z).tl (TL.new (o := .lst ((ps.drop cut.toNat).map V.int)) hp)
              refine ⟨a, l, p, _, _, rfl, B1.t, by omega, by omega, g1.na, g1.nl, upd_same, by rw [List.length_map, List.length_drop]; omega, by rw [List.length_map, List.length_drop]; omega, fun H5 v hv b5 S5 => ?_⟩
              obtain ⟨x, hx, rfl⟩ := List.mem_map.mp hv
              have B2 := B1.draw b5 S5
              refine ⟨_, rfl, _, rfl, a, l, _, _, rfl, S5, by omega, by omega, by have := hl.t1; omega, by have := hl.t2; omega, fun H6 d p6 r6 b6 S6 => ?_⟩
              have B3 := B2.draw b6 S6
              refine ⟨(by show 3 ≤ sizeLine; decide), fun tp htp => ?_⟩
              have k6 : TL _ H6 := (b5.tl B1.t).trans (b6.tl S5)
              have n6 := b6 _ _ Fn.na Fn.nl (b5 _ _ Fn.na Fn.nl n1)
              have f6 := b6 _ _ Ff.na Ff.nl (b5 _ _ Ff.na Ff.nl f1)
              have q6 := b6 _ _ Fq.na Fq.nl (b5 _ _ Fq.na Fq.nl q1)
              have u7 := same_new (o := .tup [.str "out", .int x, .int d]) htp
              have B4 := B3.new (o := .tup [.str "out", .int x, .int d]) htp
              have n7 := u7 _ _ n6
              refine ⟨pn, _, _, rfl, rfl, n7, by rw [hl0]; exact Nat.lt_of_lt_of_le hi16 (by decide), ?_⟩
              have k8 : TL _ (upd (upd H6 tp (.tup [.str "out", .int x, .int d])) pn (.lst (xs ++ [.ref tp]))) := k6.trans ((TL.new htp).trans (TL.set n7))
              have t8 : upd (upd H6 tp (.tup [.str "out", .int x, .int d])) pn (.lst (xs ++ [.ref tp])) tp = some (.tup [.str "out", .int x, .int d]) := TL.set n7 _ _ upd_same
              refine ⟨⟨_, rfl⟩, (B4.set Fn n6'.symm).mono (by omega), ?_, ?_, xs ++ [.ref tp], upd_same, by rw [List.length_append, hl0]; rfl, ?_, ?_, ?_⟩
              · rw [upd_ne n7']
                exact u7 _ _ f6
              · rw [upd_ne nqn]
                exact u7 _ _ q6
              · refine (a1.tl k8).app (AllT.one t8 ⟨x, d, ?_, List.mem_of_mem_drop hx, p6, by have := hl.t2; omega⟩)
                rw [sof_out hm.nd hx]
                rfl
              · refine fun z => ((i1 ?_).tl k8).sub fun v hv => List.mem_append.mpr (.inl hv)
                by_cases z1 : i = 0
                · exact absurd z1 ni0
                · omega
              · exact fun _ => ⟨.ref tp, List.mem_append.mpr (.inr List.mem_cons_self), tp, _, rfl, t8, x, d, rfl⟩
          · obtain ⟨⟨sort, rfl⟩, xs, hn, hl0, ha, hI, hO⟩ := (⟨w.s, w.n⟩ : _ ∧ _)
            have B5 := w.b
            rw [lsorts] at hl0 hI hO B5
            exact ⟨po, pf, pn, many, long, wide, late, cut, ps, sort, xs, rfl, hm, hmp, hl, B5.mono (by omega), Ff, Fn, n5, n6', n7', w.f, hn, ha, hI (by omega), hO (by omega), by omega, by omega⟩
      · rintro σ0 G0 ⟨po, pf, pn, many, long, wide, late, cut, ps, sort, xs, rfl, hm, hmp, hl, B, Ff, Fn, n5, n6', n7', vf, vn, ha, hI, hO, hx2, hxd⟩
        refine ⟨MC a l H N places full doors, ?_, ?_⟩
        · refine ⟨_, rfl, pn, rfl, ⟨_, SqL.of vn⟩, fun D1 hD1 => ?_⟩
          refine lc_it walk_list (fun i H' => Same G0 H' ∧ ∃ acc : List Int, H' D1 = some (.lst (acc.map V.int)) ∧ acc.length ≤ i ∧ (∀ x ∈ acc, x ∈ ps ∧ Sof ps cut x = true) ∧ (Has G0 InT (xs.take i) → 0 < acc.length)) ⟨same_new hD1, [], upd_same, Nat.le_refl _, fun x hx => (by cases hx), fun ⟨v, hv, _⟩ => (by cases hv)⟩ (fun i H' _ q => SqL.of (q.1 _ _ vn)) ?_ ?_
          · rintro i x H3 H4 hi ⟨s3, acc, e3, l3, m3, k3⟩ ⟨rfl, hx⟩
            obtain ⟨p, tt, rfl, hp, y, h, rfl, hy, y0, y9⟩ := ha x (List.mem_of_getElem? hx)
            have hp3 := s3 _ _ hp
            have li : acc.length < sizeLine := Nat.lt_of_le_of_lt l3 (Nat.lt_of_lt_of_le (Nat.lt_of_lt_of_le hi (show xs.length ≤ 20 by omega)) (by decide))
            have no : ∀ (P1 : List V → Prop), ¬ P1 [.str (if Sof ps cut y = true then "in" else "out"), .int y, .int h] → ¬ ∃ p' t', V.ref p = .ref p' ∧ G0 p' = some (.tup t') ∧ P1 t' := fun P1 hn ⟨p', t', e1, e2, e3⟩ => by
              rw [← V.ref.inj e1, hp] at e2
              rw [← HO.tup.inj (Option.some.inj e2)] at e3
              exact hn e3
            refine ⟨rfl, ?_⟩
            refine ⟨_, rfl, p, _, _, _, rfl, rfl, SqT.of hp3, (by rfl), ?_⟩
            cases hS : Sof ps cut y with
            | true =>
              rw [hS] at hp3
              refine ⟨rfl, _, rfl, iteT ?_⟩
              refine ⟨_, rfl, p, _, _, _, rfl, rfl, SqT.of hp3, (by rfl), acc.map V.int, e3, by rw [List.length_map]; exact li, fun b o g => ?_, acc ++ [y], ?_, ?_, fun z hz => ?_, fun _ => ?_⟩
              · rw [upd_ne (ne_of_none g hD1)]
                exact s3 _ _ g
              · rw [upd_same, List.map_append]
                rfl
              · rw [List.length_append]
                exact Nat.succ_le_succ l3
              · rcases List.mem_append.mp hz with q | q
                · exact m3 z q
                · rw [List.mem_singleton.mp q]
                  exact ⟨hy, hS⟩
              · rw [List.length_append]
                exact Nat.succ_pos _
            | false =>
              rw [hS] at no
              refine ⟨rfl, _, rfl, iteF ⟨s3, acc, e3, Nat.le_succ_of_le l3, m3, fun z => k3 ?_⟩⟩
              rcases z.one hx with q | q
              · exact q
              · refine absurd q (no _ ?_)
                rintro ⟨u, v, w⟩
                exact absurd (V.str.inj (List.cons.inj w).1) (by decide)
          · rintro G1 ⟨s1, bs, e1, l1, m1, k1⟩
            rw [List.take_of_length_le (Nat.le_refl _)] at k1
            have k1' := k1 hI
            have B1 := B.same s1
            have F1 := B.fr hD1
            have vn1 := s1 _ _ vn
            have ha1 : AllT G1 (Dok ps (Sof ps cut)) xs := ha.tl fun b t e => s1 _ _ e
            refine ⟨_, rfl, pn, rfl, ⟨_, SqL.of vn1⟩, fun D2 hD2 => ?_⟩
            refine lc_it walk_list (fun i H' => Same G1 H' ∧ ∃ acc : List Int, H' D2 = some (.lst (acc.map V.int)) ∧ acc.length ≤ i ∧ (∀ x ∈ acc, x ∈ ps ∧ Sof ps cut x = false) ∧ (Has G1 OutT (xs.take i) → 0 < acc.length)) ⟨same_new hD2, [], upd_same, Nat.le_refl _, fun x hx => (by cases hx), fun ⟨v, hv, _⟩ => (by cases hv)⟩ (fun i H' _ q => SqL.of (q.1 _ _ vn1)) ?_ ?_
            · rintro i x H3 H4 hi ⟨s3, acc, e3, l3, m3, k3⟩ ⟨rfl, hx⟩
              obtain ⟨p, tt, rfl, hp, y, h, rfl, hy, y0, y9⟩ := ha1 x (List.mem_of_getElem? hx)
              have hp3 := s3 _ _ hp
              have li : acc.length < sizeLine := Nat.lt_of_le_of_lt l3 (Nat.lt_of_lt_of_le (Nat.lt_of_lt_of_le hi (show xs.length ≤ 20 by omega)) (by decide))
              have no : ∀ (P1 : List V → Prop), ¬ P1 [.str (if Sof ps cut y = true then "in" else "out"), .int y, .int h] → ¬ ∃ p' t', V.ref p = .ref p' ∧ G1 p' = some (.tup t') ∧ P1 t' := fun P1 hn ⟨p', t', e1, e2, e3⟩ => by
                rw [← V.ref.inj e1, hp] at e2
                rw [← HO.tup.inj (Option.some.inj e2)] at e3
                exact hn e3
              refine ⟨rfl, ?_⟩
              refine ⟨_, rfl, p, _, _, _, rfl, rfl, SqT.of hp3, (by rfl), ?_⟩
              cases hS : Sof ps cut y with
              | false =>
                rw [hS] at hp3
                refine ⟨rfl, _, rfl, iteT ?_⟩
                refine ⟨_, rfl, p, _, _, _, rfl, rfl, SqT.of hp3, (by rfl), acc.map V.int, e3, by rw [List.length_map]; exact li, fun b o g => ?_, acc ++ [y], ?_, ?_, fun z hz => ?_, fun _ => ?_⟩
                · rw [upd_ne (ne_of_none g hD2)]
                  exact s3 _ _ g
                · rw [upd_same, List.map_append]
                  rfl
                · rw [List.length_append]
                  exact Nat.succ_le_succ l3
                · rcases List.mem_append.mp hz with q | q
                  · exact m3 z q
                  · rw [List.mem_singleton.mp q]
                    exact ⟨hy, hS⟩
                · rw [List.length_append]
                  exact Nat.succ_pos _
              | true =>
                rw [hS] at no
                refine ⟨rfl, _, rfl, iteF ⟨s3, acc, e3, Nat.le_succ_of_le l3, m3, fun z => k3 ?_⟩⟩
                rcases z.one hx with q | q
                · exact q
                · refine absurd q (no _ ?_)
                  rintro ⟨u, v, w⟩
                  exact absurd (V.str.inj (List.cons.inj w).1) (by decide)
            · rintro G2 ⟨s2, es, e2, l2, m2, k2⟩
              rw [List.take_of_length_le (Nat.le_refl _)] at k2
              have tl := s1.trans s2
              have k2' := k2 (hO.tl fun b t e => s1 _ _ e)
              exact ⟨_, _, rfl, po, pf, pn, D1, D2, many, long, wide, late, cut, ps, bs, es, sort, xs, rfl, hm, hmp, hl, B1.same s2, Ff, Fn, n5, n6', n7', tl _ _ vf, tl _ _ vn, ha.tl fun b t e => tl _ _ e, hI.tl fun b t e => tl _ _ e, hO.tl fun b t e => tl _ _ e, hx2, hxd,
                ⟨F1, s2 _ _ e1, k1', by omega, fun x hx => (m1 x hx).1⟩, ⟨B1.fr hD2, e2, k2', by omega, fun x hx => (m2 x hx).1⟩, (ne_of_none vf hD1).symm, (ne_of_none (s1 _ _ vf) hD2).symm, fun x hx => (m1 x hx).2, fun x hx => (m2 x hx).2⟩
        · rintro σ0 G0 ⟨po, pf, pn, pb, pe, many, long, wide, late, cut, ps, bs, es, sort, xs, rfl, hm, hmp, hl, B, Ff, Fn, n5, n6', n7', vf, vn, ha, hI, hO, hx2, hxd, X, Y, nbf, nef, hbs, hes⟩
          have lenps := hm.len
          have lm20 := hm.m20
          have lm2 := hm.m2
          refine ⟨MD 30 a l H N 1000 places full doors, ?_, ?_⟩
          · refine ⟨_, rfl, a, l, _, 5, rfl, B.t, by omega, by omega, by decide, by decide, fun G1 d pd rd b1 S1 => ?_⟩
            have W0 : Kept a l H po pf pn pb pe ps bs es xs G0 (N + 200) G0 := ⟨B, vn, TL.refl, X, Y, Fn⟩
            refine ⟨_, _, rfl, rfl, _, rfl, by omega, by omega, ?_⟩
            refine for_range (LD a l H (N + 201) po pf pn pb pe ps bs es xs G0 (fun σ => ∃ k line, σ = sgA a po pf pn places full doors many long wide late cut k sort (some (.ref pb)) (some (.ref pe)) line none none none none none none none)) ⟨⟨_, _, rfl⟩, (W0.draw b1 S1).mono (by omega), [], b1 _ _ Ff.na Ff.nl vf, ⟨Nat.zero_le _, fun z => absurd z (by decide)⟩, AllT.nil⟩ (fun i σ H1 hi w => ?_) (fun σ H1 w => ?_)
            · obtain ⟨⟨k0, line0, rfl⟩, W, fs, hf, lf, af⟩ := w
              have hi6 : i < 6 := by omega
              refine ⟨_, rfl, _, rfl, a, l, pb, _, _, rfl, W.b.t, by omega, by omega, W.x.r.na, W.x.r.nl, W.x.h, by rw [List.length_map]; exact W.x.n, by rw [List.length_map]; exact Nat.le_trans W.x.m (by decide), fun H2 v0 hv0 b2 S2 => ?_⟩
              obtain ⟨x0, hx0, rfl⟩ := List.mem_map.mp hv0
              have W2 := W.draw b2 S2
              have f2 := b2 _ _ Ff.na Ff.nl hf
              have a2 := af.tl (b2.tl W.b.t)
              refine ⟨(by show 1 ≤ sizeLine; decide), fun t1 h1 => ?_⟩
              have W3 := W2.new (o := .lst [.int x0]) h1
              have r1 := W2.b.fr h1
              have f3 := same_new (o := .lst [.int x0]) h1 _ _ f2
              have a3 := a2.tl (TL.new (o := .lst [.int x0]) h1)
              refine ⟨_, rfl, _, rfl, a, l, po, _, _, rfl, W3.b.t, by omega, by omega, W3.b.r.na, W3.b.r.nl, W3.b.o, by rw [List.length_map]; omega, fun H4 q ys pm b4 fq e4 S4 => ?_⟩
              obtain ⟨qs, rfl, pq⟩ := perm_ints pm
              have W4 := W3.draw b4 S4
              have f4 := b4 _ _ Ff.na Ff.nl f3
              have a4 := a3.tl (b4.tl W3.b.t)
              have rq : Fr a l H q := by
                have z := W3.b.fr fq
                exact z
              have t14 := b4 _ _ r1.na r1.nl (upd_same : upd H2 t1 (.lst [.int x0]) t1 = _)
              refine ⟨_, rfl, (by show 5 ≤ sizeLine; decide), fun t2 h2 => ?_⟩
              have W5 := W4.new (o := .lst [.int 0, .int 0, .int 1, .int 1, .int 2]) h2
              have r2 := W4.b.fr h2
              have s2 := same_new (o := .lst [.int 0, .int 0, .int 1, .int 1, .int 2]) h2
              refine ⟨a, l, t2, _, _, rfl, W5.b.t, by omega, by omega, r2.na, r2.nl, upd_same, by decide, by decide, fun H6 v2 hv2 b6 S6 => ?_⟩
              obtain ⟨c, rfl, c0, c2⟩ : ∃ i : Int, v2 = .int i ∧ 0 ≤ i ∧ i ≤ 2 := by
                simp only [List.mem_cons, List.not_mem_nil, or_false] at hv2
                rcases hv2 with rfl | rfl | rfl | rfl | rfl
                all_goals exact ⟨_, rfl, by decide, by decide⟩
              have W6 := W5.draw b6 S6
              have f6 := b6 _ _ Ff.na Ff.nl (s2 _ _ f4)
              have a6 := (a4.tl (TL.new (o := .lst [.int 0, .int 0, .int 1, .int 1, .int 2]) h2)).tl (b6.tl W5.b.t)
              have t16 := b6 _ _ r1.na r1.nl (s2 _ _ t14)
              have e6 := b6 _ _ rq.na rq.nl (s2 _ _ e4)
              refine ⟨c, rfl, q, _, rfl, SqL.of e6, fun t3 h3 => ?_⟩
              rw [cut_to _ c0, List.map_take.symm]
              have W7 := W6.new (o := .lst ((qs.take c.toNat).map V.int)) h3
              have s3 := same_new (o := .lst ((qs.take c.toNat).map V.int)) h3
              refine ⟨t1, t3, _, _, rfl, rfl, s3 _ _ t16, upd_same, by rw [List.length_map, List.length_take]; exact Nat.le_trans (Nat.add_le_add_left (Nat.min_le_left _ _) _) (Nat.le_trans (show 1 + c.toNat ≤ 3 by omega) (by decide)), fun pl hpl => ?_⟩
              have eL : [V.int x0] ++ (qs.take c.toNat).map V.int = (x0 :: qs.take c.toNat).map V.int := rfl
              rw [eL]
              have hL : ∀ z ∈ (x0 :: qs.take c.toNat), z ∈ ps := fun z hz => by
                rcases List.mem_cons.mp hz with rfl | q
                · exact W.x.s _ hx0
                · exact pq.mem_iff.mp (List.mem_of_mem_take q)
              have lL : (x0 :: qs.take c.toNat).length ≤ 3 := by
                rw [List.length_cons, List.length_take]
                omega
              have hL0 : (x0 :: qs.take c.toNat)[0]? = some x0 := rfl
              generalize (x0 :: qs.take c.toNat) = L at hL lL hL0 ⊢
              have W8 := W7.new (o := .lst (L.map V.int)) hpl
              have rl := W7.b.fr hpl
              have s4 := same_new (o := .lst (L.map V.int)) hpl
              have f8 := s4 _ _ (s3 _ _ f6)
              have a8 := (a6.tl (TL.new (o := .lst ((qs.take c.toNat).map V.int)) h3)).tl (TL.new (o := .lst (L.map V.int)) hpl)
              have npf : pf ≠ pl := ne_of_none (s3 _ _ f6) hpl
              have npo : po ≠ pl := ne_of_none W7.b.o hpl
              have npn : pn ≠ pl := ne_of_none W7.n hpl
              have npb : pb ≠ pl := ne_of_none W7.x.h hpl
              have npe : pe ≠ pl := ne_of_none W7.y.h hpl
              refine ⟨_, rfl, .inl ⟨rfl, _, SqL.of upd_same⟩, _, rfl, _, rfl, a, l, pe, _, _, rfl, W8.b.t, by omega, by omega, W8.y.r.na, W8.y.r.nl, W8.y.h, by rw [List.length_map]; exact W8.y.n, by rw [List.length_map]; exact Nat.le_trans W8.y.m (by decide), fun H9 v9 hv9 b9 S9 => ?_⟩
              obtain ⟨y0, hy0, rfl⟩ := List.mem_map.mp hv9
              have W9 := W8.draw b9 S9
              have f9 := b9 _ _ Ff.na Ff.nl f8
              have a9 := a8.tl (b9.tl W8.b.t)
              have l9 := b9 _ _ rl.na rl.nl (upd_same : upd _ pl (.lst (L.map V.int)) pl = _)
              refine ⟨pl, _, _, rfl, rfl, l9, by rw [List.length_map]; exact Nat.lt_of_le_of_lt lL (by decide), ?_⟩
              have eL2 : L.map V.int ++ [V.int y0] = (L ++ [y0]).map V.int := by rw [List.map_append]; rfl
              rw [eL2]
              have hL2 : ∀ z ∈ L ++ [y0], z ∈ ps := fun z hz => by
                rcases List.mem_append.mp hz with q | q
                · exact hL z q
                · rw [List.mem_singleton.mp q]
                  exact W.y.s _ hy0
              have lL2 : (L ++ [y0]).length ≤ 4 := by
                rw [List.length_append]
                exact Nat.succ_le_succ lL
              have nb : Nb (L ++ [y0]) L.length := by
                refine nb_of (x := x0) (y := y0) ?_ ?_ fun z => ?_
                · match L, hL0 with
                  | _ :: _, h => exact h
                · simp
                · have z1 := hbs x0 hx0
                  rw [z, hes y0 hy0] at z1
                  cases z1
              have nbl : (L ++ [y0]).length = L.length + 1 := by rw [List.length_append, List.length_singleton]
              generalize L.length = nL at nb nbl
              generalize (L ++ [y0]) = L' at hL2 lL2 nb nbl ⊢
              have W10 := (W9.set (o := .lst (L'.map V.int)) rl l9 npo.symm npn.symm npb.symm npe.symm).mono (show _ ≤ N + 201 + 110 * ((i + 1 : Nat) : Int) by omega)
              have l10 : upd H9 pl (.lst (L'.map V.int)) pl = some (.lst (L'.map V.int)) := upd_same
              have f10 : upd H9 pl (.lst (L'.map V.int)) pf = some (.lst fs) := by
                rw [upd_ne npf]
                exact f9
              have a10 := a9.tl (TL.set (o := .lst (L'.map V.int)) l9)
              generalize upd H9 pl (.lst (L'.map V.int)) = H10 at W10 l10 f10 a10 ⊢
              clear W9 W8 W7 W6 W5 W4 W3 W2 W a9 a8 a6 a4 a3 a2 f9 f8 f6 f4 f3 f2 hf l9 b9 S9 b6 S6 b4 S4 b2 S2 e6 t16 e4 t14 s4 s3 s2
              refine ⟨_, rfl, .inl ⟨rfl, _, SqL.of f10⟩, _, rfl, _, rfl, _, rfl, pl, _, rfl, SqL.of l10, fun p4 h4 => ?_⟩
              rw [cut_from _ (by decide)]
              have W11 := W10.new (o := .lst ((L'.map V.int).drop (Int.toNat 1))) h4
              have s5 := same_new (o := .lst ((L'.map V.int).drop (Int.toNat 1))) h4
              have f11 := s5 _ _ f10
              have a11 := a10.tl (TL.new (o := .lst ((L'.map V.int).drop (Int.toNat 1))) h4)
              refine ⟨pl, p4, _, _, rfl, SqL.of (s5 _ _ l10), SqL.of upd_same, fun D hD => ?_⟩
              refine lc_it (walk_zip rfl) (fun i H' => Same _ H' ∧ ∃ acc, H' D = some (.lst acc) ∧ (acc.length ≤ i ∧ (Nb L' i → 0 < acc.length)) ∧ AllT H' (Pok ps) acc) ⟨same_new hD, [], upd_same, ⟨Nat.le_refl _, fun ⟨k, _, _, z, _⟩ => absurd z (Nat.not_lt_zero _)⟩, AllT.nil⟩ (fun i H' _ q => ⟨SqL.of (q.1 _ _ (s5 _ _ l10)), SqL.of (q.1 _ _ upd_same)⟩) ?_ ?_
              · rintro j x H12 H13 hj ⟨s12, acc, e12, l12, a12⟩ ⟨t, x1, y1, rfl, ht, rfl, hx, hy⟩
                have hx' := List.mem_of_getElem? hx
                have hy' := List.mem_of_mem_drop (List.mem_of_getElem? hy)
                obtain ⟨u, hu, rfl⟩ := List.mem_map.mp hx'
                obtain ⟨v, hv, rfl⟩ := List.mem_map.mp hy'
                have s13 := same_new (o := .tup [V.int u, V.int v]) ht
                have lj : acc.length < 4 := by
                  have z : j < min (L'.map V.int).length ((L'.map V.int).drop (Int.toNat 1)).length := hj
                  rw [List.length_map] at z
                  omega
                have nD : ∀ {b : Addr} {o : HO}, upd H10 p4 (.lst ((L'.map V.int).drop (Int.toNat 1))) b = some o → b ≠ D := fun g => ne_of_none g hD
                refine ⟨t, _, rfl, SqT.of upd_same, rfl, _, _, rfl, _, _, rfl, rfl, rfl, _, rfl, _, rfl, rfl, _, rfl, ite2 (fun hc => ?_) (fun hc => ?_)⟩
                · have huv : u ≠ v := fun z => by
                    rw [z, decide_eq_true rfl] at hc
                    cases hc
                  refine ⟨_, rfl, _, rfl, (by show 2 ≤ sizeLine; decide), fun t5 h5 => ?_⟩
                  have s14 := same_new (o := .tup [V.int u, V.int v]) h5
                  have e14 := s14 _ _ (s13 _ _ e12)
                  refine ⟨acc, e14, Nat.lt_trans lj (by decide), fun b o g => ?_, acc ++ [.ref t5], upd_same, ⟨by rw [List.length_append]; exact Nat.succ_le_succ l12.1, fun _ => by rw [List.length_append]; exact Nat.succ_pos _⟩, ?_⟩
                  · rw [upd_ne (nD g)]
                    exact s14 _ _ (s13 _ _ (s12 _ _ g))
                  · exact (((a12.tl (TL.new ht)).tl (TL.new h5)).tl (TL.set e14)).app (AllT.one (TL.set e14 _ _ upd_same) ⟨u, v, rfl, hL2 _ hu, hL2 _ hv, huv⟩)
                · exact ⟨fun b o g => s13 _ _ (s12 _ _ g), acc, s13 _ _ e12, ⟨Nat.le_succ_of_le l12.1, fun z => l12.2 (z.down fun u' v' h1 h2 => by
                    have e1 : (L'.map V.int)[j]? = some (.int u) := hx
                    have e2 : ((L'.map V.int).drop (Int.toNat 1))[j]? = some (.int v) := hy
                    rw [List.getElem?_map, h1] at e1
                    rw [show Int.toNat 1 = 1 from rfl, List.getElem?_drop, Nat.add_comm 1 j, List.getElem?_map, h2] at e2
                    have z1 := V.int.inj (Option.some.inj e1)
                    have z2 := V.int.inj (Option.some.inj e2)
                    have z3 : u = v := by simpa using hc
                    rw [z1, z2, z3])⟩, a12.tl (TL.new ht)⟩
              · rintro H12 ⟨s12, acc, e12, l12, a12⟩
                have W12 := W11.same s12
                have f12 := s12 _ _ f11
                obtain ⟨l12, k12⟩ := l12
                have eM : min (L'.map V.int).length ((L'.map V.int).drop (Int.toNat 1)).length = nL := by
                  rw [List.length_drop, List.length_map]
                  have z2 : (Int.toNat 1) = 1 := rfl
                  omega
                have k12 : 0 < acc.length := k12 (by rw [eM]; exact nb)
                have l12' : acc.length ≤ 3 := by
                  have z : acc.length ≤ min (L'.map V.int).length ((L'.map V.int).drop (Int.toNat 1)).length := l12
                  rw [List.length_drop, List.length_map] at z
                  have z2 : (Int.toNat 1) = 1 := rfl
                  omega
                refine ⟨pf, D, fs, acc, rfl, rfl, f12, e12, Nat.le_trans (show fs.length + acc.length ≤ 40 by omega) (by decide), ?_⟩
                refine ⟨⟨_, _, rfl⟩, W12.set Ff f12 n5.symm n7' nbf.symm nef.symm, fs ++ acc, upd_same, by rw [List.length_append]; omega, ?_⟩
                exact ((a11.tl fun b t e => s12 _ _ e).tl (TL.set f12)).app (a12.tl (TL.set f12))
            · obtain ⟨⟨k0, line0, rfl⟩, W, fs, hf, lf, af⟩ := w
              exact ⟨po, pf, pn, pb, pe, many, long, wide, late, cut, ps, bs, es, k0, sort, line0, none, none, xs, fs, G0, rfl, hm, hmp, hl, Ff, n5, n6', n7', ha, hI, hO, hx2, hxd, W.mono (by omega), nbf, nef, hf, by omega, af⟩
          · rintro σ0 H0 ⟨po, pf, pn, pb, pe, many, long, wide, late, cut, ps, bs, es, k0, sort, line0, one0, other0, xs, fs, G0, rfl, hm, hmp, hl, Ff, n5, n6', n7', ha, hI, hO, hx2, hxd, W, nbf, nef, hf, lf, af⟩
            have lenps := hm.len
            have lm20 := hm.m20
            have lm2 := hm.m2
            refine ⟨MD 33 a l H N 1400 places full doors, ?_, ?_⟩
            · refine ⟨_, rfl, a, l, _, 3, rfl, W.b.t, by omega, by omega, by decide, by decide, fun G1 d pd rd b1 S1 => ?_⟩
              refine ⟨_, rfl, by omega, by omega, ?_⟩
              refine for_range (LE a l H (N + 1001) po pf pn pb pe ps bs es xs G0 (fun σ => ∃ k one other, σ = sgA a po pf pn places full doors many long wide late cut k sort (some (.ref pb)) (some (.ref pe)) line0 one other none none none none none)) ⟨⟨_, _, _, rfl⟩, (W.draw b1 S1).mono (by omega), fs, b1 _ _ Ff.na Ff.nl hf, lf, af.tl (b1.tl W.b.t)⟩ (fun i σ H1 hi w => ?_) (fun σ H1 w => ?_)
              · clear hf lf af W fs
                obtain ⟨⟨k0, one, other, rfl⟩, W, fs, hf, lf, af⟩ := w
                have hi3 : i < 3 := by omega
                refine ⟨_, rfl, _, rfl, a, l, po, _, _, rfl, W.b.t, by omega, by omega, W.b.r.na, W.b.r.nl, W.b.o, by rw [List.length_map]; omega, fun H4 q ys pm b4 fq e4 S4 => ?_⟩
                obtain ⟨qs, rfl, pq⟩ := perm_ints pm
                have W4 := W.draw b4 S4
                have f4 := b4 _ _ Ff.na Ff.nl hf
                have a4 := af.tl (b4.tl W.b.t)
                have rq : Fr a l H q := W.b.fr fq
                have lq : qs.length = ps.length := pq.length_eq
                obtain ⟨x, y, r, rfl⟩ : ∃ x y r, qs = x :: y :: r := by
                  match qs, lq with
                  | [], lq => simp at lq; omega
                  | [x], lq => simp at lq; omega
                  | x :: y :: r, _ => exact ⟨x, y, r, rfl⟩
                have hx : x ∈ ps := pq.mem_iff.mp List.mem_cons_self
                have hy : y ∈ ps := pq.mem_iff.mp (List.mem_cons_of_mem _ List.mem_cons_self)
                have nxy : x ≠ y := fun z => by
                  have nd := pq.nodup_iff.mpr hm.nd
                  rw [z] at nd
                  exact (List.nodup_cons.mp nd).1 List.mem_cons_self
                refine ⟨_, rfl, q, _, rfl, SqL.of e4, fun t3 h3 => ?_⟩
                rw [cut_to _ (by decide)]
                have W5 := W4.new (o := .lst (List.take (Int.toNat 2) (List.map V.int (x :: y :: r)))) h3
                have s5 := same_new (o := .lst (List.take (Int.toNat 2) (List.map V.int (x :: y :: r)))) h3
                have g5 : upd H4 t3 (.lst (List.take (Int.toNat 2) (List.map V.int (x :: y :: r)))) t3 = some (.lst [.int x, .int y]) := upd_same
                refine ⟨t3, _, rfl, SqL.of g5, rfl, _, _, rfl, _, _, rfl, rfl, ?_⟩
                have f5 := s5 _ _ f4
                have a5 := a4.tl (TL.new (o := .lst (List.take (Int.toNat 2) (List.map V.int (x :: y :: r)))) h3)
                refine ⟨_, rfl, .inl ⟨rfl, _, SqL.of f5⟩, _, rfl, _, rfl, (by show 2 ≤ sizeLine; decide), fun t6 h6 => ?_⟩
                have W6 := W5.new (o := .tup [.int x, .int y]) h6
                have f6 := same_new (o := .tup [.int x, .int y]) h6 _ _ f5
                have a6 := a5.tl (TL.new (o := .tup [.int x, .int y]) h6)
                refine ⟨pf, _, _, rfl, rfl, f6, Nat.lt_of_le_of_lt (show fs.length ≤ 33 by omega) (by decide), ?_⟩
                refine ⟨⟨_, _, _, rfl⟩, (W6.set Ff f6 n5.symm n7' nbf.symm nef.symm).mono (by omega), fs ++ [.ref t6], upd_same, by rw [List.length_append, List.length_singleton]; omega, ?_⟩
                exact (a6.tl (TL.set f6)).app (AllT.one (TL.set f6 _ _ upd_same) ⟨x, y, rfl, hx, hy, nxy⟩)
              · obtain ⟨⟨k1, one, other, rfl⟩, W', fs', hf', lf', af'⟩ := w
                exact ⟨po, pf, pn, pb, pe, many, long, wide, late, cut, ps, bs, es, k1, sort, line0, one, other, xs, fs', G0, rfl, hm, hmp, hl, Ff, n5, n6', n7', ha, hI, hO, hx2, hxd, W'.mono (by omega), nbf, nef, hf', by omega, af'⟩
            · clear hf lf af W fs ha hI hO
              rintro σ0 H0 ⟨po, pf, pn, pb, pe, many, long, wide, late, cut, ps, bs, es, k0, sort, line0, one0, other0, xs, fs, G0, rfl, hm, hmp, hl, Ff, n5, n6', n7', ha, hI, hO, hx2, hxd, W, nbf, nef, hf, lf, af⟩
              have lenps := hm.len
              have lm20 := hm.m20
              have lm2 := hm.m2
              refine ⟨fun σ H' => ∃ rd, MF a l H N 1600 places full doors σ H' ∧ σ[19]? = some (some (.ref rd)) ∧ H' rd = some (.lst []), ?_, ?_⟩
              · refine ⟨Nat.zero_le _, fun pr hpr => ?_⟩
                have W1 := W.new (o := .lst []) hpr
                have s1 := same_new (o := .lst []) hpr
                have rr := W.b.fr hpr
                have nof := ne_of_none W.b.o hpr
                have nnf := ne_of_none W.n hpr
                have nbf' := ne_of_none W.x.h hpr
                have nef' := ne_of_none W.y.h hpr
                refine ⟨_, rfl, _, rfl, _, rfl, _, rfl, _, rfl, a, l, po, _, _, rfl, W1.b.t, by omega, by omega, W1.b.r.na, W1.b.r.nl, W1.b.o, by rw [List.length_map]; omega, fun H4 q ys pm b4 fq e4 S4 => ?_⟩
                obtain ⟨qs, rfl, pq⟩ := perm_ints pm
                have W4 := W1.draw b4 S4
                have rq : Fr a l H q := W1.b.fr fq
                have nrq : pr ≠ q := ne_of_none (H := upd H0 pr (.lst [])) upd_same fq
                have g4 := b4 _ _ rr.na rr.nl (upd_same : upd H0 pr (.lst []) pr = _)
                have f4 := b4 _ _ Ff.na Ff.nl (s1 _ _ hf)
                have a4 := (af.tl (TL.new (o := .lst []) hpr)).tl (b4.tl W1.b.t)
                refine ⟨(by show 3 ≤ sizeLine; decide), fun t1 h1 => ?_⟩
                have W5 := W4.new (o := .lst [.ref po, .ref po, .ref q]) h1
                have s5 := same_new (o := .lst [.ref po, .ref po, .ref q]) h1
                have r1 := W4.b.fr h1
                refine ⟨a, l, t1, _, _, rfl, W5.b.t, by omega, by omega, r1.na, r1.nl, upd_same, (by show 0 < 3; decide), (by show 3 ≤ 1000; decide), fun H6 v hv b6 S6 => ⟨_, _, rfl, ?_⟩⟩
                have W6 := W5.draw b6 S6
                have hk : ∃ pk rs, v = .ref pk ∧ Rnk a l H pk ps rs H6 ∧ pr ≠ pk := by
                  simp only [List.mem_cons, List.not_mem_nil, or_false] at hv
                  have c1 : Rnk a l H po ps ps H6 := ⟨W6.b.r, W6.b.o, .refl _⟩
                  rcases hv with rfl | rfl | rfl
                  · exact ⟨po, ps, rfl, c1, nof.symm⟩
                  · exact ⟨po, ps, rfl, c1, nof.symm⟩
                  · exact ⟨q, qs, rfl, ⟨rq, b6 _ _ rq.na rq.nl (s5 _ _ e4), pq⟩, nrq⟩
                obtain ⟨pk, rs, rfl, R, nrk⟩ := hk
                have g6 := b6 _ _ rr.na rr.nl (s5 _ _ g4)
                exact ⟨pr, ⟨po, pf, pn, pb, pe, pr, pk, many, long, wide, late, cut, ps, bs, es, rs, k0, sort, line0, one0, other0, none, xs, fs, [], G0, rfl, hm, hmp, hl, rr, nof.symm, nnf.symm, nbf'.symm, nef'.symm, nrk, ha, hI, hO, hx2, hxd, W6.mono (by omega), b6 _ _ Ff.na Ff.nl (s5 _ _ f4), lf, (a4.tl (TL.new h1)).tl (b6.tl W5.b.t), R, g6, hf0, AllT.nil⟩, rfl, g6⟩
              · clear hf lf af W fs ha hI hO
                rintro σ0 H0 ⟨rd0, ⟨po, pf, pn, pb, pe, pr, pk, many, long, wide, late, cut, ps, bs, es, rs, k0, sort, line0, one0, other0, len0, xs, fs, rd, G0, rfl, hm, hmp, hl, Fr', nro, nrn, nrb, nre, nrk, ha, hI, hO, hx2, hxd, W, hf, lf, af, R, hr0, lr, ar⟩, erd, hrd⟩
                obtain rfl : pr = rd0 := V.ref.inj (Option.some.inj (Option.some.inj erd))
                obtain rfl : rd = [] := by
                  rw [hr0] at hrd
                  exact HO.lst.inj (Option.some.inj hrd)
                clear erd hrd
                have lenps := hm.len
                have lm20 := hm.m20
                have lm2 := hm.m2
                refine ⟨MG a l H N 1700 places full doors, ?_, ?_⟩
                · refine ⟨_, rfl, _, rfl, full, rfl, pf, _, rfl, SqL.of hf, fun q hq => ?_⟩
                  rw [cut_to _ hf0]
                  have W1 := W.new (o := .lst (fs.take full.toNat)) hq
                  have s1 := same_new (o := .lst (fs.take full.toNat)) hq
                  have rq := W.b.fr hq
                  have nrq : pr ≠ q := ne_of_none hr0 hq
                  have lq : (fs.take full.toNat).length ≤ 33 ∧ ((fs.take full.toNat).length : Int) ≤ full ∧ (1 ≤ full → 0 < (fs.take full.toNat).length) := by
                    rw [List.length_take]
                    omega
                  have aq : AllT (upd H0 q (.lst (fs.take full.toNat))) (Pok ps) (fs.take full.toNat) := (af.sub fun v hv => List.mem_of_mem_take hv).tl (TL.new hq)
                  have vq : upd H0 q (.lst (fs.take full.toNat)) q = some (.lst (fs.take full.toNat)) := upd_same
                  generalize fs.take full.toNat = fq at W1 s1 lq aq vq ⊢
                  generalize upd H0 q (.lst fq) = H1 at W1 s1 aq vq ⊢
                  refine ⟨q, rfl, ⟨_, SqL.of vq⟩, ?_⟩
                  refine for_list (xs := fq) (LG a l H (N + 1600) po pf pn pb pe pr pk q ps bs es rs xs fq G0 (fun σ => ∃ one other len, σ = sgA a po pf pn places full doors many long wide late cut k0 sort (some (.ref pb)) (some (.ref pe)) line0 one other (some (.ref pr)) (some (.ref pk)) len none none)) ⟨⟨_, _, _, rfl⟩, W1.mono (by omega), vq, aq, R.same s1, [], s1 _ _ hr0, rfl, AllT.nil⟩ (fun i σ H _ w => SqL.of w.q) (fun i x σ H2 hx w => ?_) (fun σ H2 w => ?_)
                  · clear W1 s1 aq vq R hr0 lr ar hf lf af W
                    obtain ⟨⟨one, other, len, rfl⟩, W, vq, aq, R, rd, hr0, lr, ar⟩ := w
                    have hi : i < 33 := Nat.lt_of_lt_of_le (List.getElem?_eq_some_iff.mp hx).1 lq.1
                    obtain ⟨p, tt, rfl, hp, u, v, rfl, hu, hv, nuv⟩ := aq x (List.mem_of_getElem? hx)
                    have l1 := hl.l1
                    have l2 := hl.l2
                    have w1 := hl.w1
                    have w2 := hl.w2
                    refine ⟨p, _, rfl, SqT.of hp, rfl, _, _, rfl, _, _, rfl, rfl, ?_⟩
                    refine ⟨_, rfl, _, rfl, _, _, rfl, rfl, a, l, _, _, rfl, W.b.t, by omega, by omega, by omega, by omega, fun H3 d d0 d1 b3 S3 => ?_⟩
                    have W3 := W.draw b3 S3
                    have R3 := R.draw b3
                    have vq3 := b3 _ _ rq.na rq.nl vq
                    have aq3 := aq.tl (b3.tl W.b.t)
                    have hr3 := b3 _ _ Fr'.na Fr'.nl hr0
                    have ar3 := ar.tl (b3.tl W.b.t)
                    refine ⟨fun σ' H' => H' = H3 ∧ ∃ d' : Int, 0 ≤ d' ∧ d' ≤ 5 ∧ (d' = 0 → rkOf rs u < rkOf rs v) ∧ σ' = sgA a po pf pn places full doors many long wide late cut k0 sort (some (.ref pb)) (some (.ref pe)) line0 (some (.int u)) (some (.int v)) (some (.ref pr)) (some (.ref pk)) (some (.int d')) none none, ?_, ?_⟩
                    · refine ⟨_, rfl, rfl, _, rfl, ite2 (fun hc => ?_) (fun hc => ?_)⟩
                      · have hu' : u ∈ rs := R3.p.mem_iff.mpr hu
                        have hv' : v ∈ rs := R3.p.mem_iff.mpr hv
                        obtain ⟨i1, i2⟩ := idx_ok hu'
                        obtain ⟨j1, j2⟩ := idx_ok hv'
                        refine ⟨_, rfl, .inl ⟨rfl, _, SqL.of R3.h⟩, _, rfl, pk, _, _, _, _, rfl, rfl, SqL.of R3.h, rfl, ints_flat rs, i1, (by show (u == u) = true; exact beq_self_eq_true u), i2, ?_⟩
                        refine ⟨_, rfl, .inl ⟨rfl, _, SqL.of R3.h⟩, _, rfl, pk, _, _, _, _, rfl, rfl, SqL.of R3.h, rfl, ints_flat rs, j1, (by show (v == v) = true; exact beq_self_eq_true v), j2, ?_⟩
                        refine ⟨_, _, rfl, rfl, _, rfl, ite2 (fun hc2 => ?_) (fun hc2 => ?_)⟩
                        · exact ⟨rfl, 1, by decide, by decide, fun z => absurd z (by decide), rfl⟩
                        · refine ⟨_, rfl, rfl, d, d0, by omega, fun _ => idx_lt hu' hv' nuv fun z => ?_, rfl⟩
                          have z2 : ((rs.idxOf u : Nat) : Int) > ((rs.idxOf v : Nat) : Int) := by omega
                          rw [decide_eq_true z2] at hc2
                          exact hc2 rfl
                      · refine ⟨_, rfl, rfl, d, d0, by omega, fun z => ?_, rfl⟩
                        rw [z, decide_eq_true rfl] at hc
                        exact absurd rfl hc
                    · rintro σ' H' ⟨rfl, d', e0, e5, ek, rfl⟩
                      refine ⟨_, rfl, .inl ⟨rfl, _, SqL.of hr3⟩, _, rfl, _, rfl, _, rfl, _, rfl, _, rfl, a, l, _, _, rfl, S3, by omega, by omega, by omega, by omega, fun H5 e f0 f1 b5 S5 => ?_⟩
                      have W5 := W3.draw b5 S5
                      have hr5 := b5 _ _ Fr'.na Fr'.nl hr3
                      refine ⟨_, _, rfl, rfl, (by show 4 ≤ sizeLine; decide), fun t ht => ?_⟩
                      have s6 := same_new (o := .tup [.int u, .int v, .int d', .int (1 + e)]) ht
                      have W6 := W5.same s6
                      have hr6 := s6 _ _ hr5
                      have tl6 : TL H' (upd H5 t (.tup [.int u, .int v, .int d', .int (1 + e)])) := (b5.tl S3).trans (TL.new ht)
                      refine ⟨pr, _, _, rfl, rfl, hr6, by rw [lr]; exact Nat.lt_trans hi (by decide), ?_⟩
                      refine ⟨⟨_, _, _, rfl⟩, (W6.set Fr' hr6 nro nrn nrb nre).mono (by omega), ?_, (aq3.tl tl6).tl (TL.set hr6), ((R3.draw b5).same s6).set nrk, rd ++ [.ref t], upd_same, by rw [List.length_append, lr]; rfl, ?_⟩
                      · rw [upd_ne nrq.symm]
                        exact s6 _ _ (b5 _ _ rq.na rq.nl vq3)
                      · exact ((ar3.tl tl6).tl (TL.set hr6)).app (AllT.one (TL.set hr6 _ _ upd_same) ⟨u, v, d', _, rfl, hu, hv, nuv, e0, by omega, by omega, by omega, ek⟩)
                  · obtain ⟨⟨one, other, len, rfl⟩, W', vq', aq', R', rd', hr', lr', ar'⟩ := w
                    exact ⟨po, pf, pn, pb, pe, pr, pk, many, long, wide, late, cut, ps, bs, es, rs, k0, sort, line0, one, other, len, none, none, xs, rd', G0, rfl, hm, hmp, hl, Fr', nro, nrn, nrb, nre, nrk, ha, hI, hO, hx2, hxd, W'.mono (by omega), R', hr', by omega, ar'⟩
                · clear hf lf af W R hr0 lr ar ha hI hO
                  rintro σ0 H0 ⟨po, pf, pn, pb, pe, pr, pk, many, long, wide, late, cut, ps, bs, es, rs, k0, sort, line0, one0, other0, len0, cr0, at0, xs, rd, G0, rfl, hm, hmp, hl, Fr', nro, nrn, nrb, nre, nrk, ha, hI, hO, hx2, hxd, W, R, hr0, lr, ar⟩
                  have lenps := hm.len
                  have lm20 := hm.m20
                  have lm2 := hm.m2
                  have ll := hl.w1
                  have lw := hl.w2
                  refine ⟨MG a l H N 1850 places full doors, ?_, ?_⟩
                  · have skip : ∀ H1, Kept a l H po pf pn pb pe ps bs es xs G0 (N + 1850) H1 → Rnk a l H pk ps rs H1 → H1 pr = some (.lst rd) → AllT H1 (Rok ps (rkOf rs)) rd → MG a l H N 1850 places full doors (sgA a po pf pn places full doors many long wide late cut k0 sort (some (.ref pb)) (some (.ref pe)) line0 one0 other0 (some (.ref pr)) (some (.ref pk)) len0 cr0 at0) H1 := fun H1 W1 R1 h1 a1 =>
                      ⟨po, pf, pn, pb, pe, pr, pk, many, long, wide, late, cut, ps, bs, es, rs, k0, sort, line0, one0, other0, len0, cr0, at0, xs, rd, G0, rfl, hm, hmp, hl, Fr', nro, nrn, nrb, nre, nrk, ha, hI, hO, hx2, hxd, W1, R1, h1, lr, a1⟩
                    refine ⟨_, rfl, _, _, rfl, rfl, _, rfl, ite2 (fun hc1 => ?_) (fun hc1 => iteF (skip _ (W.mono (by omega)) R hr0 ar))⟩
                    refine ⟨_, rfl, _, _, rfl, rfl, _, rfl, ite2 (fun hc2 => ?_) (fun hc2 => iteF (skip _ (W.mono (by omega)) R hr0 ar))⟩
                    have m3 : many > 3 := of_decide_eq_true hc1
                    have f4 : full > 4 := of_decide_eq_true hc2
                    refine ⟨_, rfl, a, l, _, 2, rfl, W.b.t, by omega, by omega, by decide, by decide, fun H1 d d0 d1 b1 S1 => ?_⟩
                    have W1 := W.draw b1 S1
                    have R1 := R.draw b1
                    have h1 := b1 _ _ Fr'.na Fr'.nl hr0
                    have a1 := ar.tl (b1.tl W.b.t)
                    refine ⟨rfl, _, rfl, ite2 (fun hc3 => ?_) (fun hc3 => skip _ (W1.mono (by omega)) R1 h1 a1)⟩
                    clear skip
                    refine ⟨_, rfl, _, rfl, _, rfl, a, l, pb, _, _, rfl, W1.b.t, by omega, by omega, W1.x.r.na, W1.x.r.nl, W1.x.h, by rw [List.length_map]; exact W1.x.n, by rw [List.length_map]; exact Nat.le_trans W1.x.m (by decide), fun H2 v2 hv2 b2 S2 => ?_⟩
                    obtain ⟨x2, hx2', rfl⟩ := List.mem_map.mp hv2
                    have W2 := W1.draw b2 S2
                    have R2 := R1.draw b2
                    have h2 := b2 _ _ Fr'.na Fr'.nl h1
                    have a2 := a1.tl (b2.tl W1.b.t)
                    refine ⟨_, rfl, _, rfl, a, l, pe, _, _, rfl, W2.b.t, by omega, by omega, W2.y.r.na, W2.y.r.nl, W2.y.h, by rw [List.length_map]; exact W2.y.n, by rw [List.length_map]; exact Nat.le_trans W2.y.m (by decide), fun H3 v3 hv3 b3 S3 => ?_⟩
                    obtain ⟨x3, hx3, rfl⟩ := List.mem_map.mp hv3
                    have W3 := W2.draw b3 S3
                    have R3 := R2.draw b3
                    have h3 := b3 _ _ Fr'.na Fr'.nl h2
                    have a3 := a2.tl (b3.tl W2.b.t)
                    refine ⟨_, rfl, _, rfl, a, l, po, _, x2, x3, wide, ps, rfl, W3.b.t, by omega, by omega, W3.b.r.na, W3.b.r.nl, W3.b.o, hm.nd, by omega, by omega, W3.x.s _ hx2', W3.y.s _ hx3, ll, lw, fun H4 q ys b4 fq hq l5 aq S4 => ?_⟩
                    have W4 := W3.draw b4 S4
                    have R4 := R3.draw b4
                    have h4 := b4 _ _ Fr'.na Fr'.nl h3
                    have a4 := a3.tl (b4.tl W3.b.t)
                    have rq := W3.b.fr fq
                    refine ⟨_, rfl, _, rfl, _, rfl, _, rfl, _, rfl, _, _, rfl, rfl, a, l, _, _, rfl, S4, by omega, by omega, by omega, by omega, fun H5 e e0 e1 b5 S5 => ?_⟩
                    have W5 := W4.draw b5 S5
                    have R5 := R4.draw b5
                    have h5 := b5 _ _ Fr'.na Fr'.nl h4
                    have a5 := a4.tl (b5.tl W4.b.t)
                    have q5 := b5 _ _ rq.na rq.nl hq
                    have aq5 := (aq (rkOf rs)).tl (b5.tl W4.b.t)
                    refine ⟨_, rfl, pr, _, rfl, SqL.of h5, fun t ht => ?_⟩
                    rw [cut_to _ e0]
                    have s6 := same_new (o := .lst (rd.take e.toNat)) ht
                    have W6 := W5.same s6
                    have q6 := s6 _ _ q5
                    have lt : (rd.take e.toNat).length ≤ e.toNat := by
                      rw [List.length_take]
                      exact Nat.min_le_left _ _
                    refine ⟨q, t, _, _, rfl, rfl, q6, upd_same, Nat.le_trans (show ys.length + (rd.take e.toNat).length ≤ 200 by omega) (by decide), fun t2 ht2 => ?_⟩
                    have s7 := same_new (o := .lst (ys ++ rd.take e.toNat)) ht2
                    have W7 := W6.same s7
                    have r2 := W6.b.fr ht2
                    refine ⟨a, l, t2, _, _, rfl, W7.b.t, by omega, by omega, r2.na, r2.nl, upd_same, by rw [List.length_append]; omega, fun H8 p zs pm b8 f8 h8 S8 => ?_⟩
                    have W8 := W7.draw b8 S8
                    have tl8 : TL H5 H8 := ((TL.new ht).trans (TL.new ht2)).trans (b8.tl W7.b.t)
                    have R7 := (R5.same s6).same s7
                    refine ⟨po, pf, pn, pb, pe, p, pk, many, long, wide, late, cut, ps, bs, es, rs, k0, sort, line0, one0, other0, len0, _, at0, xs, zs, G0, rfl, hm, hmp, hl, W7.b.fr f8, (ne_of_none W7.b.o f8).symm, (ne_of_none W7.n f8).symm, (ne_of_none W7.x.h f8).symm, (ne_of_none W7.y.h f8).symm, (ne_of_none R7.h f8).symm, ha, hI, hO, hx2, hxd, W8.mono (by omega), R7.draw b8, h8, ?_, ?_⟩
                    · rw [pm.length_eq, List.length_append]
                      omega
                    · refine AllT.sub ((aq5.tl tl8).app ((a5.tl tl8).sub (ys := rd.take e.toNat) fun v hv => List.mem_of_mem_take hv)) fun v hv => pm.mem_iff.mp hv
                  · clear W R hr0 lr ar ha hI hO
                    rintro σ0 H0 ⟨po, pf, pn, pb, pe, pr, pk, many, long, wide, late, cut, ps, bs, es, rs, k0, sort, line0, one0, other0, len0, cr0, at0, xs, rd, G0, rfl, hm, hmp, hl, Fr', nro, nrn, nrb, nre, nrk, ha, hI, hO, hx2, hxd, W, R, hr0, lr, ar⟩
                    refine ⟨MG a l H N 1860 places full doors, ?_, ?_⟩
                    · have skip : ∀ H1, Kept a l H po pf pn pb pe ps bs es xs G0 (N + 1860) H1 → Rnk a l H pk ps rs H1 → H1 pr = some (.lst rd) → AllT H1 (Rok ps (rkOf rs)) rd → MG a l H N 1860 places full doors (sgA a po pf pn places full doors many long wide late cut k0 sort (some (.ref pb)) (some (.ref pe)) line0 one0 other0 (some (.ref pr)) (some (.ref pk)) len0 cr0 at0) H1 := fun H1 W1 R1 h1 a1 =>
                        ⟨po, pf, pn, pb, pe, pr, pk, many, long, wide, late, cut, ps, bs, es, rs, k0, sort, line0, one0, other0, len0, cr0, at0, xs, rd, G0, rfl, hm, hmp, hl, Fr', nro, nrn, nrb, nre, nrk, ha, hI, hO, hx2, hxd, W1, R1, h1, lr, a1⟩
                      refine ⟨_, rfl, a, l, _, 3, rfl, W.b.t, by omega, by omega, by decide, by decide, fun H1 d d0 d1 b1 S1 => ?_⟩
                      have W1 := W.draw b1 S1
                      have R1 := R.draw b1
                      have h1 := b1 _ _ Fr'.na Fr'.nl hr0
                      have a1 := ar.tl (b1.tl W.b.t)
                      refine ⟨rfl, _, rfl, ite2 (fun hc => ?_) (fun hc => iteF (skip _ (W1.mono (by omega)) R1 h1 a1))⟩
                      refine ⟨_, rfl, pr, _, rfl, .inl (SqL.of h1), _, _, rfl, rfl, _, rfl, ite2 (fun hc2 => ?_) (fun hc2 => skip _ (W1.mono (by omega)) R1 h1 a1)⟩
                      clear skip
                      have l2 : (rd.length : Int) > 2 := of_decide_eq_true hc2
                      refine ⟨_, rfl, _, rfl, pr, _, rfl, .inl (SqL.of h1), a, l, _, _, rfl, S1, by omega, by omega, by omega, by omega, fun H2 e e0 e1 b2 S2 => ?_⟩
                      have W2 := W1.draw b2 S2
                      have R2 := R1.draw b2
                      have h2 := b2 _ _ Fr'.na Fr'.nl h1
                      have a2 := a1.tl (b2.tl W1.b.t)
                      have he : e.toNat < rd.length := by omega
                      have hat : atI rd e = some rd[e.toNat] := at_of (j := e.toNat) (by omega) (List.getElem?_eq_getElem he)
                      obtain ⟨p, tt, ep, hp, x, y, dd, rr, rfl, hx, hy, nxy, z0, z9, r1, r10, zk⟩ := a2 rd[e.toNat] (List.getElem_mem he)
                      rw [ep] at hat
                      refine ⟨_, rfl, _, rfl, pr, _, _, _, rfl, rfl, SqL.of h2, hat, p, _, _, _, rfl, rfl, SqT.of hp, (by rfl), ?_⟩
                      refine ⟨_, rfl, _, rfl, pr, _, _, _, rfl, rfl, SqL.of h2, hat, p, _, _, _, rfl, rfl, SqT.of hp, (by rfl), ?_⟩
                      refine ⟨_, rfl, a, l, _, 4, rfl, S2, by omega, by omega, by decide, by decide, fun H3 g g0 g1 b3 S3 => ?_⟩
                      have W3 := W2.draw b3 S3
                      have R3 := R2.draw b3
                      have h3 := b3 _ _ Fr'.na Fr'.nl h2
                      have a3 := a2.tl (b3.tl W2.b.t)
                      have hp3 := b3.tl W2.b.t _ _ hp
                      refine ⟨_, _, rfl, rfl, _, rfl, _, rfl, pr, _, _, _, rfl, rfl, SqL.of h3, hat, p, _, _, _, rfl, rfl, SqT.of hp3, (by rfl), (by show 4 ≤ sizeLine; decide), fun t ht => ?_⟩
                      have s4 := same_new (o := .tup [.int x, .int y, .int (6 + g), .int rr]) ht
                      have W4 := W3.same s4
                      have h4 := s4 _ _ h3
                      refine ⟨_, rfl, _, rfl, pr, rd, e, e.toNat, rfl, rfl, h4, ixN_at e0 e1, ?_⟩
                      refine ⟨po, pf, pn, pb, pe, pr, pk, many, long, wide, late, cut, ps, bs, es, rs, k0, sort, line0, one0, other0, len0, cr0, _, xs, rd.set e.toNat (.ref t), G0, rfl, hm, hmp, hl, Fr', nro, nrn, nrb, nre, nrk, ha, hI, hO, hx2, hxd, (W4.set Fr' h4 nro nrn nrb nre).mono (by omega), (R3.same s4).set nrk, upd_same, by rw [List.length_set]; exact lr, ?_⟩
                      intro v hv
                      rcases List.mem_or_eq_of_mem_set hv with q | rfl
                      · exact ((a3.tl (TL.new ht)).tl (TL.set h4)) v q
                      · exact ⟨t, _, rfl, TL.set h4 _ _ upd_same, x, y, _, _, rfl, hx, hy, nxy, by omega, by omega, r1, r10, fun z => by omega⟩
                    · clear W R hr0 lr ar ha hI hO
                      rintro σ0 H0 ⟨po, pf, pn, pb, pe, pr, pk, many, long, wide, late, cut, ps, bs, es, rs, k0, sort, line0, one0, other0, len0, cr0, at0, xs, rd, G0, rfl, hm, hmp, hl, Fr', nro, nrn, nrb, nre, nrk, ha, hI, hO, hx2, hxd, W, R, hr0, lr, ar⟩
                      have lm2 := hm.m2
                      have lenps := hm.len
                      refine ⟨MG a l H N 1880 places full doors, ?_, ?_⟩
                      · have skip : ∀ H1, Kept a l H po pf pn pb pe ps bs es xs G0 (N + 1880) H1 → Rnk a l H pk ps rs H1 → H1 pr = some (.lst rd) → AllT H1 (Rok ps (rkOf rs)) rd → MG a l H N 1880 places full doors (sgA a po pf pn places full doors many long wide late cut k0 sort (some (.ref pb)) (some (.ref pe)) line0 one0 other0 (some (.ref pr)) (some (.ref pk)) len0 cr0 at0) H1 := fun H1 W1 R1 h1 a1 =>
                          ⟨po, pf, pn, pb, pe, pr, pk, many, long, wide, late, cut, ps, bs, es, rs, k0, sort, line0, one0, other0, len0, cr0, at0, xs, rd, G0, rfl, hm, hmp, hl, Fr', nro, nrn, nrb, nre, nrk, ha, hI, hO, hx2, hxd, W1, R1, h1, lr, a1⟩
                        refine ⟨_, rfl, a, l, _, 3, rfl, W.b.t, by omega, by omega, by decide, by decide, fun H1 d d0 d1 b1 S1 => ?_⟩
                        have W1 := W.draw b1 S1
                        have R1 := R.draw b1
                        have h1 := b1 _ _ Fr'.na Fr'.nl hr0
                        have a1 := ar.tl (b1.tl W.b.t)
                        refine ⟨rfl, _, rfl, ite2 (fun hc => ?_) (fun hc => iteF (skip _ (W1.mono (by omega)) R1 h1 a1))⟩
                        refine ⟨_, rfl, pn, _, rfl, .inl (SqL.of W1.n), _, _, rfl, rfl, _, rfl, ite2 (fun hc2 => ?_) (fun hc2 => skip _ (W1.mono (by omega)) R1 h1 a1)⟩
                        clear skip
                        have l2 : (xs.length : Int) > 2 := of_decide_eq_true hc2
                        refine ⟨_, rfl, _, rfl, pn, _, rfl, .inl (SqL.of W1.n), _, _, rfl, rfl, a, l, _, _, rfl, S1, by omega, by omega, by omega, by omega, fun H2 e e0 e1 b2 S2 => ?_⟩
                        have W2 := W1.draw b2 S2
                        have R2 := R1.draw b2
                        have h2 := b2 _ _ Fr'.na Fr'.nl h1
                        have a2 := a1.tl (b2.tl W1.b.t)
                        have x2 := ha.tl W2.t
                        refine ⟨_, _, rfl, rfl, ?_⟩
                        have hj : (2 + e).toNat < xs.length := by omega
                        have hat : atI xs (2 + e) = some xs[(2 + e).toNat] := at_of (j := (2 + e).toNat) (by omega) (List.getElem?_eq_getElem hj)
                        obtain ⟨p, tt, ep, hp, x, h, rfl, hx, z0, z9⟩ := x2 xs[(2 + e).toNat] (List.getElem_mem hj)
                        rw [ep] at hat
                        refine ⟨_, rfl, _, rfl, pn, _, _, _, rfl, rfl, SqL.of W2.n, hat, p, _, _, _, rfl, rfl, SqT.of hp, (by rfl), ?_⟩
                        refine ⟨_, rfl, _, rfl, pn, _, _, _, rfl, rfl, SqL.of W2.n, hat, p, _, _, _, rfl, rfl, SqT.of hp, (by rfl), ?_⟩
                        refine ⟨_, rfl, a, l, _, 7, rfl, S2, by omega, by omega, by decide, by decide, fun H3 g g0 g1 b3 S3 => ?_⟩
                        have W3 := W2.draw b3 S3
                        have R3 := R2.draw b3
                        have h3 := b3 _ _ Fr'.na Fr'.nl h2
                        have a3 := a2.tl (b3.tl W2.b.t)
                        refine ⟨_, _, rfl, rfl, (by show 3 ≤ sizeLine; decide), fun t ht => ?_⟩
                        have s4 := same_new (o := .tup [.str (if Sof ps cut x = true then "in" else "out"), .int x, .int (3 + g)]) ht
                        have W4 := W3.same s4
                        have h4 := s4 _ _ h3
                        refine ⟨_, rfl, _, rfl, pn, xs, 2 + e, (2 + e).toNat, rfl, rfl, W4.n, ixN_at (by omega) (by omega), ?_⟩
                        have x4 := ha.tl W4.t
                        have q1 : pn ≠ po := ints_ne W4.b.o W4.n x4 (by omega)
                        have q2 : pn ≠ pb := ints_ne W4.x.h W4.n x4 W4.x.n
                        have q3 : pn ≠ pe := ints_ne W4.y.h W4.n x4 W4.y.n
                        have q4 : pn ≠ pk := ints_ne (R3.same s4).h W4.n x4 (by rw [R3.p.length_eq]; omega)
                        have tl5 := (TL.set W4.n : TL _ (upd (upd H3 t (.tup [.str (if Sof ps cut x = true then "in" else "out"), .int x, .int (3 + g)])) pn (.lst (xs.set (2 + e).toNat (.ref t)))))
                        have tt5 : upd (upd H3 t (.tup [.str (if Sof ps cut x = true then "in" else "out"), .int x, .int (3 + g)])) pn (.lst (xs.set (2 + e).toNat (.ref t))) t = some (.tup [.str (if Sof ps cut x = true then "in" else "out"), .int x, .int (3 + g)]) := tl5 _ _ upd_same
                        have hp5 := tl5 _ _ (s4 _ _ (b3.tl W2.b.t _ _ hp))
                        have tG := W4.t.trans tl5
                        have has : ∀ P1 : List V → Prop, (∀ s x h h', P1 [.str s, .int x, .int h] → P1 [.str s, .int x, .int h']) → Has G0 P1 xs → Has (upd (upd H3 t (.tup [.str (if Sof ps cut x = true then "in" else "out"), .int x, .int (3 + g)])) pn (.lst (xs.set (2 + e).toNat (.ref t)))) P1 (xs.set (2 + e).toNat (.ref t)) := fun P1 hP hh => by
                          obtain ⟨v, hv, p', t', e1, e2, e3⟩ := hh
                          rcases mem_set_or (w := .ref t) (j := (2 + e).toNat) hv with q | q
                          · exact ⟨v, q, p', t', e1, tG _ _ e2, e3⟩
                          · rw [List.getElem?_eq_getElem hj, ep] at q
                            have e4 := Option.some.inj q
                            rw [e1] at e4
                            have e5 := tG _ _ e2
                            rw [← V.ref.inj e4, hp5] at e5
                            rw [← HO.tup.inj (Option.some.inj e5)] at e3
                            exact ⟨.ref t, List.mem_set (by omega) _, t, _, rfl, tt5, hP _ _ _ _ e3⟩
                        refine ⟨po, pf, pn, pb, pe, pr, pk, many, long, wide, late, cut, ps, bs, es, rs, k0, sort, line0, one0, other0, len0, cr0, _, xs.set (2 + e).toNat (.ref t), rd, _, rfl, hm, hmp, hl, Fr', nro, nrn, nrb, nre, nrk, ?_, has _ (fun s x h h' ⟨u, v, w⟩ => ?_) hI, has _ (fun s x h h' ⟨u, v, w⟩ => ?_) hO, by rw [List.length_set]; exact hx2, by rw [List.length_set]; exact hxd,
                          ⟨(W4.b.set W4.fn q1).mono (by omega), upd_same, TL.refl, W4.x.set q2.symm, W4.y.set q3.symm, W4.fn⟩, (R3.same s4).set q4, by rw [upd_ne nrn]; exact h4, lr, (a3.tl (TL.new ht)).tl tl5⟩
                        · intro v hv
                          rcases List.mem_or_eq_of_mem_set hv with q | rfl
                          · exact (ha.tl tG) v q
                          · exact ⟨t, _, rfl, tt5, x, _, rfl, hx, by omega, by omega⟩
                        · exact ⟨x, h', by rw [(List.cons.inj w).1]⟩
                        · exact ⟨x, h', by rw [(List.cons.inj w).1]⟩
                      · clear W R hr0 lr ar ha hI hO
                        rintro σ0 H0 ⟨po, pf, pn, pb, pe, pr, pk, many, long, wide, late, cut, ps, bs, es, rs, k0, sort, line0, one0, other0, len0, cr0, at0, xs, rd, G0, rfl, hm, hmp, hl, Fr', nro, nrn, nrb, nre, nrk, ha, hI, hO, hx2, hxd, W, R, hr0, lr, ar⟩
                        have lm20 := hm.m20
                        refine ⟨_, rfl, _, rfl, _, rfl, _, rfl, a, l, pn, _, _, rfl, W.b.t, by omega, by omega, W.fn.na, W.fn.nl, W.n, by omega, fun H1 pd ys pm b1 f1 h1 S1 => ?_⟩
                        have W1 := W.draw b1 S1
                        have g1 := b1 _ _ Fr'.na Fr'.nl hr0
                        have a1 := ar.tl (b1.tl W.b.t)
                        have rd1 := W.b.fr f1
                        refine ⟨(by show 3 ≤ sizeLine; decide), fun t ht => ?_⟩
                        have s2 := same_new (o := .tup [.int many, .ref pr, .ref pd]) ht
                        have tl := W1.t.trans (TL.new (o := .tup [.int many, .ref pr, .ref pd]) ht)
                        refine k _ t pr pd many rd ys (W1.same s2).b.b (W1.b.fr ht).f Fr'.f rd1.f upd_same hmp ⟨hm.m2, hm.m20, s2 _ _ g1, s2 _ _ h1, fun z => ?_, ⟨ps, rkOf rs, Sof ps cut, hm.mem, a1.tl (TL.new ht), (ha.tl tl).sub fun v hv => pm.mem_iff.mp hv⟩, (hI.tl tl).sub fun v hv => pm.mem_iff.mpr hv, (hO.tl tl).sub fun v hv => pm.mem_iff.mpr hv, lr.1, by rw [pm.length_eq]; exact hxd, by rw [pm.length_eq]; exact hx2, lr.2⟩ ((W1.same s2).b.t.mono (by omega))
                        rw [z, f1] at hr0
                        cases hr0
end
end K01

set_option Elab.async false
set_option linter.all false
set_option maxRecDepth 100000
set_option maxHeartbeats 8000000
namespace K01
open PySem PySem.Spec PyProof.Rows L2 Own
section
variable {X : Cx} {e : Expr} {g g2 : TG}
theorem pg_or (h : PG X e g) (h2 : PG X e g2) : PG X e (fun v σ H Q => g v σ H Q ∨ g2 v σ H Q) := ⟨fun pins s σ H v u Q I r hw => by
  rcases hw with hw | hw
  · exact h.run pins s σ H v u Q I r hw
  · exact h2.run pins s σ H v u Q I r hw⟩
end
/-! ### kinds of values -/
def atomV : V → Bool
  | .non => true
  | .bl _ => true
  | .int _ => true
  | .str _ => true
  | _ => false
/-- an atom, a list, a tuple or a dict -/
def Shp (H : Hp) (v : V) : Prop := atomV v = true ∨ (∃ a xs, v = .ref a ∧ H a = some (.lst xs)) ∨ (∃ a xs, v = .ref a ∧ H a = some (.tup xs)) ∨ ∃ a kvs, v = .ref a ∧ H a = some (.dK kvs)
theorem Shp.same {H H' : Hp} {v : V} (h : Shp H v) (e : Same H H') : Shp H' v := by
  rcases h with h | ⟨a, xs, h1, h2⟩ | ⟨a, xs, h1, h2⟩ | ⟨a, xs, h1, h2⟩
  · exact .inl h
  · exact .inr (.inl ⟨a, xs, h1, e _ _ h2⟩)
  · exact .inr (.inr (.inl ⟨a, xs, h1, e _ _ h2⟩))
  · exact .inr (.inr (.inr ⟨a, xs, h1, e _ _ h2⟩))
theorem shp_int {H : Hp} (i : Int) : Shp H (.int i) := .inl rfl
/-- what a list or a tuple holds -/
def seqOf (H : Hp) : V → Option (List V)
  | .ref a => match H a with
    | some (.lst xs) => some xs
    | some (.tup xs) => some xs
    | _ => none
  | _ => none
theorem seq_same {H H' : Hp} {v : V} (h : Shp H v) (e : Same H H') : seqOf H' v = seqOf H v := by
  rcases h with h | ⟨a, xs, rfl, h2⟩ | ⟨a, xs, rfl, h2⟩ | ⟨a, xs, rfl, h2⟩
  · cases v <;> first | rfl | cases h
  · show (match H' a with | some (.lst xs) => some xs | some (.tup xs) => some xs | _ => none) = (match H a with | some (.lst xs) => some xs | some (.tup xs) => some xs | _ => none)
    rw [h2, e _ _ h2]
  · show (match H' a with | some (.lst xs) => some xs | some (.tup xs) => some xs | _ => none) = (match H a with | some (.lst xs) => some xs | some (.tup xs) => some xs | _ => none)
    rw [h2, e _ _ h2]
  · show (match H' a with | some (.lst xs) => some xs | some (.tup xs) => some xs | _ => none) = (match H a with | some (.lst xs) => some xs | some (.tup xs) => some xs | _ => none)
    rw [h2, e _ _ h2]
theorem seq_lst {H : Hp} {a : Addr} {xs : List V} (h : H a = some (.lst xs)) : seqOf H (.ref a) = some xs := by
  show (match H a with | some (.lst xs) => some xs | some (.tup xs) => some xs | _ => none) = some xs
  rw [h]
theorem seq_tup {H : Hp} {a : Addr} {xs : List V} (h : H a = some (.tup xs)) : seqOf H (.ref a) = some xs := by
  show (match H a with | some (.lst xs) => some xs | some (.tup xs) => some xs | _ => none) = some xs
  rw [h]
theorem seq_atom {H : Hp} {v : V} (h : atomV v = true) : seqOf H v = none := by
  cases v <;> first | rfl | cases h
theorem seq_dic {H : Hp} {a : Addr} {kvs : List (Key × V)} (h : H a = some (.dK kvs)) : seqOf H (.ref a) = none := by
  show (match H a with | some (.lst xs) => some xs | some (.tup xs) => some xs | _ => none) = none
  rw [h]
def isI : V → Bool
  | .int _ => true
  | _ => false
def isN : V → Bool
  | .int i => decide (0 ≤ i)
  | _ => false
def isP (n : Int) : V → Bool
  | .int i => decide (0 ≤ i) && decide (i < n)
  | _ => false
/-! ### types -/
def TyS (K : PySem.W.Frag) (H : Hp) (x : V) (T : String) : Prop := ∀ H', Same H H' → TyX K H' x (.type T)
theorem TyS.grow {K : PySem.W.Frag} {H H' : Hp} {x : V} {T : String} (h : TyS K H x T) (e : Same H H') : TyS K H' x T := fun H2 e2 => h H2 (e.trans e2)
theorem TyS.now {K : PySem.W.Frag} {H : Hp} {x : V} {T : String} (h : TyS K H x T) : TyX K H x (.type T) := h H (Same.refl H)
theorem kit2 {K : PySem.W.Frag} {T a b : String} {x y r : Bool} (ha : kitB T a = some x) (hb : kitB T b = some y) (h : (x || y) = r) : PySem.W.kitAny K (.type T) [.type a, .type b] = some r := by
  subst h
  refine kitAny_cons (kit_ty ha) (fun e => ?_) (fun e => by rw [e]; rfl)
  rw [e]
  refine kitAny_cons (kit_ty hb) (fun e => ?_) (fun e => by rw [e]; rfl)
  rw [e]
  exact kitAny_nil
theorem shp_ty {K : PySem.W.Frag} {H : Hp} {v : V} (h : Shp H v) : ∃ (T : String) (i b l t s : Bool), TyS K H v T ∧ kitB T "int" = some i ∧ kitB T "bool" = some b ∧ kitB T "list" = some l ∧ kitB T "tuple" = some t ∧ kitB T "str" = some s ∧
    isI v = (i && !b) ∧ (seqOf H v).isSome = (l || t) ∧ (s = true → ∃ z, v = .str z) ∧ (∀ z, v = .str z → s = true) := by
  rcases h with h | ⟨a, xs, rfl, h2⟩ | ⟨a, xs, rfl, h2⟩ | ⟨a, xs, rfl, h2⟩
  · cases v with
    | non => exact ⟨"NoneType", false, false, false, false, false, fun _ _ => .base .non, by decide +kernel, by decide +kernel, by decide +kernel, by decide +kernel, by decide +kernel, rfl, rfl, fun z => (by cases z), fun z e => (by cases e)⟩
    | bl b => exact ⟨"bool", true, true, false, false, false, fun _ _ => .base (.bl b), by decide +kernel, by decide +kernel, by decide +kernel, by decide +kernel, by decide +kernel, rfl, rfl, fun z => (by cases z), fun z e => (by cases e)⟩
    | int i => exact ⟨"int", true, false, false, false, false, fun _ _ => .base (.int i), by decide +kernel, by decide +kernel, by decide +kernel, by decide +kernel, by decide +kernel, rfl, rfl, fun z => (by cases z), fun z e => (by cases e)⟩
    | str x => exact ⟨"str", false, false, false, false, true, fun _ _ => .base (.str x), by decide +kernel, by decide +kernel, by decide +kernel, by decide +kernel, by decide +kernel, rfl, rfl, fun _ => ⟨x, rfl⟩, fun _ _ => rfl⟩
    | _ => cases h
  · exact ⟨"list", false, false, true, false, false, fun H' e => .base (.lst (e _ _ h2)), by decide +kernel, by decide +kernel, by decide +kernel, by decide +kernel, by decide +kernel, rfl, by rw [seq_lst h2]; rfl, fun z => (by cases z), fun z e => (by cases e)⟩
  · exact ⟨"tuple", false, false, false, true, false, fun H' e => .base (.tup (e _ _ h2)), by decide +kernel, by decide +kernel, by decide +kernel, by decide +kernel, by decide +kernel, rfl, by rw [seq_tup h2]; rfl, fun z => (by cases z), fun z e => (by cases e)⟩
  · exact ⟨"dict", false, false, false, false, false, fun H' e => .base (.dK (e _ _ h2)), by decide +kernel, by decide +kernel, by decide +kernel, by decide +kernel, by decide +kernel, rfl, by rw [seq_dic h2]; rfl, fun z => (by cases z), fun z e => (by cases e)⟩
/-! ### is_integer, is_number, is_list, is_place -/
def spInt : Sp := fun vs H Q _ => ∃ v, vs = [v] ∧ Shp H v ∧ Q (.bl (isI v)) H
def spNum : Sp := fun vs H Q _ => ∃ v, vs = [v] ∧ Shp H v ∧ Q (.bl (isN v)) H
def spLst : Sp := fun vs H Q _ => ∃ v, vs = [v] ∧ Shp H v ∧ ∀ H', Same H H' → Q (.bl (seqOf H v).isSome) H'
def spPlace : Sp := fun vs H Q _ => ∃ (n : Int) (v : V), vs = [.int n, v] ∧ Shp H v ∧ Q (.bl (isP n v)) H
theorem scIsInt : FnScope ["thing"] ["thing"] (defScope sIsInt) := ⟨rfl, rfl, rfl, by decide +kernel, rfl, by decide +kernel, by decide +kernel⟩
theorem scIsNum : FnScope ["thing"] ["thing"] (defScope sIsNum) := ⟨rfl, rfl, rfl, by decide +kernel, rfl, by decide +kernel, by decide +kernel⟩
theorem scIsList : FnScope ["thing"] ["thing"] (defScope sIsList) := ⟨rfl, rfl, rfl, by decide +kernel, rfl, by decide +kernel, by decide +kernel⟩
theorem scIsPlace : FnScope ["places", "thing"] ["places", "thing"] (defScope sIsPlace) := ⟨rfl, rfl, rfl, by decide +kernel, rfl, by decide +kernel, by decide +kernel⟩
section
variable {P : Program} {w : World} {K : PySem.W.Frag} {mg : Str → Option Value} {base : Heap}
theorem ok_isInt {f : Addr} {fd : FuncData} (F : Fun K "is_integer" "is_integer" sIsInt f fd) (T : Bt mg) : FnOk P w K mg base CX0 1 f fd ["thing"] spInt := by
  refine F.ok scIsInt (fun vs H Q E h => ?_) (fun cdv A outer s H vs Q E hr h => ?_)
  · obtain ⟨v, rfl, _⟩ := h
    rfl
  · obtain ⟨v, rfl, hv, k⟩ := h
    refine ⟨_, (pss_one (ps_ret (pe_and (pe_callB call_isi (by rfl) T.isi (by decide +kernel) (pa_cons (pv 0) (pa_cons (pe_bltn (v := .ty "int") (by rfl) T.int (by decide +kernel) rfl) pa_nil))) (pe_one (pe_not (pe_callB call_isi (by rfl) T.isi (by decide +kernel) (pa_cons (pv 0) (pa_cons (pe_bltn (v := .ty "bool") (by rfl) T.bool (by decide +kernel) rfl) pa_nil)))))))), ?_⟩
    obtain ⟨Ty, i, b, l, t, s, ty, ki, kb, kl, kt, ks, e1, e2, _⟩ := shp_ty (K := K) hv
    refine ⟨_, rfl, _, _, _, _, i, rfl, .ty _, ty.now, kit_ty ki, i, rfl, ?_⟩
    cases i with
    | true =>
      refine iteT ⟨_, rfl, _, _, _, _, b, rfl, .ty _, ty.now, kit_ty kb, b, rfl, ?_⟩
      rw [e1] at k
      exact k
    | false =>
      refine iteF ?_
      rw [e1] at k
      exact k
theorem ok_isNum {f fI : Addr} {fd fdI : FuncData} (F : Fun K "is_number" "is_number" sIsNum f fd) (T : Bt mg) (FI : Fun K "is_integer" "is_integer" sIsInt fI fdI) (gI : mg "is_integer" = some (.ref fI)) (bI : Binds K fdI ["thing"] []) : FnOk P w K mg base CX0 2 f fd ["thing"] spNum := by
  have GI : FnOk P w K mg base CX0 1 fI fdI ["thing"] spInt := ok_isInt FI T
  refine F.ok scIsNum (fun vs H Q E h => ?_) (fun cdv A outer s H vs Q E hr h => ?_)
  · obtain ⟨v, rfl, _⟩ := h
    rfl
  · obtain ⟨v, rfl, hv, k⟩ := h
    refine ⟨_, (pss_one (ps_ret (pe_and (pe_call GI hr (by rfl) gI FI.kp bI .nil pass0 (pa_cons (pv 0) pa_nil)) (pe_one (pe_cmpR op_ge (pv 0) pe_int (nomark _)))))), ?_⟩
    refine ⟨_, rfl, v, rfl, hv, _, rfl, ?_⟩
    cases v with
    | int i => exact iteT ⟨_, rfl, _, _, rfl, rfl, k⟩
    | _ => exact iteF k
theorem ok_isLst {f : Addr} {fd : FuncData} (F : Fun K "is_list" "is_list" sIsList f fd) (T : Bt mg) : FnOk P w K mg base CX0 1 f fd ["thing"] spLst := by
  refine F.ok scIsList (fun vs H Q E h => ?_) (fun cdv A outer s H vs Q E hr h => ?_)
  · obtain ⟨v, rfl, _⟩ := h
    rfl
  · obtain ⟨v, rfl, hv, k⟩ := h
    refine ⟨_, (pss_one (ps_ret (pe_callB call_isiT (by rfl) T.isi (by decide +kernel) (pa_cons (pv 0) (pa_cons (pe_tup (pa_cons (pe_bltn (v := .ty "list") (by rfl) T.list (by decide +kernel) rfl) (pa_cons (pe_bltn (v := .ty "tuple") (by rfl) T.tuple (by decide +kernel) rfl) pa_nil))) pa_nil))))), ?_⟩
    obtain ⟨Ty, i, b, l, t, s, ty, ki, kb, kl, kt, ks, e1, e2, _⟩ := shp_ty (K := K) hv
    refine ⟨_, rfl, (by show 2 ≤ sizeLine; decide), fun tp htp => ?_⟩
    have e3 := same_new (o := HO.tup [V.ty "list", V.ty "tuple"]) htp
    refine ⟨_, tp, _, _, _, l || t, rfl, upd_same, .cons (.ty _) (.cons (.ty _) .nil), (ty.grow e3).now, kit2 kl kt rfl, ?_⟩
    rw [← e2]
    exact k _ e3
theorem ok_isPlace {f fI fN : Addr} {fd fdI fdN : FuncData} (F : Fun K "is_place" "is_place" sIsPlace f fd) (T : Bt mg) (FI : Fun K "is_integer" "is_integer" sIsInt fI fdI) (gI : mg "is_integer" = some (.ref fI)) (bI : Binds K fdI ["thing"] [])
    (FN : Fun K "is_number" "is_number" sIsNum fN fdN) (gN : mg "is_number" = some (.ref fN)) (bN : Binds K fdN ["thing"] []) : FnOk P w K mg base CX0 3 f fd ["places", "thing"] spPlace := by
  have GN : FnOk P w K mg base CX0 2 fN fdN ["thing"] spNum := ok_isNum FN T FI gI bI
  refine F.ok scIsPlace (fun vs H Q E h => ?_) (fun cdv A outer s H vs Q E hr h => ?_)
  · obtain ⟨n, v, rfl, _⟩ := h
    rfl
  · obtain ⟨n, v, rfl, hv, k⟩ := h
    refine ⟨_, (pss_one (ps_ret (pe_and (pe_call GN hr (by rfl) gN FN.kp bN .nil pass0 (pa_cons (pv 1) pa_nil)) (pe_one (pe_cmpR op_lt (pv 1) (pv 0) (nomark _)))))), ?_⟩
    refine ⟨_, rfl, v, rfl, hv, _, rfl, ?_⟩
    cases v with
    | int i =>
      refine ite2 (fun h0 => ?_) (fun h0 => ?_)
      · refine ⟨_, rfl, _, rfl, _, _, rfl, rfl, ?_⟩
        have e : isP n (.int i) = decide (i < n) := by
          show (decide (0 ≤ i) && decide (i < n)) = decide (i < n)
          rw [show decide (0 ≤ i) = true from h0]
          rfl
        rw [e] at k
        exact k
      · have e : isP n (.int i) = false := by
          show (decide (0 ≤ i) && decide (i < n)) = false
          rw [show decide (0 ≤ i) = false from Bool.eq_false_iff.mpr h0]
          rfl
        rw [e] at k
        exact k
    | _ => exact iteF k
end
end K01

set_option Elab.async false
set_option linter.all false
set_option maxRecDepth 100000
set_option maxHeartbeats 8000000
namespace K01
open PySem PySem.Spec PyProof.Rows L2 Own
def isRoad (n : Int) : Option (List V) → Bool
  | some [x, y, l, r] => isP n x && (isP n y && (!decide (x = y) && (isN l && (isN r && !decide (r = .int 0)))))
  | _ => false
def isIO : V → Bool
  | .str z => inV (.str z) [.str "in", .str "out"]
  | _ => false
def isDoor (n : Int) : Option (List V) → Bool
  | some [s, p, h] => isIO s && (isP n p && isN h)
  | _ => false
def spRoad : Sp := fun vs H Q _ => ∃ (n : Int) (v : V), vs = [.int n, v] ∧ Shp H v ∧ (∀ xs, seqOf H v = some xs → ∀ x ∈ xs, Shp H x) ∧ ∀ H', Same H H' → Q (.bl (isRoad n (seqOf H v))) H'
def spDoor : Sp := fun vs H Q _ => ∃ (n : Int) (v : V), vs = [.int n, v] ∧ Shp H v ∧ (∀ xs, seqOf H v = some xs → ∀ x ∈ xs, Shp H x) ∧ ∀ H', Same H H' → Q (.bl (isDoor n (seqOf H v))) H'
theorem scIsRoad : FnScope ["places", "thing", "begin", "end", "length", "room"] ["places", "thing"] (defScope sIsRoad) := ⟨rfl, rfl, rfl, by decide +kernel, rfl, by decide +kernel, by decide +kernel⟩
theorem scIsDoor : FnScope ["places", "thing", "sort", "place", "hour"] ["places", "thing"] (defScope sIsDoor) := ⟨rfl, rfl, rfl, by decide +kernel, rfl, by decide +kernel, by decide +kernel⟩
theorem sq_of {K : PySem.W.Frag} {H : Hp} {v : V} {xs : List V} (h : Shp H v) (e : seqOf H v = some xs) : ∃ a, v = .ref a ∧ (H a = some (.lst xs) ∨ H a = some (.tup xs)) := by
  rcases h with h | ⟨a, ys, rfl, h2⟩ | ⟨a, ys, rfl, h2⟩ | ⟨a, ys, rfl, h2⟩
  · rw [seq_atom h] at e
    cases e
  · rw [seq_lst h2] at e
    exact ⟨a, rfl, .inl (by rw [h2, Option.some.inj e])⟩
  · rw [seq_tup h2] at e
    exact ⟨a, rfl, .inr (by rw [h2, Option.some.inj e])⟩
  · rw [seq_dic h2] at e
    cases e
theorem isRoad_len {n : Int} {xs : List V} (h : xs.length ≠ 4) : isRoad n (some xs) = false := by
  match xs, h with
  | [], _ => rfl
  | [_], _ => rfl
  | [_, _], _ => rfl
  | [_, _, _], _ => rfl
  | [_, _, _, _], h => exact absurd rfl h
  | _ :: _ :: _ :: _ :: _ :: _, _ => rfl
theorem isDoor_len {n : Int} {xs : List V} (h : xs.length ≠ 3) : isDoor n (some xs) = false := by
  match xs, h with
  | [], _ => rfl
  | [_], _ => rfl
  | [_, _], _ => rfl
  | [_, _, _], h => exact absurd rfl h
  | _ :: _ :: _ :: _ :: _, _ => rfl
theorem isP_int {n : Int} {v : V} (h : isP n v = true) : ∃ i, v = .int i := by
  cases v <;> first | exact ⟨_, rfl⟩ | cases h
theorem isN_int {v : V} (h : isN v = true) : ∃ i, v = .int i ∧ 0 ≤ i := by
  cases v with
  | int i => exact ⟨i, rfl, of_decide_eq_true h⟩
  | _ => cases h
section
variable {P : Program} {w : World} {K : PySem.W.Frag} {mg : Str → Option Value} {base : Heap}
theorem ok_isRoad {f fI fN fL fPl : Addr} {fd fdI fdN fdL fdPl : FuncData} (F : Fun K "is_road" "is_road" sIsRoad f fd) (T : Bt mg) (FI : Fun K "is_integer" "is_integer" sIsInt fI fdI) (gI : mg "is_integer" = some (.ref fI)) (bI : Binds K fdI ["thing"] [])
    (FN : Fun K "is_number" "is_number" sIsNum fN fdN) (gN : mg "is_number" = some (.ref fN)) (bN : Binds K fdN ["thing"] []) (FL : Fun K "is_list" "is_list" sIsList fL fdL) (gL : mg "is_list" = some (.ref fL)) (bL : Binds K fdL ["thing"] [])
    (FPl : Fun K "is_place" "is_place" sIsPlace fPl fdPl) (gPl : mg "is_place" = some (.ref fPl)) (bPl : Binds K fdPl ["places", "thing"] []) : FnOk P w K mg base CX0 4 f fd ["places", "thing"] spRoad := by
  have GN : FnOk P w K mg base CX0 2 fN fdN ["thing"] spNum := ok_isNum FN T FI gI bI
  have GL : FnOk P w K mg base CX0 1 fL fdL ["thing"] spLst := ok_isLst FL T
  have GPl : FnOk P w K mg base CX0 3 fPl fdPl ["places", "thing"] spPlace := ok_isPlace FPl T FI gI bI FN gN bN
  refine F.ok scIsRoad (fun vs H Q E h => ?_) (fun cdv A outer s H vs Q E hr h => ?_)
  · obtain ⟨n, v, rfl, _⟩ := h
    rfl
  · obtain ⟨n, v, rfl, hv, hi, k⟩ := h
    refine ⟨_, (pss_cons (ps_if (PW.pt (pw_or (pt_not (pt_val (pe_call GL (hr.mono (by decide)) (by rfl) gL FL.kp bL .nil pass0 (pa_cons (pv 1) pa_nil)))) (pw_or1 (pt_cmpR op_ne (pe_callB call_len_seq (by rfl) T.len (by decide +kernel) (pa_cons (pv 1) pa_nil)) pe_int (nomark _))))) (pss_one (ps_ret pe_bl)) pss_nil)
  (Evl.pss_cut (ps_asg (pv 1) (pg_or (pg_tup rfl (pgs_cons (pg_name (i := 2) (x := "begin") scIsRoad.nd rfl (Or.inl rfl)) (pgs_cons (pg_name (i := 3) (x := "end") scIsRoad.nd rfl (Or.inl rfl)) (pgs_cons (pg_name (i := 4) (x := "length") scIsRoad.nd rfl (Or.inl rfl)) (pgs_cons (pg_name (i := 5) (x := "room") scIsRoad.nd rfl (Or.inl rfl)) pgs_nil))))) (pg_unl rfl (pgs_cons (pg_name (i := 2) (x := "begin") scIsRoad.nd rfl (Or.inl rfl)) (pgs_cons (pg_name (i := 3) (x := "end") scIsRoad.nd rfl (Or.inl rfl)) (pgs_cons (pg_name (i := 4) (x := "length") scIsRoad.nd rfl (Or.inl rfl)) (pgs_cons (pg_name (i := 5) (x := "room") scIsRoad.nd rfl (Or.inl rfl)) pgs_nil)))))))
  (pss_cons (ps_if (PW.pt (pw_or (pt_not (pt_val (pe_call GPl hr (by rfl) gPl FPl.kp bPl .nil pass0 (pa_cons (pv 0) (pa_cons (pv 2) pa_nil))))) (pw_or (pt_not (pt_val (pe_call GPl hr (by rfl) gPl FPl.kp bPl .nil pass0 (pa_cons (pv 0) (pa_cons (pv 3) pa_nil))))) (pw_or1 (pt_cmpR op_eq (pv 2) (pv 3) (nomark _)))))) (pss_one (ps_ret pe_bl)) pss_nil)
  (pss_one (ps_ret (pe_and (pe_call GN (hr.mono (by decide)) (by rfl) gN FN.kp bN .nil pass0 (pa_cons (pv 4) pa_nil)) (pe_and (pe_call GN (hr.mono (by decide)) (by rfl) gN FN.kp bN .nil pass0 (pa_cons (pv 5) pa_nil)) (pe_one (pe_cmpR op_gt (pv 5) pe_int (nomark _)))))))))), ?_⟩
    refine ⟨_, rfl, v, rfl, hv, fun H1 e1 => ⟨_, rfl, ?_⟩⟩
    cases hs : seqOf H v with
    | none =>
      rw [hs] at k
      exact k _ e1
    | some xs =>
      rw [hs] at k
      obtain ⟨a, rfl, ha⟩ := sq_of (K := K) hv hs
      refine iteF ⟨_, rfl, a, xs, rfl, ?_, rfl, _, rfl, ?_⟩
      · rcases ha with ha | ha
        · exact .inl (SqL.of (e1 _ _ ha))
        · exact .inr (SqT.of (e1 _ _ ha))
      refine ite2 (fun hc => ?_) (fun hc => ?_)
      · rw [isRoad_len (fun z => by rw [z] at hc; cases hc)] at k
        exact k _ e1
      · have hl : xs.length = 4 := by
          have z : decide (V.int (xs.length : Nat) = V.int 4) = true := by simpa using hc
          exact Int.ofNat.inj (V.int.inj (of_decide_eq_true z))
        match xs, hl with
        | [x, y, l, r], _ =>
          have sh := hi _ hs
          have sx := (sh x (by simp)).same e1
          have sy := (sh y (by simp)).same e1
          have sl := (sh l (by simp)).same e1
          have sr := (sh r (by simp)).same e1
          refine ⟨fun σ' H' => H' = H1 ∧ σ' = [some (.int n), some (.ref a), some x, some y, some l, some r], ?_, ?_⟩
          · refine ⟨_, rfl, ?_⟩
            rcases ha with ha | ha
            · exact .inr ⟨a, _, rfl, SqL.of (e1 _ _ ha), rfl, _, _, rfl, _, _, rfl, _, _, rfl, _, _, rfl, rfl, rfl, rfl⟩
            · exact .inl ⟨a, _, rfl, SqT.of (e1 _ _ ha), rfl, _, _, rfl, _, _, rfl, _, _, rfl, _, _, rfl, rfl, rfl, rfl⟩
          · rintro σ' H' ⟨rfl, rfl⟩
            have no : isRoad n (some [x, y, l, r]) = false → Q (.bl false) H' := fun z => by
              rw [z] at k
              exact k _ e1
            refine ⟨_, rfl, _, rfl, n, x, rfl, sx, _, rfl, ?_⟩
            cases hx : isP n x with
            | false => exact no (by show (isP n x && _) = false; rw [hx]; rfl)
            | true =>
              refine ⟨_, rfl, _, rfl, n, y, rfl, sy, _, rfl, ?_⟩
              cases hy : isP n y with
              | false => exact no (by show (isP n x && (isP n y && _)) = false; rw [hx, hy]; rfl)
              | true =>
                obtain ⟨xi, rfl⟩ := isP_int hx
                obtain ⟨yi, rfl⟩ := isP_int hy
                refine ⟨_, rfl, _, rfl, rfl, _, rfl, ite2 (fun hc => ?_) (fun hc => ?_)⟩
                · exact no (by show (isP n _ && (isP n _ && (!decide (V.int xi = V.int yi) && _))) = false; rw [hx, hy, hc]; rfl)
                · have hxy : decide (V.int xi = V.int yi) = false := Bool.eq_false_iff.mpr hc
                  have e : isRoad n (some [.int xi, .int yi, l, r]) = (isN l && (isN r && !decide (r = .int 0))) := by
                    show (isP n _ && (isP n _ && (!decide (V.int xi = V.int yi) && _))) = _
                    rw [hx, hy, hxy]
                    rfl
                  rw [e] at k
                  refine ⟨_, rfl, l, rfl, sl, _, rfl, ?_⟩
                  cases hl : isN l with
                  | false =>
                    rw [hl] at k
                    exact k _ e1
                  | true =>
                    rw [hl] at k
                    refine ⟨_, rfl, r, rfl, sr, _, rfl, ?_⟩
                    cases hr' : isN r with
                    | false =>
                      rw [hr'] at k
                      exact k _ e1
                    | true =>
                      rw [hr'] at k
                      obtain ⟨ri, rfl, r0⟩ := isN_int hr'
                      refine ⟨_, rfl, _, _, rfl, rfl, ?_⟩
                      have z : decide (ri > 0) = (true && (true && !decide (V.int ri = V.int 0))) := by
                        by_cases q : ri = 0
                        · rw [q]
                          rfl
                        · rw [decide_eq_true (show ri > 0 by omega), decide_eq_false (fun w => q (V.int.inj w))]
                          rfl
                      have k2 := k _ e1
                      rw [← z] at k2
                      exact k2
theorem ok_isDoor {f fI fN fL fPl : Addr} {fd fdI fdN fdL fdPl : FuncData} (F : Fun K "is_door" "is_door" sIsDoor f fd) (T : Bt mg) (FI : Fun K "is_integer" "is_integer" sIsInt fI fdI) (gI : mg "is_integer" = some (.ref fI)) (bI : Binds K fdI ["thing"] [])
    (FN : Fun K "is_number" "is_number" sIsNum fN fdN) (gN : mg "is_number" = some (.ref fN)) (bN : Binds K fdN ["thing"] []) (FL : Fun K "is_list" "is_list" sIsList fL fdL) (gL : mg "is_list" = some (.ref fL)) (bL : Binds K fdL ["thing"] [])
    (FPl : Fun K "is_place" "is_place" sIsPlace fPl fdPl) (gPl : mg "is_place" = some (.ref fPl)) (bPl : Binds K fdPl ["places", "thing"] []) : FnOk P w K mg base CX0 4 f fd ["places", "thing"] spDoor := by
  have GN : FnOk P w K mg base CX0 2 fN fdN ["thing"] spNum := ok_isNum FN T FI gI bI
  have GL : FnOk P w K mg base CX0 1 fL fdL ["thing"] spLst := ok_isLst FL T
  have GPl : FnOk P w K mg base CX0 3 fPl fdPl ["places", "thing"] spPlace := ok_isPlace FPl T FI gI bI FN gN bN
  refine F.ok scIsDoor (fun vs H Q E h => ?_) (fun cdv A outer s H vs Q E hr h => ?_)
  · obtain ⟨n, v, rfl, _⟩ := h
    rfl
  · obtain ⟨n, v, rfl, hv, hi, k⟩ := h
    refine ⟨_, (pss_cons (ps_if (PW.pt (pw_or (pt_not (pt_val (pe_call GL (hr.mono (by decide)) (by rfl) gL FL.kp bL .nil pass0 (pa_cons (pv 1) pa_nil)))) (pw_or1 (pt_cmpR op_ne (pe_callB call_len_seq (by rfl) T.len (by decide +kernel) (pa_cons (pv 1) pa_nil)) pe_int (nomark _))))) (pss_one (ps_ret pe_bl)) pss_nil)
  (Evl.pss_cut (ps_asg (pv 1) (pg_or (pg_tup rfl (pgs_cons (pg_name (i := 2) (x := "sort") scIsDoor.nd rfl (Or.inl rfl)) (pgs_cons (pg_name (i := 3) (x := "place") scIsDoor.nd rfl (Or.inl rfl)) (pgs_cons (pg_name (i := 4) (x := "hour") scIsDoor.nd rfl (Or.inl rfl)) pgs_nil)))) (pg_unl rfl (pgs_cons (pg_name (i := 2) (x := "sort") scIsDoor.nd rfl (Or.inl rfl)) (pgs_cons (pg_name (i := 3) (x := "place") scIsDoor.nd rfl (Or.inl rfl)) (pgs_cons (pg_name (i := 4) (x := "hour") scIsDoor.nd rfl (Or.inl rfl)) pgs_nil))))))
  (pss_cons (ps_if (PW.pt (pw_or (pt_not (pt_val (pe_callB call_isi (by rfl) T.isi (by decide +kernel) (pa_cons (pv 2) (pa_cons (pe_bltn (v := .ty "str") (by rfl) T.str (by decide +kernel) rfl) pa_nil))))) (pw_or1 (pt_cmpR op_notIn_seq (pv 2) (pe_tup (pa_cons pe_str (pa_cons pe_str pa_nil))) (by rfl))))) (pss_one (ps_ret pe_bl)) pss_nil)
  (pss_one (ps_ret (pe_and (pe_call GPl hr (by rfl) gPl FPl.kp bPl .nil pass0 (pa_cons (pv 0) (pa_cons (pv 3) pa_nil))) (pe_one (pe_call GN (hr.mono (by decide)) (by rfl) gN FN.kp bN .nil pass0 (pa_cons (pv 4) pa_nil))))))))), ?_⟩
    refine ⟨_, rfl, v, rfl, hv, fun H1 e1 => ⟨_, rfl, ?_⟩⟩
    cases hs : seqOf H v with
    | none =>
      rw [hs] at k
      exact k _ e1
    | some xs =>
      rw [hs] at k
      obtain ⟨a, rfl, ha⟩ := sq_of (K := K) hv hs
      refine iteF ⟨_, rfl, a, xs, rfl, ?_, rfl, _, rfl, ?_⟩
      · rcases ha with ha | ha
        · exact .inl (SqL.of (e1 _ _ ha))
        · exact .inr (SqT.of (e1 _ _ ha))
      refine ite2 (fun hc => ?_) (fun hc => ?_)
      · rw [isDoor_len (fun z => by rw [z] at hc; cases hc)] at k
        exact k _ e1
      · have hl : xs.length = 3 := by
          have z : decide (V.int (xs.length : Nat) = V.int 3) = true := by simpa using hc
          exact Int.ofNat.inj (V.int.inj (of_decide_eq_true z))
        match xs, hl with
        | [x, y, l], _ =>
          have sh := hi _ hs
          have sx := (sh x (by simp)).same e1
          have sy := (sh y (by simp)).same e1
          have sl := (sh l (by simp)).same e1
          refine ⟨fun σ' H' => H' = H1 ∧ σ' = [some (.int n), some (.ref a), some x, some y, some l], ?_, ?_⟩
          · refine ⟨_, rfl, ?_⟩
            rcases ha with ha | ha
            · exact .inr ⟨a, _, rfl, SqL.of (e1 _ _ ha), rfl, _, _, rfl, _, _, rfl, _, _, rfl, rfl, rfl, rfl⟩
            · exact .inl ⟨a, _, rfl, SqT.of (e1 _ _ ha), rfl, _, _, rfl, _, _, rfl, _, _, rfl, rfl, rfl, rfl⟩
          · rintro σ' H' ⟨rfl, rfl⟩
            obtain ⟨Ty, i, b, ll, t, s, ty, ki, kb, kl, kt, ks, e0, e2, s1, s2⟩ := shp_ty (K := K) sx
            refine ⟨_, rfl, _, _, _, _, s, rfl, .ty _, ty.now, kit_ty ks, s, rfl, ?_⟩
            cases s with
            | false =>
              have z : isDoor n (some [x, y, l]) = false := by
                cases x with
                | str q => exact absurd (s2 q rfl) (by decide)
                | _ => rfl
              rw [z] at k
              exact k _ e1
            | true =>
              obtain ⟨z, rfl⟩ := s1 rfl
              refine ⟨_, rfl, (by show 2 ≤ sizeLine; decide), fun tp htp => ?_⟩
              have e3 := same_new (o := HO.tup [V.str "in", V.str "out"]) htp
              refine ⟨tp, _, rfl, .inr (SqT.of upd_same), rfl, (by decide +kernel), _, rfl, ?_⟩
              cases hio : isIO (.str z) with
              | false =>
                have q : inV (.str z) [.str "in", .str "out"] = false := hio
                have e : isDoor n (some [.str z, y, l]) = false := by
                  show (isIO (.str z) && _) = false
                  rw [hio]
                  rfl
                rw [e] at k
                rw [q]
                exact k _ (e1.trans e3)
              | true =>
                have q : inV (.str z) [.str "in", .str "out"] = true := hio
                have e : isDoor n (some [.str z, y, l]) = (isP n y && isN l) := by
                  show (isIO (.str z) && (isP n y && isN l)) = _
                  rw [hio]
                  rfl
                rw [e] at k
                rw [q]
                refine iteF ⟨_, rfl, _, rfl, n, y, rfl, sy.same e3, _, rfl, ?_⟩
                cases hy : isP n y with
                | false =>
                  rw [hy] at k
                  exact k _ (e1.trans e3)
                | true =>
                  rw [hy] at k
                  exact ⟨_, rfl, l, rfl, sl.same e3, k _ (e1.trans e3)⟩
end
end K01

set_option Elab.async false
set_option linter.all false
set_option maxRecDepth 100000
set_option maxHeartbeats 8000000
namespace K01
open PySem PySem.Spec PyProof.Rows L2 Own
/-! ### a walk over a dict that is read off just then -/
def iKeysN (td : TE) : TI := fun σ H R => td σ H fun x H1 => ∃ d kvs, x = .ref d ∧ H1 d = some (.dK kvs) ∧ ∀ o, R (Itk d o kvs) (upd H1 d (.frz o (.dK kvs)))
section
variable {X : Cx} {tg e : Expr} {td : TE} {st : Stmt} {t t2 : TS}
theorem pi_keysN (he : PE X e td) : PI X tg e (iKeysN td) := by
  refine ⟨fun pins s σ H R I h => ?_⟩
  refine thn (he.run pins s σ H _ I h) fun u s1 ⟨x, H1, I1, rx, d, kvs, ex, hd, q⟩ => ?_
  subst ex
  obtain rfl : u = Value.ref d := rx
  obtain ⟨o, I2⟩ := I1.lock hd trivial
  obtain ⟨hs, hgd, hx, es, ep, vs, hdt, hsz, kv, hm⟩ := I2.frzK upd_same
  refine iter_keys hs hgd hx hdt (pi_one (tk := s1.toks) I2 _ (turn_keys _ hdt) ⟨_, Heap.get?_push_size _ rfl, rfl, ?_⟩ (q o))
  rw [hsz] <;> rfl
theorem ps_or (h : PS X st t) (h2 : PS X st t2) : PS X st (fun D σ H => t D σ H ∨ t2 D σ H) := ⟨fun pins s σ H D I hw => by
  rcases hw with hw | hw
  · exact h.run pins s σ H D I hw
  · exact h2.run pins s σ H D I hw⟩
end
/-! ### ways of roads of length 0 -/
inductive Rch (es : List (Int × Int)) : Int → Int → Prop
  | one {a b : Int} (h : (a, b) ∈ es) : Rch es a b
  | step {a b c : Int} (h : Rch es a b) (h2 : (b, c) ∈ es) : Rch es a c
/-- a dict of ints -/
def trueD (bs : List Int) : List (Key × V) := bs.map fun i => (Sum.inl i, V.bl true)
theorem trueD_val {x : Int} : ∀ bs : List Int, valV (trueD bs) (Sum.inl x) = if x ∈ bs then some (V.bl true) else none
  | [] => rfl
  | b :: r => by
    have ih := trueD_val (x := x) r
    show valV ((Sum.inl b, V.bl true) :: trueD r) (Sum.inl x) = _
    by_cases e : b = x
    · rw [if_pos (by rw [e]; exact List.mem_cons_self)]
      exact valV_pos (p := (Sum.inl b, V.bl true)) (by rw [e])
    · rw [valV_neg (p := (Sum.inl b, V.bl true)) (fun z => e (Sum.inl.inj z)), ih]
      by_cases m : x ∈ r
      · rw [if_pos m, if_pos (List.mem_cons_of_mem _ m)]
      · rw [if_neg m, if_neg (fun z => by
          rcases List.mem_cons.mp z with q | q
          · exact e q.symm
          · exact m q)]
theorem trueD_put {x : Int} {bs : List Int} (h : x ∉ bs) : putK (trueD bs) (Sum.inl x) (V.bl true) = trueD (bs ++ [x]) := by
  rw [putK_new _ (by rw [trueD_val, if_neg h])]
  unfold trueD
  rw [List.map_append]
  rfl
theorem trueD_len (bs : List Int) : (trueD bs).length = bs.length := List.length_map _
/-- the roads of length 0 so far, by the places where they begin -/
def Onw (H : Hp) (o : Addr) (es : List (Int × Int)) : Prop := ∃ kvs : List (Key × V), H o = some (.dK kvs) ∧ kvs.length ≤ es.length ∧
  (∀ a : Int, (valV kvs (Sum.inl a) = none ∧ ∀ b, (a, b) ∉ es) ∨ ∃ d bs, valV kvs (Sum.inl a) = some (.ref d) ∧ H d = some (.dK (trueD bs)) ∧ bs.length ≤ es.length ∧ d ≠ o ∧ ∀ b, b ∈ bs ↔ (a, b) ∈ es) ∧
  ∀ a a' d, valV kvs (Sum.inl a) = some (.ref d) → valV kvs (Sum.inl a') = some (.ref d) → a = a'
theorem Onw.same {H H' : Hp} {o : Addr} {es : List (Int × Int)} (h : Onw H o es) (e : ∀ b u, H b = some u → H' b = some u) : Onw H' o es := by
  obtain ⟨kvs, h1, h2, h3, h4⟩ := h
  refine ⟨kvs, e _ _ h1, h2, fun a => ?_, h4⟩
  rcases h3 a with h | ⟨d, bs, k1, k2, k3, k4⟩
  · exact .inl h
  · exact .inr ⟨d, bs, k1, e _ _ k2, k3, k4⟩
def spComes : Sp := fun vs H Q _ => ∃ (o : Addr) (s t : Int) (es : List (Int × Int)), vs = [.ref o, .int s, .int t] ∧ Onw H o es ∧ es.length ≤ 1000 ∧ ∀ H' c, Same H H' → (c = true ↔ Rch es s t) → Q (.bl c) H'
abbrev NComes : List Str := ["onward", "begin", "end", "seen", "waiting", "here", "place"]
theorem scComes : FnScope NComes ["onward", "begin", "end"] (defScope sComes) := ⟨rfl, rfl, rfl, by decide +kernel, rfl, by decide +kernel, by decide +kernel⟩
/-- while it is looked for: all in seen is come to, and what is seen and not waiting has all its next ones in seen, none of them the end -/
structure Look (es : List (Int × Int)) (s t : Int) (ss ws : List Int) : Prop where
  nd : ss.Nodup
  b : s ∈ ss
  w : ∀ x ∈ ws, x ∈ ss
  r : ∀ x ∈ ss, x = s ∨ Rch es s x
  c : ∀ x ∈ ss, x ∈ ws ∨ ∀ y, (x, y) ∈ es → y ∈ ss ∧ y ≠ t
  l : ws.length ≤ ss.length
theorem Look.no {es : List (Int × Int)} {s t : Int} {ss : List Int} (l : Look es s t ss []) : ¬ Rch es s t := by
  have key : ∀ {a b : Int}, Rch es a b → a = s → b ∈ ss ∧ b ≠ t := fun {a b} h => by
    induction h with
    | one h =>
      intro e
      subst e
      rcases l.c _ l.b with z | z
      · cases z
      · exact z _ h
    | step h h2 ih =>
      intro e
      rcases l.c _ (ih e).1 with z | z
      · cases z
      · exact z _ h2
  exact fun h => (key h rfl).2 rfl
theorem nd_len : ∀ {xs ys : List Int}, xs.Nodup → (∀ x ∈ xs, x ∈ ys) → xs.length ≤ ys.length
  | [], _, _, _ => Nat.zero_le _
  | x :: r, ys, h, s => by
    obtain ⟨h1, h2⟩ := List.nodup_cons.mp h
    have hx := s x List.mem_cons_self
    have ih := nd_len (xs := r) (ys := ys.erase x) h2 fun y hy => (List.mem_erase_of_ne (fun z => h1 (by rw [← z]; exact hy))).mpr (s y (List.mem_cons_of_mem _ hy))
    rw [List.length_erase_of_mem hx] at ih
    have z := List.length_pos_of_mem hx
    rw [List.length_cons]
    omega
/-- how many places there can be -/
theorem seen_len {es : List (Int × Int)} {s : Int} {ss : List Int} (nd : ss.Nodup) (r : ∀ x ∈ ss, x = s ∨ Rch es s x) : ss.length ≤ es.length + 1 := by
  have z := nd_len (ys := s :: es.map Prod.snd) nd fun x hx => by
    rcases r x hx with rfl | h
    · exact List.mem_cons_self
    · cases h with
      | one h => exact List.mem_cons_of_mem _ (List.mem_map.mpr ⟨_, h, rfl⟩)
      | step _ h => exact List.mem_cons_of_mem _ (List.mem_map.mpr ⟨_, h, rfl⟩)
  rw [List.length_cons, List.length_map] at z
  exact z
/-- while the next ones of h are gone through -/
structure Step (es : List (Int × Int)) (s t h : Int) (done : List Int) (ss ws : List Int) : Prop where
  nd : ss.Nodup
  b : s ∈ ss
  w : ∀ x ∈ ws, x ∈ ss
  r : ∀ x ∈ ss, x = s ∨ Rch es s x
  c : ∀ x ∈ ss, x ∈ ws ∨ x = h ∨ ∀ y, (x, y) ∈ es → y ∈ ss ∧ y ≠ t
  p : ∀ y ∈ done, y ∈ ss ∧ y ≠ t
  hs : h ∈ ss
  l : ws.length ≤ ss.length
theorem Look.pop {es : List (Int × Int)} {s t h : Int} {ss ws : List Int} (l : Look es s t ss (ws ++ [h])) : Step es s t h [] ss ws where
  nd := l.nd
  b := l.b
  w := fun x hx => l.w x (List.mem_append.mpr (.inl hx))
  r := l.r
  c := fun x hx => by
    rcases l.c x hx with z | z
    · rcases List.mem_append.mp z with q | q
      · exact .inl q
      · exact .inr (.inl (List.mem_singleton.mp q))
    · exact .inr (.inr z)
  p := fun y hy => by cases hy
  hs := l.w h (List.mem_append.mpr (.inr List.mem_cons_self))
  l := by
    have z := l.l
    rw [List.length_append] at z
    omega
theorem Step.old {es : List (Int × Int)} {s t h x : Int} {done ss ws : List Int} (l : Step es s t h done ss ws) (hx : x ∈ ss) (ht : x ≠ t) : Step es s t h (done ++ [x]) ss ws :=
  ⟨l.nd, l.b, l.w, l.r, l.c, fun y hy => by
    rcases List.mem_append.mp hy with q | q
    · exact l.p y q
    · rw [List.mem_singleton.mp q]
      exact ⟨hx, ht⟩, l.hs, l.l⟩
theorem Step.new {es : List (Int × Int)} {s t h x : Int} {done ss ws : List Int} (l : Step es s t h done ss ws) (hx : x ∉ ss) (ht : x ≠ t) (he : (h, x) ∈ es) : Step es s t h (done ++ [x]) (ss ++ [x]) (ws ++ [x]) := by
  have up : ∀ y, y ∈ ss → y ∈ ss ++ [x] := fun y hy => List.mem_append.mpr (.inl hy)
  have me : x ∈ ss ++ [x] := List.mem_append.mpr (.inr List.mem_cons_self)
  refine ⟨List.nodup_append.mpr ⟨l.nd, by simp, fun a ha b hb z => ?_⟩, up _ l.b, fun y hy => ?_, fun y hy => ?_, fun y hy => ?_, fun y hy => ?_, up _ l.hs, by rw [List.length_append, List.length_append]; exact Nat.succ_le_succ l.l⟩
  · rw [List.mem_singleton.mp hb] at z
    exact hx (by rw [← z]; exact ha)
  · rcases List.mem_append.mp hy with q | q
    · exact up _ (l.w y q)
    · rw [List.mem_singleton.mp q]
      exact me
  · rcases List.mem_append.mp hy with q | q
    · exact l.r y q
    · rw [List.mem_singleton.mp q]
      rcases l.r h l.hs with z | z
      · rw [z] at he
        exact .inr (.one he)
      · exact .inr (.step z he)
  · rcases List.mem_append.mp hy with q | q
    · rcases l.c y q with z | z | z
      · exact .inl (List.mem_append.mpr (.inl z))
      · exact .inr (.inl z)
      · exact .inr (.inr fun u hu => ⟨up _ (z u hu).1, (z u hu).2⟩)
    · exact .inl (List.mem_append.mpr (.inr q))
  · rcases List.mem_append.mp hy with q | q
    · exact ⟨up _ (l.p y q).1, (l.p y q).2⟩
    · rw [List.mem_singleton.mp q]
      exact ⟨me, ht⟩
theorem Step.look {es : List (Int × Int)} {s t h : Int} {done ss ws : List Int} (l : Step es s t h done ss ws) (d : ∀ y, (h, y) ∈ es → y ∈ done) : Look es s t ss ws :=
  ⟨l.nd, l.b, l.w, l.r, fun x hx => by
    rcases l.c x hx with z | z | z
    · exact .inl z
    · rw [z]
      exact .inr fun y hy => l.p y (d y hy)
    · exact .inr z, l.l⟩
structure CI (H : Hp) (o s t : V) (sd wl : Addr) (es : List (Int × Int)) (si ti : Int) (m : Nat) (σ : L2.St) (H' : Hp) : Prop where
  ex : ∃ (ss ws : List Int) (here place : Option V), σ = [some o, some s, some t, some (.ref sd), some (.ref wl), here, place] ∧ H' sd = some (.dK (trueD ss)) ∧ H' wl = some (.lst (ws.map V.int)) ∧ Same H H' ∧ Look es si ti ss ws ∧ m = 2 * (es.length + 1 - ss.length) + ws.length
structure CL (H : Hp) (o s t : V) (sd wl d : Addr) (od : Obj) (bs : List Int) (es : List (Int × Int)) (si ti h : Int) (m : Nat) (i : Nat) (σ : L2.St) (H' : Hp) : Prop where
  ex : ∃ (ss ws : List Int) (place : Option V), σ = [some o, some s, some t, some (.ref sd), some (.ref wl), some (.int h), place] ∧ H' sd = some (.dK (trueD ss)) ∧ H' wl = some (.lst (ws.map V.int)) ∧ Step es si ti h (bs.take i) ss ws ∧ 2 * (es.length + 1 - ss.length) + ws.length < m
  k : ∀ b u, H b = some u → b ≠ d → H' b = some u
  f : H' d = some (.frz od (.dK (trueD bs)))
section
variable {P : Program} {w : World} {K : PySem.W.Frag} {mg : Str → Option Value} {base : Heap}
theorem ok_comes {f : Addr} {fd : FuncData} (F : Fun K "comes_to" "comes_to" sComes f fd) (T : Bt mg) : FnOk P w K mg base CX0 1 f fd ["onward", "begin", "end"] spComes := by
  refine F.ok scComes (fun vs H Q E h => ?_) (fun cdv A outer s H vs Q E hr h => ?_)
  · obtain ⟨o, s, t, es, rfl, _⟩ := h
    rfl
  · obtain ⟨o, s, t, es, rfl, O, hes, k⟩ := h
    have hu := hu_of hr
    refine ⟨_, (pss_cons (ps_set (i := 3) scComes.nd rfl (Or.inl rfl) (pe_disp (pps_cons (pv 1) pe_bl pps_nil) (by rfl) (by rfl) (fun z => by cases z) (by decide)))
  (pss_cons (ps_set (i := 4) scComes.nd rfl (Or.inl rfl) (pe_lst (pa_cons (pv 1) pa_nil)))
  (pss_cons (ps_while PassesOwn.never (pt_truth (pv 4) (by intro _; rfl)) (pss_cons (ps_set (i := 5) scComes.nd rfl (Or.inl rfl) (pe_bm0 PySem.F.plainAttrs_list PySem.F.slot_list_pop PySem.F.type_list_pop mt_pop (pv 4)))
  (pss_one (ps_or (ps_lock (ps_for PassesOwn.never rfl (pi_keys (pe_dget2 (hu_of hr) (pv 0) (pv 5) pe_dnewK ⟨by rfl, by rfl, by rfl, by rfl⟩)) (pg_name (i := 6) (x := "place") scComes.nd rfl (Or.inl rfl))
   (pss_cons (ps_if (pt_cmpR op_eq (pv 6) (pv 2) (nomark _)) (pss_one (ps_ret pe_bl)) pss_nil)
  (pss_one (ps_if (pt_cmp (pc_dnotin (hu_of hr) (pv 6) (pv 3))) (pss_cons (ps_dput (hu_of hr) (pv 3) (pv 6) pe_bl rfl)
  (pss_one (ps_expr (pe_bm PySem.F.plainAttrs_list PySem.F.slot_list_append PySem.F.type_list_append mt_append (pv 4) (pa_cons (pv 6) pa_nil))))) pss_nil))))) (ps_for PassesOwn.never rfl (pi_keysN (pe_dget2 (hu_of hr) (pv 0) (pv 5) pe_dnewK ⟨by rfl, by rfl, by rfl, by rfl⟩)) (pg_name (i := 6) (x := "place") scComes.nd rfl (Or.inl rfl))
   (pss_cons (ps_if (pt_cmpR op_eq (pv 6) (pv 2) (nomark _)) (pss_one (ps_ret pe_bl)) pss_nil)
  (pss_one (ps_if (pt_cmp (pc_dnotin (hu_of hr) (pv 6) (pv 3))) (pss_cons (ps_dput (hu_of hr) (pv 3) (pv 6) pe_bl rfl)
  (pss_one (ps_expr (pe_bm PySem.F.plainAttrs_list PySem.F.slot_list_append PySem.F.type_list_append mt_append (pv 4) (pa_cons (pv 6) pa_nil))))) pss_nil))))))))
  (pss_one (ps_ret pe_bl))))), ?_⟩
    refine fun sd hsd => ⟨_, rfl, upd_same, [(.inl s, .bl true)], rfl, (by show 1 ≤ 15; decide), _, rfl, (by show 1 ≤ sizeLine; decide), fun wl hwl => ?_⟩
    have md : mergeK [] [((Sum.inl s, V.bl true) : Key × V)] = trueD [s] := rfl
    rw [md] at hwl ⊢
    have s1 : Same H (upd (upd H sd (.dK [])) sd (.dK (trueD [s]))) := fun b u e => by
      rw [upd_ne (ne_of_none e hsd), upd_ne (ne_of_none e hsd)]
      exact e
    have nsw : sd ≠ wl := ne_of_none (H := upd (upd H sd (.dK [])) sd (.dK (trueD [s]))) upd_same hwl
    have hwl0 : H wl = none := by
      rw [upd_ne nsw.symm, upd_ne nsw.symm] at hwl
      exact hwl
    have lk0 : Look es s t [s] [s] := ⟨by simp, List.mem_cons_self, fun x hx => hx, fun x hx => .inl (List.mem_singleton.mp hx), fun x hx => .inl hx, Nat.le_refl _⟩
    refine ⟨CI H (.ref o) (.int s) (.int t) sd wl es s t, ⟨_, ⟨[s], [s], _, _, rfl, by rw [upd_ne nsw]; exact upd_same, upd_same, s1.trans (same_new hwl), lk0, rfl⟩⟩, ?_⟩
    rintro m σ H1 ⟨ss, ws, here, place, rfl, hs, hw, sm, lk, rfl⟩
    refine ⟨_, rfl, _, .inl ⟨_, SqL.of hw, rfl⟩, ?_⟩
    rcases List.eq_nil_or_concat ws with rfl | ⟨wi, h, rfl⟩
    · exact iteF (k _ _ sm ⟨fun z => (by cases z), fun z => absurd z lk.no⟩)
    · have en : (!(List.map V.int (wi ++ [h])).isEmpty) = true := by simp
      rw [List.concat_eq_append] at hw lk ⊢
      rw [en]
      refine iteT ⟨fun σ' H' => ∃ m', m' < 2 * (es.length + 1 - ss.length) + (wi ++ [h]).length ∧ CI H (.ref o) (.int s) (.int t) sd wl es s t m' σ' H', fun σ' H' z => z, ?_⟩
      have lst : (List.map V.int (wi ++ [h]))[(List.map V.int (wi ++ [h])).length - 1]? = some (.int h) := by
        simp
      have drp : (List.map V.int (wi ++ [h])).dropLast = wi.map V.int := by
        rw [List.map_append]
        simp
      refine ⟨_, rfl, .inl ⟨rfl, _, SqL.of hw⟩, wl, _, .int h, rfl, rfl, hw, lst, ?_⟩
      rw [drp]
      have sm2 : Same H (upd H1 wl (.lst (wi.map V.int))) := fun b u e => by
        rw [upd_ne (ne_of_none e hwl0)]
        exact sm _ _ e
      have hs2 : upd H1 wl (.lst (wi.map V.int)) sd = some (.dK (trueD ss)) := by
        rw [upd_ne nsw]
        exact hs
      have hw2 : upd H1 wl (.lst (wi.map V.int)) wl = some (.lst (wi.map V.int)) := upd_same
      generalize upd H1 wl (.lst (wi.map V.int)) = H2 at sm2 hs2 hw2 ⊢
      have st0 := lk.pop
      have mm : 2 * (es.length + 1 - ss.length) + wi.length < 2 * (es.length + 1 - ss.length) + (wi ++ [h]).length := by
        rw [List.length_append, List.length_singleton]
        omega
      generalize 2 * (es.length + 1 - ss.length) + (wi ++ [h]).length = m at mm ⊢
      clear hs hw sm lst drp en lk
      obtain ⟨kvs, hk, lkv, adj, inj⟩ := O
      rcases adj h with ⟨no, ne⟩ | ⟨d, bs, yes, hd, lb, ndo, ib⟩
      · refine .inr ⟨_, rfl, o, rfl, .inl ⟨kvs, .inl (sm2 _ _ hk)⟩, _, rfl, fun e he => ⟨_, DGet.k (k := Sum.inl h) (same_new he _ _ (sm2 _ _ hk)), e, [], ?_, upd_same, fun oe => ?_⟩⟩
        · rw [no]
          rfl
        · refine for_it walk_keys (fun i σ' H' => ∃ m', m' < m ∧ CI H (.ref o) (.int s) (.int t) sd wl es s t m' σ' H' ∧ H' e = some (.frz oe (.dK []))) ?_ (fun i σ' H' _ ⟨_, _, _, z⟩ => z) (fun i x σ' H' H'' hi => absurd hi (Nat.not_lt_zero i)) (fun σ' H' ⟨m', z1, z2, _⟩ => ⟨m', z1, z2⟩)
          have s3 : ∀ b u, H2 b = some u → upd (upd H2 e (.dK [])) e (.frz oe (.dK [])) b = some u := fun b u z => by
            rw [upd_ne (ne_of_none z he), upd_ne (ne_of_none z he)]
            exact z
          exact ⟨_, mm, ⟨ss, wi, _, _, rfl, s3 _ _ hs2, s3 _ _ hw2, fun b u z => s3 _ _ (sm2 _ _ z), st0.look fun y hy => absurd hy (ne y), rfl⟩, upd_same⟩
      · have nsd : sd ≠ d := (ne_of_none hd hsd).symm
        have nwd : wl ≠ d := (ne_of_none hd hwl0).symm
        have nod : o ≠ d := ndo.symm
        refine .inl ⟨d, _, sm2 _ _ hd, trivial, fun od => ?_⟩
        have fz : ∀ b u, H b = some u → b ≠ d → upd H2 d (.frz od (.dK (trueD bs))) b = some u := fun b u e n => by
          rw [upd_ne n]
          exact sm2 _ _ e
        refine ⟨_, rfl, o, rfl, .inl ⟨kvs, .inl (fz _ _ hk nod)⟩, _, rfl, fun e he => ?_⟩
        have he2 : H2 e = none ∧ e ≠ d := by
          by_cases z : e = d
          · rw [z, upd_same] at he
            cases he
          · rw [upd_ne z] at he
            exact ⟨he, z⟩
        have s3 : ∀ b u, upd H2 d (.frz od (.dK (trueD bs))) b = some u → upd (upd H2 d (.frz od (.dK (trueD bs)))) e (.dK []) b = some u := fun b u z => by
          rw [upd_ne (ne_of_none z he)]
          exact z
        refine ⟨_, DGet.k (k := Sum.inl h) (s3 _ _ (fz _ _ hk nod)), ?_⟩
        rw [yes]
        refine ⟨d, od, rfl, .inl ⟨trueD bs, s3 _ _ upd_same, ?_⟩⟩
        have undo : ∀ H', (∀ b u, H b = some u → b ≠ d → H' b = some u) → Same H (upd H' d (.dK (trueD bs))) := fun H' z b u e => by
          by_cases q : b = d
          · rw [q, upd_same, ← hd, ← q]
            exact e
          · rw [upd_ne q]
            exact z b u e q
        refine for_it walk_keys (CL H (.ref o) (.int s) (.int t) sd wl d od bs es s t h m) ?_ (fun i σ' H' _ q => q.f) ?_ ?_
        · refine ⟨⟨ss, wi, _, rfl, s3 _ _ ?_, s3 _ _ ?_, st0, mm⟩, fun b u z n => s3 _ _ (fz b u z n), s3 _ _ upd_same⟩
          · rw [upd_ne nsd]
            exact hs2
          · rw [upd_ne nwd]
            exact hw2
        · rintro i x σ' H3 H4 hi ⟨⟨ss3, ws3, place3, rfl, hs3, hw3, stp, mm3⟩, k3, f3⟩ ⟨rfl, kk, vv, hkv, rfl⟩
          have hkv' : (trueD bs)[i]? = some (kk, vv) := hkv
          unfold trueD at hkv'
          rw [List.getElem?_map] at hkv'
          obtain ⟨y, hy, e⟩ := Option.map_eq_some_iff.mp hkv'
          obtain rfl : Sum.inl y = kk := (Prod.mk.inj e).1
          have ey : (h, y) ∈ es := (ib y).mp (List.mem_of_getElem? hy)
          have tk : bs.take (i + 1) = bs.take i ++ [y] := by
            rw [List.take_add_one, hy]
            rfl
          refine ⟨_, rfl, _, rfl, rfl, _, rfl, ite2 (fun hc => ?_) (fun hc => ?_)⟩
          · have et : y = t := V.int.inj (of_decide_eq_true hc)
            refine ⟨f3, k _ _ (undo _ k3) ⟨fun _ => ?_, fun _ => rfl⟩⟩
            rw [← et]
            rcases stp.r h stp.hs with z | z
            · rw [z] at ey
              exact .one ey
            · exact .step z ey
          · have nt : y ≠ t := fun z => hc (decide_eq_true (congrArg V.int z))
            refine ⟨_, rfl, _, rfl, sd, _, rfl, DGet.k (k := Sum.inl y) hs3, _, rfl, ?_⟩
            rw [trueD_val]
            by_cases hm : y ∈ ss3
            · rw [if_pos hm]
              refine iteF ⟨⟨ss3, ws3, _, rfl, hs3, hw3, ?_, mm3⟩, k3, f3⟩
              rw [tk]
              exact stp.old hm nt
            · rw [if_neg hm]
              have stp2 := stp.new hm nt ey
              have ls : (ss3 ++ [y]).length ≤ es.length + 1 := seen_len stp2.nd stp2.r
              have ls2 : ss3.length + 1 ≤ es.length + 1 := by
                rw [List.length_append] at ls
                exact ls
              refine iteT ⟨_, rfl, _, rfl, sd, _, rfl, DPut.k (k := Sum.inl y) hs3 (by rw [trueD_len]; exact Nat.lt_of_le_of_lt (show ss3.length ≤ 1000 by omega) (by decide)), ?_⟩
              rw [trueD_put hm]
              have hw4 : upd H4 sd (.dK (trueD (ss3 ++ [y]))) wl = some (.lst (ws3.map V.int)) := by
                rw [upd_ne nsw.symm]
                exact hw3
              have lw : ws3.length < sizeLine := Nat.lt_of_le_of_lt (show ws3.length ≤ 1000 by have := stp.l; omega) (by decide)
              refine ⟨_, rfl, .inl ⟨rfl, _, SqL.of hw4⟩, _, rfl, wl, _, _, rfl, rfl, hw4, by rw [List.length_map]; exact lw, ?_⟩
              refine ⟨⟨ss3 ++ [y], ws3 ++ [y], _, rfl, ?_, ?_, ?_, ?_⟩, fun b u z n => ?_, ?_⟩
              · rw [upd_ne nsw]
                exact upd_same
              · rw [upd_same, List.map_append]
                rfl
              · rw [tk]
                exact stp2
              · rw [List.length_append, List.length_append, List.length_singleton]
                omega
              · rw [upd_ne (ne_of_none z hwl0), upd_ne (ne_of_none z hsd)]
                exact k3 b u z n
              · rw [upd_ne nwd.symm, upd_ne nsd.symm]
                exact f3
        · rintro σ' H3 ⟨⟨ss3, ws3, place3, rfl, hs3, hw3, stp, mm3⟩, k3, f3⟩
          have full : bs.take (trueD bs).length = bs := by
            rw [trueD_len, List.take_of_length_le (Nat.le_refl _)]
          rw [full] at stp
          refine ⟨f3, _, mm3, ⟨ss3, ws3, _, _, rfl, ?_, ?_, undo _ k3, stp.look fun y hy => (ib y).mpr hy, rfl⟩⟩
          · rw [upd_ne nsd]
            exact hs3
          · rw [upd_ne nwd]
            exact hw3
end
end K01

set_option Elab.async false
set_option linter.all false
set_option maxRecDepth 100000
set_option maxHeartbeats 8000000
namespace K01
open PySem PySem.Spec PyProof.Rows L2 Own
theorem trueD_puts (x : Int) (bs : List Int) : ∃ bs', putK (trueD bs) (Sum.inl x) (V.bl true) = trueD bs' ∧ bs'.length ≤ bs.length + 1 ∧ ∀ b, b ∈ bs' ↔ b ∈ bs ∨ b = x := by
  by_cases h : x ∈ bs
  · refine ⟨bs, ?_, Nat.le_succ _, fun b => ⟨.inl, fun z => z.elim id fun q => by rw [q]; exact h⟩⟩
    unfold putK
    rw [valV_any, trueD_val, if_pos h]
    show (trueD bs).map _ = _
    unfold trueD
    rw [List.map_map]
    refine List.map_congr_left fun i _ => ?_
    show (if (Sum.inl i : Key) = Sum.inl x then (Sum.inl i, V.bl true) else (Sum.inl i, V.bl true)) = _
    split <;> rfl
  · refine ⟨bs ++ [x], trueD_put h, by rw [List.length_append]; exact Nat.le_refl _, fun b => ?_⟩
    rw [List.mem_append, List.mem_singleton]
theorem Onw.old {H : Hp} {o d : Addr} {es : List (Int × Int)} {a b : Int} {kvs : List (Key × V)} {bs : List Int} (O : Onw H o es) (hk : H o = some (.dK kvs)) (hv : valV kvs (Sum.inl a) = some (.ref d)) (hd : H d = some (.dK (trueD bs))) (nd : d ≠ o) :
    Onw (upd H d (.dK (putK (trueD bs) (Sum.inl b) (V.bl true)))) o (es ++ [(a, b)]) := by
  obtain ⟨kvs', h1, h2, h3, h4⟩ := O
  obtain rfl : kvs' = kvs := by
    rw [h1] at hk
    exact HO.dK.inj (Option.some.inj hk)
  refine ⟨kvs', by rw [upd_ne nd.symm]; exact h1, by rw [List.length_append]; exact Nat.le_succ_of_le h2, fun x => ?_, h4⟩
  obtain ⟨bs', e1, e2, e3⟩ := trueD_puts b bs
  by_cases hx : x = a
  · subst hx
    rcases h3 x with ⟨no, _⟩ | ⟨d', bs2, k1, k2, k3, k4, k5⟩
    · rw [hv] at no
      cases no
    · rw [hv] at k1
      obtain rfl := V.ref.inj (Option.some.inj k1)
      rw [hd] at k2
      have e4 : trueD bs = trueD bs2 := HO.dK.inj (Option.some.inj k2)
      have e5 : bs = bs2 := by
        have inj : ∀ {u v : List Int}, trueD u = trueD v → u = v := fun {u} => by
          induction u with
          | nil =>
            intro v z
            cases v with
            | nil => rfl
            | cons y r => cases z
          | cons y r ih =>
            intro v z
            cases v with
            | nil => cases z
            | cons y2 r2 =>
              obtain ⟨z1, z2⟩ := List.cons.inj z
              rw [Sum.inl.inj (Prod.mk.inj z1).1, ih z2]
        exact inj e4
      subst e5
      refine .inr ⟨d, bs', hv, by rw [upd_same, e1], by rw [List.length_append]; exact Nat.le_trans e2 (Nat.succ_le_succ k3), nd, fun y => ?_⟩
      rw [e3, k5, List.mem_append, List.mem_singleton]
      exact or_congr Iff.rfl ⟨fun z => by rw [z], fun z => (Prod.mk.inj z).2⟩
  · have ne : ∀ y, (x, y) ∈ es ++ [(a, b)] ↔ (x, y) ∈ es := fun y => by
      rw [List.mem_append, List.mem_singleton]
      exact ⟨fun z => z.elim id fun q => absurd (Prod.mk.inj q).1 hx, .inl⟩
    rcases h3 x with ⟨no, nn⟩ | ⟨d', bs2, k1, k2, k3, k4, k5⟩
    · exact .inl ⟨no, fun y z => nn y ((ne y).mp z)⟩
    · have n2 : d' ≠ d := fun z => hx (h4 x a d (by rw [k1, z]) hv)
      exact .inr ⟨d', bs2, k1, by rw [upd_ne n2]; exact k2, by rw [List.length_append]; exact Nat.le_succ_of_le k3, k4, fun y => (k5 y).trans (ne y).symm⟩
theorem Onw.fresh {H : Hp} {o e : Addr} {es : List (Int × Int)} {a b : Int} {kvs : List (Key × V)} (O : Onw H o es) (hk : H o = some (.dK kvs)) (hv : valV kvs (Sum.inl a) = none) (he : H e = none) :
    Onw (upd (upd (upd H e (.dK [])) o (.dK (putK kvs (Sum.inl a) (.ref e)))) e (.dK (putK [] (Sum.inl b) (V.bl true)))) o (es ++ [(a, b)]) := by
  obtain ⟨kvs', h1, h2, h3, h4⟩ := O
  obtain rfl : kvs' = kvs := by
    rw [h1] at hk
    exact HO.dK.inj (Option.some.inj hk)
  have neo : o ≠ e := ne_of_none h1 he
  have nde : ∀ x d, valV kvs' (Sum.inl x) = some (.ref d) → d ≠ e := fun x d z => by
    rcases h3 x with ⟨no, _⟩ | ⟨d', bs2, k1, k2, _⟩
    · rw [z] at no
      cases no
    · rw [z] at k1
      rw [V.ref.inj (Option.some.inj k1)]
      exact ne_of_none k2 he
  refine ⟨putK kvs' (Sum.inl a) (.ref e), by rw [upd_ne neo]; exact upd_same, ?_, fun x => ?_, fun x x' d z z' => ?_⟩
  · rw [putK_new _ hv, List.length_append, List.length_append]
    exact Nat.succ_le_succ h2
  · rw [valV_put]
    by_cases hx : x = a
    · subst hx
      rw [if_pos rfl]
      refine .inr ⟨e, [b], rfl, ?_, by rw [List.length_append]; exact Nat.le_add_left _ _, neo.symm, fun y => ?_⟩
      · rw [upd_same]
        rfl
      · rw [List.mem_singleton, List.mem_append, List.mem_singleton]
        rcases h3 x with ⟨_, nn⟩ | ⟨d', bs2, k1, _⟩
        · exact ⟨fun z => .inr (by rw [z]), fun z => z.elim (fun q => absurd q (nn y)) fun q => (Prod.mk.inj q).2⟩
        · rw [hv] at k1
          cases k1
    · rw [if_neg (fun z => hx (Sum.inl.inj z))]
      have ne : ∀ y, (x, y) ∈ es ++ [(a, b)] ↔ (x, y) ∈ es := fun y => by
        rw [List.mem_append, List.mem_singleton]
        exact ⟨fun z => z.elim id fun q => absurd (Prod.mk.inj q).1 hx, .inl⟩
      rcases h3 x with ⟨no, nn⟩ | ⟨d', bs2, k1, k2, k3, k4, k5⟩
      · exact .inl ⟨no, fun y z => nn y ((ne y).mp z)⟩
      · have n2 : d' ≠ e := nde x d' k1
        exact .inr ⟨d', bs2, k1, by rw [upd_ne n2, upd_ne k4, upd_ne n2]; exact k2, by rw [List.length_append]; exact Nat.le_succ_of_le k3, k4, fun y => (k5 y).trans (ne y).symm⟩
  · rw [valV_put] at z z'
    by_cases hx : x = a
    · by_cases hx' : x' = a
      · rw [hx, hx']
      · rw [if_pos (by rw [hx])] at z
        rw [if_neg (fun q => hx' (Sum.inl.inj q))] at z'
        obtain rfl := V.ref.inj (Option.some.inj z)
        exact absurd rfl (nde _ _ z')
    · rw [if_neg (fun q => hx (Sum.inl.inj q))] at z
      by_cases hx' : x' = a
      · rw [if_pos (by rw [hx'])] at z'
        obtain rfl := V.ref.inj (Option.some.inj z')
        exact absurd rfl (nde _ _ z)
      · rw [if_neg (fun q => hx' (Sum.inl.inj q))] at z'
        exact h4 x x' d z z'
end K01

set_option Elab.async false
set_option linter.all false
set_option maxRecDepth 100000
set_option maxHeartbeats 8000000
namespace K01
open PySem PySem.Spec PyProof.Rows L2 Own
/-- the roads of length 0 -/
def zero1 : Option (List V) → List (Int × Int)
  | some [.int a, .int b, .int 0, _] => [(a, b)]
  | _ => []
def zeros (ss : List (Option (List V))) : List (Int × Int) := ss.flatMap zero1
theorem zero1_len (s : Option (List V)) : (zero1 s).length ≤ 1 := by
  unfold zero1
  split
  · exact Nat.le_refl _
  · exact Nat.zero_le _
theorem zeros_len : ∀ ss : List (Option (List V)), (zeros ss).length ≤ ss.length
  | [] => Nat.le_refl _
  | s :: r => by
    show (zero1 s ++ zeros r).length ≤ r.length + 1
    have h1 := zero1_len s
    have h2 := zeros_len r
    rw [List.length_append]
    omega
/-- at j is something that is no road, or a road that closes a ring -/
def BadAt (n : Int) (ss : List (Option (List V))) (j : Nat) : Prop := ∃ s, ss[j]? = some s ∧ (isRoad n s = false ∨ ∃ a b r, s = some [.int a, .int b, .int 0, r] ∧ Rch (zeros (ss.take j)) b a)
/-- what is told of the roads -/
def WRes (n : Int) (ss : List (Option (List V))) (r : V) : Prop := (r = .non ∧ ∀ j, j < ss.length → ¬ BadAt n ss j) ∨ ∃ j : Nat, r = .int j ∧ j < ss.length ∧ BadAt n ss j ∧ ∀ i, i < j → ¬ BadAt n ss i
/-- things of which each may be asked for its items -/
def Items (H : Hp) (xs : List V) : Prop := ∀ v ∈ xs, Shp H v ∧ ∀ ys, seqOf H v = some ys → ∀ y ∈ ys, Shp H y
theorem Items.same {H H' : Hp} {xs : List V} (h : Items H xs) (e : Same H H') : Items H' xs := fun v hv => by
  obtain ⟨h1, h2⟩ := h v hv
  refine ⟨h1.same e, fun ys hs y hy => ?_⟩
  rw [seq_same h1 e] at hs
  exact (h2 ys hs y hy).same e
theorem Items.seqs {H H' : Hp} {xs : List V} (h : Items H xs) (e : Same H H') : xs.map (seqOf H') = xs.map (seqOf H) := List.map_congr_left fun v hv => seq_same (h v hv).1 e
/-- a list or a tuple of these stands at a -/
def Sqs (H : Hp) (a : Addr) (xs : List V) : Prop := H a = some (.lst xs) ∨ H a = some (.tup xs)
theorem Sqs.same {H H' : Hp} {a : Addr} {xs : List V} (h : Sqs H a xs) (e : Same H H') : Sqs H' a xs := h.imp (fun z => e _ _ z) fun z => e _ _ z
theorem Sqs.seq {H : Hp} {a : Addr} {xs : List V} (h : Sqs H a xs) : seqOf H (.ref a) = some xs := h.elim seq_lst seq_tup
theorem Sqs.shp {H : Hp} {a : Addr} {xs : List V} (h : Sqs H a xs) : Shp H (.ref a) := h.elim (fun z => .inr (.inl ⟨a, xs, rfl, z⟩)) fun z => .inr (.inr (.inl ⟨a, xs, rfl, z⟩))
/-- enumerate over either -/
theorem enum_or {K : PySem.W.Frag} {ta : TA} {σ : L2.St} {H0 H : Hp} {a : Addr} {xs : List V} (hs : Sqs H0 a xs) (e : Same H0 H) {R : It → Hp → Prop} (hta : ∀ S : List V → Hp → Prop, S [.ref a] H → ta σ H S)
    (h : ∀ (J : It) (G : Hp → Prop), Walk J xs.length G (YPair (fun i => some (.int (i : Nat))) (fun i => xs[i]?)) → (∀ H', Same H0 H' → G H') → R J H) : iEnum K ta σ H R ∨ iEnumT K ta σ H R := by
  rcases hs with hs | hs
  · exact .inl (hta _ ⟨a, xs, rfl, SqL.of (e _ _ hs), h (Ite K a) _ walk_enum fun H' k => SqL.of (k _ _ hs)⟩)
  · exact .inr (hta _ ⟨a, xs, rfl, SqT.of (e _ _ hs), h (IteT K a) _ walk_enumT fun H' k => SqT.of (k _ _ hs)⟩)
/-- a for or a comprehension over either -/
theorem walk_or {K : PySem.W.Frag} {te : TE} {σ : L2.St} {H0 H : Hp} {a : Addr} {xs : List V} (hs : Sqs H0 a xs) (e : Same H0 H) {R : It → Hp → Prop} (hte : ∀ S : VK, S (.ref a) H → te σ H S)
    (h : ∀ (J : It) (G : Hp → Prop), Walk J xs.length G (YAt xs) → (∀ H', Same H0 H' → G H') → R J H) : iList K te σ H R ∨ iTup K te σ H R := by
  rcases hs with hs | hs
  · exact .inl (hte _ ⟨a, rfl, ⟨_, SqL.of (e _ _ hs)⟩, h (Itl K a) _ walk_list fun H' k => SqL.of (k _ _ hs)⟩)
  · exact .inr (hte _ ⟨a, rfl, ⟨_, SqT.of (e _ _ hs)⟩, h (Itt K a) _ walk_tup fun H' k => SqT.of (k _ _ hs)⟩)
def spWrong (res : Int → List (Option (List V)) → V → Prop) (K : PySem.W.Frag) : Sp := fun vs H Q _ => ∃ (n : Int) (v : V), vs = [.int n, v] ∧ Shp H v ∧
  ((seqOf H v = none ∧ ∀ H', Same H H' → Q (.int 0) H') ∨
   ∃ a xs, v = .ref a ∧ Sqs H a xs ∧ Items H xs ∧ xs.length ≤ 1000 ∧ ∀ H' r, Same H H' → res n (xs.map (seqOf H)) r → Q r H')
abbrev NWRoad : List Str := ["places", "roads", "onward", "index", "thing", "begin", "end", "length", "_"]
theorem scWRoad : FnScope NWRoad ["places", "roads"] (defScope sWrongRoad) := ⟨rfl, rfl, rfl, by decide +kernel, rfl, by decide +kernel, by decide +kernel⟩
structure WI (H : Hp) (n : Int) (a o : Addr) (xs : List V) (i : Nat) (σ : L2.St) (H' : Hp) : Prop where
  s : ∃ index thing b e l u, σ = [some (.int n), some (.ref a), some (.ref o), index, thing, b, e, l, u]
  k : Same H H'
  on : Onw H' o (zeros ((xs.map (seqOf H)).take i))
  f : ∀ kvs x d, H' o = some (.dK kvs) → valV kvs (Sum.inl x) = some (.ref d) → H d = none
  g : ∀ j, j < i → ¬ BadAt n (xs.map (seqOf H)) j
theorem road_of {n : Int} {s : Option (List V)} (h : isRoad n s = true) : ∃ x y l r : Int, s = some [.int x, .int y, .int l, .int r] ∧ x ≠ y ∧ 0 ≤ l := by
  match s, h with
  | some [x, y, l, r], h =>
    have h' : (isP n x && (isP n y && (!decide (x = y) && (isN l && (isN r && !decide (r = .int 0)))))) = true := h
    simp only [Bool.and_eq_true] at h'
    obtain ⟨h1, h2, h3, h4, h5, _⟩ := h'
    obtain ⟨xi, rfl⟩ := isP_int h1
    obtain ⟨yi, rfl⟩ := isP_int h2
    obtain ⟨li, rfl, l0⟩ := isN_int h4
    obtain ⟨ri, rfl, _⟩ := isN_int h5
    refine ⟨xi, yi, li, ri, rfl, fun z => ?_, l0⟩
    rw [z, decide_eq_true rfl] at h3
    cases h3
  | none, h => cases h
  | some [], h => cases h
  | some [_], h => cases h
  | some [_, _], h => cases h
  | some [_, _, _], h => cases h
  | some (_ :: _ :: _ :: _ :: _ :: _), h => cases h
section
variable {P : Program} {w : World} {K : PySem.W.Frag} {mg : Str → Option Value} {base : Heap}
theorem ok_wroad {f fI fN fL fPl fR fC : Addr} {fd fdI fdN fdL fdPl fdR fdC : FuncData} (F : Fun K "first_wrong_road" "first_wrong_road" sWrongRoad f fd) (T : Bt mg) (FI : Fun K "is_integer" "is_integer" sIsInt fI fdI) (gI : mg "is_integer" = some (.ref fI)) (bI : Binds K fdI ["thing"] [])
    (FN : Fun K "is_number" "is_number" sIsNum fN fdN) (gN : mg "is_number" = some (.ref fN)) (bN : Binds K fdN ["thing"] []) (FL : Fun K "is_list" "is_list" sIsList fL fdL) (gL : mg "is_list" = some (.ref fL)) (bL : Binds K fdL ["thing"] [])
    (FPl : Fun K "is_place" "is_place" sIsPlace fPl fdPl) (gPl : mg "is_place" = some (.ref fPl)) (bPl : Binds K fdPl ["places", "thing"] [])
    (FR : Fun K "is_road" "is_road" sIsRoad fR fdR) (gR : mg "is_road" = some (.ref fR)) (bR : Binds K fdR ["places", "thing"] [])
    (FC : Fun K "comes_to" "comes_to" sComes fC fdC) (gC : mg "comes_to" = some (.ref fC)) (bC : Binds K fdC ["onward", "begin", "end"] []) : FnOk P w K mg base CX0 5 f fd ["places", "roads"] (spWrong WRes K) := by
  have GL : FnOk P w K mg base CX0 1 fL fdL ["thing"] spLst := ok_isLst FL T
  have GR : FnOk P w K mg base CX0 4 fR fdR ["places", "thing"] spRoad := ok_isRoad FR T FI gI bI FN gN bN FL gL bL FPl gPl bPl
  have GC : FnOk P w K mg base CX0 1 fC fdC ["onward", "begin", "end"] spComes := ok_comes FC T
  refine F.ok scWRoad (fun vs H Q E h => ?_) (fun cdv A outer s H vs Q E hr h => ?_)
  · obtain ⟨n, v, rfl, _⟩ := h
    rfl
  · obtain ⟨n, v, rfl, hv, hc⟩ := h
    refine ⟨_, (pss_cons (ps_if (pt_not (pt_val (pe_call GL (hr.mono (by decide)) (by rfl) gL FL.kp bL .nil pass0 (pa_cons (pv 1) pa_nil)))) (pss_one (ps_ret pe_int)) pss_nil)
  (pss_cons (ps_set (i := 2) scWRoad.nd rfl (Or.inl rfl) pe_dnewK)
  (pss_cons (ps_for PassesOwn.never rfl (pi_or (pi_enum (by rfl) T.enum (pa_cons (pv 1) pa_nil)) (pi_enumT (by rfl) T.enum (pa_cons (pv 1) pa_nil))) (pg_tup rfl (pgs_cons (pg_name (i := 3) (x := "index") scWRoad.nd rfl (Or.inl rfl)) (pgs_cons (pg_name (i := 4) (x := "thing") scWRoad.nd rfl (Or.inl rfl)) pgs_nil))) (pss_cons (ps_if (pt_not (pt_val (pe_call GR hr (by rfl) gR FR.kp bR .nil pass0 (pa_cons (pv 0) (pa_cons (pv 4) pa_nil))))) (pss_one (ps_ret (pv 3))) pss_nil)
  (Evl.pss_cut (ps_asg (pv 4) (pg_or (pg_tup rfl (pgs_cons (pg_name (i := 5) (x := "begin") scWRoad.nd rfl (Or.inl rfl)) (pgs_cons (pg_name (i := 6) (x := "end") scWRoad.nd rfl (Or.inl rfl)) (pgs_cons (pg_name (i := 7) (x := "length") scWRoad.nd rfl (Or.inl rfl)) (pgs_cons (pg_name (i := 8) (x := "_") scWRoad.nd rfl (Or.inl rfl)) pgs_nil))))) (pg_unl rfl (pgs_cons (pg_name (i := 5) (x := "begin") scWRoad.nd rfl (Or.inl rfl)) (pgs_cons (pg_name (i := 6) (x := "end") scWRoad.nd rfl (Or.inl rfl)) (pgs_cons (pg_name (i := 7) (x := "length") scWRoad.nd rfl (Or.inl rfl)) (pgs_cons (pg_name (i := 8) (x := "_") scWRoad.nd rfl (Or.inl rfl)) pgs_nil)))))))
  (pss_one (ps_if (pt_cmpR op_eq (pv 7) pe_int (nomark _)) (pss_cons (ps_if (pt_val (pe_call GC (hr.mono (by decide)) (by rfl) gC FC.kp bC .nil pass0 (pa_cons (pv 2) (pa_cons (pv 6) (pa_cons (pv 5) pa_nil))))) (pss_one (ps_ret (pv 3))) pss_nil)
  (pss_one (ps_asg pe_bl (pg_sub (pe_dsetd (pv 2) (pv 5) pe_dnewK ⟨by rfl, by rfl, by rfl, by rfl⟩) (pv 6) (set_dict (hu_of hr)))))) pss_nil)))))
  (pss_one (ps_ret pe_non))))), ?_⟩
    refine ⟨_, rfl, v, rfl, hv, fun H1 e1 => ⟨_, rfl, ?_⟩⟩
    rcases hc with ⟨hs, k⟩ | ⟨a, xs, rfl, ha, it, lx, k⟩
    · rw [hs]
      exact k _ e1
    · rw [ha.seq]
      refine iteF (fun o ho => ?_)
      have e2 : Same H (upd H1 o (.dK [])) := e1.trans (same_new ho)
      have ho0 : H o = none := by
        cases e : H o with
        | none => rfl
        | some u =>
          rw [e1 _ _ e] at ho
          cases ho
      refine enum_or (K := K) ha e2 (fun S q => ⟨_, rfl, q⟩) fun J G wk hG => ?_
      refine for_it wk (WI H n a o xs) ⟨⟨_, _, _, _, _, _, rfl⟩, e2, ⟨[], upd_same, Nat.le_refl _, fun x => .inl ⟨rfl, fun y z => by cases z⟩, fun x x' d z => by cases z⟩, fun kvs x d z1 z2 => ?_, fun j hj => absurd hj (Nat.not_lt_zero j)⟩ (fun i σ' H' _ w => hG _ w.k) ?_ ?_
      · rw [upd_same] at z1
        rw [← HO.dK.inj (Option.some.inj z1)] at z2
        cases z2
      · rintro i x σ' H3 H4 hi ⟨⟨index, thing, b0, e0, l0, u0, rfl⟩, ks, O, fr, good⟩ ⟨t, x1, y1, rfl, ht, rfl, hx, hy⟩
        obtain rfl : V.int (i : Nat) = x1 := Option.some.inj hx
        have s4 := same_new (o := .tup [.int (i : Nat), y1]) ht
        have k4 := ks.trans s4
        have O4 := O.same s4
        refine ⟨t, _, rfl, SqT.of upd_same, rfl, _, _, rfl, _, _, rfl, rfl, ?_⟩
        have hy' : xs[i]? = some y1 := hy
        have hym := List.mem_of_getElem? hy'
        obtain ⟨sh, shi⟩ := it y1 hym
        have sh4 := sh.same k4
        have sq4 := seq_same sh k4
        have at_i : (xs.map (seqOf H))[i]? = some (seqOf H y1) := by
          rw [List.getElem?_map, hy']
          rfl
        have tk : (xs.map (seqOf H)).take (i + 1) = (xs.map (seqOf H)).take i ++ [seqOf H y1] := by
          rw [List.take_add_one, at_i]
          rfl
        have hlen : i < (xs.map (seqOf H)).length := by
          rw [List.length_map]
          exact hi
        refine ⟨_, rfl, _, rfl, n, y1, rfl, sh4, (fun ys e y m => ?_), fun H5 e5 => ?_⟩
        · rw [sq4] at e
          exact (shi ys e y m).same k4
        rw [sq4]
        have k5 := k4.trans e5
        have O5 := O4.same e5
        have fr5 : ∀ kvs x d, H5 o = some (.dK kvs) → valV kvs (Sum.inl x) = some (.ref d) → H d = none := fun kvs x d z1 z2 => by
          obtain ⟨kvs', h1, _⟩ := O
          have z3 := e5 _ _ (s4 _ _ h1)
          rw [z1] at z3
          have z4 : kvs = kvs' := HO.dK.inj (Option.some.inj z3)
          rw [z4] at z2
          exact fr kvs' x d h1 z2
        refine ⟨_, rfl, ?_⟩
        cases hR : isRoad n (seqOf H y1) with
        | false => exact iteT ⟨_, rfl, k _ _ k5 (.inr ⟨i, rfl, hlen, ⟨_, at_i, .inl hR⟩, good⟩)⟩
        | true =>
          refine iteF ?_
          obtain ⟨p, q, l, r, es, npq, l0⟩ := road_of hR
          obtain ⟨a1, rfl, ha1⟩ := sq_of (K := K) sh es
          refine ⟨fun σ' H' => H' = H5 ∧ σ' = [some (.int n), some (.ref a), some (.ref o), some (.int (i : Nat)), some (.ref a1), some (.int p), some (.int q), some (.int l), some (.int r)], ?_, ?_⟩
          · refine ⟨_, rfl, ?_⟩
            rcases ha1 with ha1 | ha1
            · exact .inr ⟨a1, _, rfl, SqL.of (k5 _ _ ha1), rfl, _, _, rfl, _, _, rfl, _, _, rfl, _, _, rfl, rfl, rfl, rfl⟩
            · exact .inl ⟨a1, _, rfl, SqT.of (k5 _ _ ha1), rfl, _, _, rfl, _, _, rfl, _, _, rfl, _, _, rfl, rfl, rfl, rfl⟩
          · rintro σ' H' ⟨rfl, rfl⟩
            have tz : zeros ((xs.map (seqOf H)).take (i + 1)) = zeros ((xs.map (seqOf H)).take i) ++ zero1 (seqOf H (.ref a1)) := by
              rw [tk]
              unfold zeros
              rw [List.flatMap_append]
              show _ = _ ++ zero1 (seqOf H (.ref a1))
              rw [List.flatMap_cons, List.flatMap_nil, List.append_nil]
            have lz : (zeros ((xs.map (seqOf H)).take i)).length ≤ 1000 := by
              refine Nat.le_trans (zeros_len _) ?_
              rw [List.length_take, List.length_map]
              omega
            have nobad : ∀ j, j < i + 1 → (j = i → ¬ BadAt n (xs.map (seqOf H)) i) → ¬ BadAt n (xs.map (seqOf H)) j := fun j hj hi2 => by
              by_cases z : j = i
              · rw [z]
                exact hi2 z
              · exact good j (by omega)
            refine ⟨_, rfl, rfl, _, rfl, ite2 (fun hl => ?_) (fun hl => ?_)⟩
            · obtain rfl : l = 0 := V.int.inj (of_decide_eq_true hl)
              have z1 : zero1 (seqOf H (.ref a1)) = [(p, q)] := by
                rw [es]
                rfl
              rw [z1] at tz
              refine ⟨_, rfl, _, rfl, _, rfl, o, q, p, _, rfl, O5, lz, fun H6 c e6 hc => ⟨_, rfl, ?_⟩⟩
              have k6 := k5.trans e6
              have O6 := O5.same e6
              cases c with
              | true => exact iteT ⟨_, rfl, k _ _ k6 (.inr ⟨i, rfl, hlen, ⟨_, at_i, .inr ⟨p, q, _, es, hc.mp rfl⟩⟩, good⟩)⟩
              | false =>
                have nr : ¬ Rch (zeros ((xs.map (seqOf H)).take i)) q p := fun z => by
                  have := hc.mpr z
                  cases this
                have nb : ¬ BadAt n (xs.map (seqOf H)) i := fun ⟨s', h1, h2⟩ => by
                  rw [at_i] at h1
                  rw [← Option.some.inj h1] at h2
                  rcases h2 with h2 | ⟨a', b', r', h2, h3⟩
                  · rw [hR] at h2
                    cases h2
                  · rw [es] at h2
                    obtain ⟨y1', y2⟩ := List.cons.inj (Option.some.inj h2)
                    obtain ⟨y3, _⟩ := List.cons.inj y2
                    rw [← V.int.inj y1', ← V.int.inj y3] at h3
                    exact nr h3
                obtain ⟨kvs, h1, h2, h3, h4⟩ := O6
                have O6 : Onw H6 o (zeros ((xs.map (seqOf H)).take i)) := ⟨kvs, h1, h2, h3, h4⟩
                have fr6 : ∀ x d, valV kvs (Sum.inl x) = some (.ref d) → H d = none := fun x d z => by
                  obtain ⟨kvs', g1, _⟩ := O5
                  have g2 := e6 _ _ g1
                  rw [h1] at g2
                  have g3 : kvs = kvs' := HO.dK.inj (Option.some.inj g2)
                  rw [g3] at z
                  exact fr5 kvs' x d g1 z
                refine iteF ⟨_, rfl, o, rfl, .inl ⟨kvs, .inl h1⟩, _, rfl, fun e he => ⟨kvs, Sum.inl p, same_new he _ _ h1, rfl, Nat.lt_of_le_of_lt (Nat.le_trans h2 lz) (by decide), fun v hv => ?_, fun hv => ?_⟩⟩
                · rcases h3 p with ⟨no, _⟩ | ⟨d, bs, m1, m2, m3, m4, m5⟩
                  · rw [hv] at no
                    cases no
                  · rw [hv] at m1
                    obtain rfl := Option.some.inj m1
                    have O7 := O6.same (same_new (o := .dK []) he)
                    have h1' := same_new (o := .dK []) he _ _ h1
                    have m2' := same_new (o := .dK []) he _ _ m2
                    have hd0 := fr6 p d hv
                    refine ⟨_, rfl, d, _, rfl, DPut.k (k := Sum.inl q) m2' (by rw [trueD_len]; exact Nat.lt_of_le_of_lt (Nat.le_trans m3 lz) (by decide)), ?_⟩
                    refine ⟨⟨_, _, _, _, _, _, rfl⟩, fun b u z => ?_, ?_, fun kvs' x d' z z2 => ?_, fun j hj => nobad j hj fun _ => nb⟩
                    · rw [upd_ne (ne_of_none z hd0)]
                      exact same_new he _ _ (k6 _ _ z)
                    · rw [tz]
                      exact O7.old h1' hv m2' m4
                    · rw [upd_ne m4.symm, h1'] at z
                      rw [← HO.dK.inj (Option.some.inj z)] at z2
                      exact fr6 x d' z2
                · have O8 := O6.fresh (b := q) h1 hv he
                  have neo : o ≠ e := ne_of_none h1 he
                  have he0 : H e = none := by
                    cases z : H e with
                    | none => rfl
                    | some u =>
                      rw [k6 _ _ z] at he
                      cases he
                  have ce : upd (upd H6 e (.dK [])) o (.dK (putK kvs (Sum.inl p) (.ref e))) e = some (.dK []) := by
                    rw [upd_ne neo.symm]
                    exact upd_same
                  refine ⟨_, rfl, e, _, rfl, DPut.k (k := Sum.inl q) ce (by decide), ?_⟩
                  refine ⟨⟨_, _, _, _, _, _, rfl⟩, fun b u z => ?_, ?_, fun kvs' x d' z z2 => ?_, fun j hj => nobad j hj fun _ => nb⟩
                  · rw [upd_ne (ne_of_none z he0), upd_ne (ne_of_none z ho0), upd_ne (ne_of_none z he0)]
                    exact k6 _ _ z
                  · rw [tz]
                    exact O8
                  · rw [upd_ne neo, upd_same] at z
                    rw [← HO.dK.inj (Option.some.inj z), valV_put] at z2
                    by_cases hx2 : (Sum.inl x : Key) = Sum.inl p
                    · rw [if_pos hx2] at z2
                      rw [← V.ref.inj (Option.some.inj z2)]
                      exact he0
                    · rw [if_neg hx2] at z2
                      exact fr6 x d' z2
            · have nl : l ≠ 0 := fun z => hl (by rw [z]; rfl)
              have z1 : zero1 (seqOf H (.ref a1)) = [] := by
                rw [es]
                unfold zero1
                split
                · rename_i hh
                  obtain ⟨_, y2⟩ := List.cons.inj (Option.some.inj hh)
                  obtain ⟨_, y3⟩ := List.cons.inj y2
                  exact absurd (V.int.inj (List.cons.inj y3).1) nl
                · rfl
              rw [z1, List.append_nil] at tz
              have nb : ¬ BadAt n (xs.map (seqOf H)) i := fun ⟨s', h1, h2⟩ => by
                rw [at_i] at h1
                rw [← Option.some.inj h1] at h2
                rcases h2 with h2 | ⟨a', b', r', h2, h3⟩
                · rw [hR] at h2
                  cases h2
                · rw [es] at h2
                  obtain ⟨_, y2⟩ := List.cons.inj (Option.some.inj h2)
                  obtain ⟨_, y3⟩ := List.cons.inj y2
                  exact nl (V.int.inj (List.cons.inj y3).1)
              refine ⟨⟨_, _, _, _, _, _, rfl⟩, k5, ?_, fr5, fun j hj => nobad j hj fun _ => nb⟩
              rw [tz]
              exact O5
      · rintro σ' H3 w
        have lenx : (xs.map (seqOf H)).length = xs.length := List.length_map _
        exact k _ _ w.k (.inl ⟨rfl, fun j hj => w.g j (by rw [← lenx]; exact hj)⟩)
end
end K01

set_option Elab.async false
set_option linter.all false
set_option maxRecDepth 100000
set_option maxHeartbeats 8000000
namespace K01
open PySem PySem.Spec PyProof.Rows L2 Own
/-- at j is something that is no door, or a door of the other sort at its place -/
def BadD (n : Int) (ss : List (Option (List V))) (j : Nat) : Prop := ∃ s, ss[j]? = some s ∧ (isDoor n s = false ∨ ∃ z p h i z' h', s = some [.str z, .int p, h] ∧ i < j ∧ ss[i]? = some (some [.str z', .int p, h']) ∧ z' ≠ z)
def DRes (n : Int) (ss : List (Option (List V))) (r : V) : Prop := (r = .non ∧ ∀ j, j < ss.length → ¬ BadD n ss j) ∨ ∃ j : Nat, r = .int j ∧ j < ss.length ∧ BadD n ss j ∧ ∀ i, i < j → ¬ BadD n ss i
abbrev NWDoor : List Str := ["places", "doors", "sorts", "index", "thing", "sort", "place", "_"]
theorem scWDoor : FnScope NWDoor ["places", "doors"] (defScope sWrongDoor) := ⟨rfl, rfl, rfl, by decide +kernel, rfl, by decide +kernel, by decide +kernel⟩
theorem door_of {n : Int} {s : Option (List V)} (h : isDoor n s = true) : ∃ (z : Str) (p h : Int), s = some [.str z, .int p, .int h] := by
  match s, h with
  | some [z, p, l], h =>
    have h' : (isIO z && (isP n p && isN l)) = true := h
    simp only [Bool.and_eq_true] at h'
    obtain ⟨h1, h2, h3⟩ := h'
    obtain ⟨pi, rfl⟩ := isP_int h2
    obtain ⟨li, rfl, l0⟩ := isN_int h3
    cases z with
    | str z => exact ⟨z, pi, li, rfl⟩
    | _ => cases h1
  | none, h => cases h
  | some [], h => cases h
  | some [_], h => cases h
  | some [_, _], h => cases h
  | some (_ :: _ :: _ :: _ :: _), h => cases h
/-- the sorts so far -/
structure Srt (ss : List (Option (List V))) (kvs : List (Key × V)) (i : Nat) : Prop where
  l : kvs.length ≤ i
  e : ∀ p : Int, (valV kvs (Sum.inl p) = none ∧ ∀ j, j < i → ∀ z h, ss[j]? ≠ some (some [.str z, .int p, h])) ∨
    ∃ z, valV kvs (Sum.inl p) = some (.str z) ∧ (∃ j h, j < i ∧ ss[j]? = some (some [.str z, .int p, h])) ∧ ∀ j, j < i → ∀ z' h, ss[j]? = some (some [.str z', .int p, h]) → z' = z
structure DI (H : Hp) (n : Int) (a o : Addr) (xs : List V) (i : Nat) (σ : L2.St) (H' : Hp) : Prop where
  s : ∃ index thing b e l, σ = [some (.int n), some (.ref a), some (.ref o), index, thing, b, e, l]
  k : Same H H'
  on : ∃ kvs, H' o = some (.dK kvs) ∧ Srt (xs.map (seqOf H)) kvs i
  g : ∀ j, j < i → ¬ BadD n (xs.map (seqOf H)) j
section
variable {P : Program} {w : World} {K : PySem.W.Frag} {mg : Str → Option Value} {base : Heap}
theorem ok_wdoor {f fI fN fL fPl fR : Addr} {fd fdI fdN fdL fdPl fdR : FuncData} (F : Fun K "first_wrong_door" "first_wrong_door" sWrongDoor f fd) (T : Bt mg) (FI : Fun K "is_integer" "is_integer" sIsInt fI fdI) (gI : mg "is_integer" = some (.ref fI)) (bI : Binds K fdI ["thing"] [])
    (FN : Fun K "is_number" "is_number" sIsNum fN fdN) (gN : mg "is_number" = some (.ref fN)) (bN : Binds K fdN ["thing"] []) (FL : Fun K "is_list" "is_list" sIsList fL fdL) (gL : mg "is_list" = some (.ref fL)) (bL : Binds K fdL ["thing"] [])
    (FPl : Fun K "is_place" "is_place" sIsPlace fPl fdPl) (gPl : mg "is_place" = some (.ref fPl)) (bPl : Binds K fdPl ["places", "thing"] [])
    (FR : Fun K "is_door" "is_door" sIsDoor fR fdR) (gR : mg "is_door" = some (.ref fR)) (bR : Binds K fdR ["places", "thing"] []) : FnOk P w K mg base CX0 5 f fd ["places", "doors"] (spWrong DRes K) := by
  have GL : FnOk P w K mg base CX0 1 fL fdL ["thing"] spLst := ok_isLst FL T
  have GR : FnOk P w K mg base CX0 4 fR fdR ["places", "thing"] spDoor := ok_isDoor FR T FI gI bI FN gN bN FL gL bL FPl gPl bPl
  refine F.ok scWDoor (fun vs H Q E h => ?_) (fun cdv A outer s H vs Q E hr h => ?_)
  · obtain ⟨n, v, rfl, _⟩ := h
    rfl
  · obtain ⟨n, v, rfl, hv, hc⟩ := h
    refine ⟨_, (pss_cons (ps_if (pt_not (pt_val (pe_call GL (hr.mono (by decide)) (by rfl) gL FL.kp bL .nil pass0 (pa_cons (pv 1) pa_nil)))) (pss_one (ps_ret pe_int)) pss_nil)
  (pss_cons (ps_set (i := 2) scWDoor.nd rfl (Or.inl rfl) pe_dnewK)
  (pss_cons (ps_for PassesOwn.never rfl (pi_or (pi_enum (by rfl) T.enum (pa_cons (pv 1) pa_nil)) (pi_enumT (by rfl) T.enum (pa_cons (pv 1) pa_nil))) (pg_tup rfl (pgs_cons (pg_name (i := 3) (x := "index") scWDoor.nd rfl (Or.inl rfl)) (pgs_cons (pg_name (i := 4) (x := "thing") scWDoor.nd rfl (Or.inl rfl)) pgs_nil))) (pss_cons (ps_if (pt_not (pt_val (pe_call GR hr (by rfl) gR FR.kp bR .nil pass0 (pa_cons (pv 0) (pa_cons (pv 4) pa_nil))))) (pss_one (ps_ret (pv 3))) pss_nil)
  (Evl.pss_cut (ps_asg (pv 4) (pg_or (pg_tup rfl (pgs_cons (pg_name (i := 5) (x := "sort") scWDoor.nd rfl (Or.inl rfl)) (pgs_cons (pg_name (i := 6) (x := "place") scWDoor.nd rfl (Or.inl rfl)) (pgs_cons (pg_name (i := 7) (x := "_") scWDoor.nd rfl (Or.inl rfl)) pgs_nil)))) (pg_unl rfl (pgs_cons (pg_name (i := 5) (x := "sort") scWDoor.nd rfl (Or.inl rfl)) (pgs_cons (pg_name (i := 6) (x := "place") scWDoor.nd rfl (Or.inl rfl)) (pgs_cons (pg_name (i := 7) (x := "_") scWDoor.nd rfl (Or.inl rfl)) pgs_nil))))))
  (pss_one (ps_if (pt_cmpR op_ne (pe_dsetd (pv 2) (pv 6) (pv 5) ⟨by rfl, by rfl, by rfl, by rfl⟩) (pv 5) (nomark _)) (pss_one (ps_ret (pv 3))) pss_nil)))))
  (pss_one (ps_ret pe_non))))), ?_⟩
    refine ⟨_, rfl, v, rfl, hv, fun H1 e1 => ⟨_, rfl, ?_⟩⟩
    rcases hc with ⟨hs, k⟩ | ⟨a, xs, rfl, ha, it, lx, k⟩
    · rw [hs]
      exact k _ e1
    · rw [ha.seq]
      refine iteF (fun o ho => ?_)
      have e2 : Same H (upd H1 o (.dK [])) := e1.trans (same_new ho)
      have ho0 : H o = none := by
        cases e : H o with
        | none => rfl
        | some u =>
          rw [e1 _ _ e] at ho
          cases ho
      refine enum_or (K := K) ha e2 (fun S q => ⟨_, rfl, q⟩) fun J G wk hG => ?_
      refine for_it wk (DI H n a o xs) ⟨⟨_, _, _, _, _, rfl⟩, e2, ⟨[], upd_same, Nat.le_refl _, fun p => .inl ⟨rfl, fun j hj => absurd hj (Nat.not_lt_zero j)⟩⟩, fun j hj => absurd hj (Nat.not_lt_zero j)⟩ (fun i σ' H' _ w => hG _ w.k) ?_ ?_
      · rintro i x σ' H3 H4 hi ⟨⟨index, thing, b0, e0, l0, rfl⟩, ks, ⟨kvs, hk, sr⟩, good⟩ ⟨t, x1, y1, rfl, ht, rfl, hx, hy⟩
        obtain rfl : V.int (i : Nat) = x1 := Option.some.inj hx
        have s4 := same_new (o := .tup [.int (i : Nat), y1]) ht
        have k4 := ks.trans s4
        refine ⟨t, _, rfl, SqT.of upd_same, rfl, _, _, rfl, _, _, rfl, rfl, ?_⟩
        have hy' : xs[i]? = some y1 := hy
        have hym := List.mem_of_getElem? hy'
        obtain ⟨sh, shi⟩ := it y1 hym
        have sh4 := sh.same k4
        have sq4 := seq_same sh k4
        have at_i : (xs.map (seqOf H))[i]? = some (seqOf H y1) := by
          rw [List.getElem?_map, hy']
          rfl
        have hlen : i < (xs.map (seqOf H)).length := by
          rw [List.length_map]
          exact hi
        refine ⟨_, rfl, _, rfl, n, y1, rfl, sh4, (fun ys e y m => ?_), fun H5 e5 => ?_⟩
        · rw [sq4] at e
          exact (shi ys e y m).same k4
        rw [sq4]
        have k5 := k4.trans e5
        have hk5 := e5 _ _ (s4 _ _ hk)
        refine ⟨_, rfl, ?_⟩
        cases hR : isDoor n (seqOf H y1) with
        | false => exact iteT ⟨_, rfl, k _ _ k5 (.inr ⟨i, rfl, hlen, ⟨_, at_i, .inl hR⟩, good⟩)⟩
        | true =>
          refine iteF ?_
          obtain ⟨z, p, h, es⟩ := door_of hR
          obtain ⟨a1, rfl, ha1⟩ := sq_of (K := K) sh es
          refine ⟨fun σ' H' => H' = H5 ∧ σ' = [some (.int n), some (.ref a), some (.ref o), some (.int (i : Nat)), some (.ref a1), some (.str z), some (.int p), some (.int h)], ?_, ?_⟩
          · refine ⟨_, rfl, ?_⟩
            rcases ha1 with ha1 | ha1
            · exact .inr ⟨a1, _, rfl, SqL.of (k5 _ _ ha1), rfl, _, _, rfl, _, _, rfl, _, _, rfl, rfl, rfl, rfl⟩
            · exact .inl ⟨a1, _, rfl, SqT.of (k5 _ _ ha1), rfl, _, _, rfl, _, _, rfl, _, _, rfl, rfl, rfl, rfl⟩
          · rintro σ' H' ⟨rfl, rfl⟩
            rw [es] at at_i
            have nobad : ∀ j, j < i + 1 → (j = i → ¬ BadD n (xs.map (seqOf H)) i) → ¬ BadD n (xs.map (seqOf H)) j := fun j hj hi2 => by
              by_cases z : j = i
              · rw [z]
                exact hi2 z
              · exact good j (by omega)
            have same_at : ∀ {z' p' h'}, (xs.map (seqOf H))[i]? = some (some [.str z', .int p', h']) → z' = z ∧ p' = p := fun {z' p' h'} g => by
              rw [at_i] at g
              obtain ⟨g1, g2⟩ := List.cons.inj (Option.some.inj (Option.some.inj g))
              exact ⟨(V.str.inj g1).symm, (V.int.inj (List.cons.inj g2).1).symm⟩
            have nb : (∀ j, j < i → ∀ z' h', (xs.map (seqOf H))[j]? = some (some [.str z', .int p, h']) → z' = z) → ¬ BadD n (xs.map (seqOf H)) i := fun hh ⟨s', g1, g2⟩ => by
              rw [at_i] at g1
              rw [← Option.some.inj g1] at g2
              rcases g2 with g2 | ⟨z2, p2, h2, i2, z3, h3, g2, g3, g4, g5⟩
              · rw [es] at hR
                rw [hR] at g2
                cases g2
              · obtain ⟨q1, q2⟩ := List.cons.inj (Option.some.inj g2)
                obtain rfl := V.str.inj q1
                obtain rfl := V.int.inj (List.cons.inj q2).1
                exact g5 (hh i2 g3 z3 h3 g4)
            have ll : kvs.length < sizeLine := Nat.lt_of_le_of_lt (Nat.le_trans sr.l (show i ≤ 1000 by omega)) (by decide)
            refine ⟨_, rfl, o, rfl, .inl ⟨kvs, .inl hk5⟩, _, rfl, _, rfl, kvs, Sum.inl p, hk5, rfl, ll, fun v hv => ?_, fun hv => ?_⟩
            · rcases sr.e p with ⟨no, _⟩ | ⟨z0, m1, ⟨j0, h0, m2, m3⟩, m4⟩
              · rw [hv] at no
                cases no
              · rw [hv] at m1
                obtain rfl := Option.some.inj m1
                refine ⟨_, rfl, rfl, _, rfl, ite2 (fun hc => ?_) (fun hc => ?_)⟩
                · have nz : z0 ≠ z := fun q => by
                    rw [q, decide_eq_true rfl] at hc
                    cases hc
                  exact ⟨_, rfl, k _ _ k5 (.inr ⟨i, rfl, hlen, ⟨_, at_i, .inr ⟨z, p, _, j0, z0, h0, rfl, m2, m3, nz⟩⟩, good⟩)⟩
                · have ez : z0 = z := by
                    have q : decide (V.str z0 = V.str z) = true := by simpa using hc
                    exact V.str.inj (of_decide_eq_true q)
                  subst ez
                  refine ⟨⟨_, _, _, _, _, rfl⟩, k5, ⟨kvs, hk5, Nat.le_succ_of_le sr.l, fun p' => ?_⟩, fun j hj => nobad j hj fun _ => nb fun j' hj' z' h' g => m4 j' hj' z' h' g⟩
                  by_cases hp : p' = p
                  · subst hp
                    refine .inr ⟨z0, hv, ⟨j0, h0, Nat.lt_succ_of_lt m2, m3⟩, fun j hj z' h' g => ?_⟩
                    by_cases q : j = i
                    · rw [q] at g
                      exact (same_at g).1
                    · exact m4 j (by omega) z' h' g
                  · rcases sr.e p' with ⟨no, nn⟩ | ⟨z1, q1, ⟨j1, h1, q2, q3⟩, q4⟩
                    · refine .inl ⟨no, fun j hj z' h' g => ?_⟩
                      by_cases q : j = i
                      · rw [q] at g
                        exact hp (same_at g).2
                      · exact nn j (by omega) z' h' g
                    · refine .inr ⟨z1, q1, ⟨j1, h1, Nat.lt_succ_of_lt q2, q3⟩, fun j hj z' h' g => ?_⟩
                      by_cases q : j = i
                      · rw [q] at g
                        exact absurd (same_at g).2 hp
                      · exact q4 j (by omega) z' h' g
            · have nn0 : ∀ j, j < i → ∀ z' h', (xs.map (seqOf H))[j]? ≠ some (some [.str z', .int p, h']) := by
                rcases sr.e p with ⟨_, nn⟩ | ⟨z0, m1, _⟩
                · exact nn
                · rw [hv] at m1
                  cases m1
              refine ⟨_, rfl, rfl, _, rfl, iteNS rfl ?_⟩
              refine ⟨⟨_, _, _, _, _, rfl⟩, fun b u q => ?_, ⟨_, upd_same, ?_, fun p' => ?_⟩, fun j hj => nobad j hj fun _ => nb fun j' hj' z' h' g => absurd g (nn0 j' hj' z' h')⟩
              · rw [upd_ne (ne_of_none q ho0)]
                exact k5 _ _ q
              · rw [putK_new _ hv, List.length_append]
                exact Nat.succ_le_succ sr.l
              · rw [valV_put]
                by_cases hp : p' = p
                · subst hp
                  rw [if_pos rfl]
                  refine .inr ⟨z, rfl, ⟨i, _, Nat.lt_succ_self i, at_i⟩, fun j hj z' h' g => ?_⟩
                  by_cases q : j = i
                  · rw [q] at g
                    exact (same_at g).1
                  · exact absurd g (nn0 j (by omega) z' h')
                · rw [if_neg (fun q => hp (Sum.inl.inj q))]
                  rcases sr.e p' with ⟨no, nn⟩ | ⟨z1, q1, ⟨j1, h1, q2, q3⟩, q4⟩
                  · refine .inl ⟨no, fun j hj z' h' g => ?_⟩
                    by_cases q : j = i
                    · rw [q] at g
                      exact hp (same_at g).2
                    · exact nn j (by omega) z' h' g
                  · refine .inr ⟨z1, q1, ⟨j1, h1, Nat.lt_succ_of_lt q2, q3⟩, fun j hj z' h' g => ?_⟩
                    by_cases q : j = i
                    · rw [q] at g
                      exact absurd (same_at g).2 hp
                    · exact q4 j (by omega) z' h' g
      · rintro σ' H3 w
        have lenx : (xs.map (seqOf H)).length = xs.length := List.length_map _
        exact k _ _ w.k (.inl ⟨rfl, fun j hj => w.g j (by rw [← lenx]; exact hj)⟩)
end
end K01

set_option Elab.async false
set_option linter.all false
set_option maxRecDepth 100000
set_option maxHeartbeats 8000000
namespace K01
open PySem PySem.Spec PyProof.Rows L2 Own
theorem pe_tupK {X : Cx} {K : PySem.W.Frag} {a : Expr} {ta : TE} {p pos : Pos} (h : X.K = K) (hg : Gl X "tuple") (hm : X.mg "tuple" = none) (ha : PE X a ta) (hs : starEach [a] X.env = (false, eval a X.env) :: starEach [] X.env := by rfl) : PE X (.Call (.Name "tuple" p) [a] [] pos) (tThen ta (kTup K)) := by
  subst h
  exact pe_tupleOf hg hm ha hs
/-- the class House -/
structure HC (K : PySem.W.Frag) (C : Addr) : Prop where
  cl : Cls K C
  nP : NoAttr K C "_places"
  nR : NoAttr K C "_roads"
  nD : NoAttr K C "_doors"
/-- an error of one field leaves, all else stays -/
def Out (H : Hp) (E : XK) (C : Addr) (f : Str) (v : V) : Prop := ∀ d H', H d = none → Same H H' → H' d = some (.xd [(f, v)]) → E (.ref C) (some d) H'
theorem none_back {H H1 : Hp} {d : Addr} (e : Same H H1) (h : H1 d = none) : H d = none := by
  cases z : H d with
  | none => rfl
  | some u =>
    rw [e _ _ z] at h
    cases h
theorem Out.at {H H1 : Hp} {E : XK} {C : Addr} {f : Str} {v : V} (o : Out H E C f v) (e : Same H H1) : ∀ d H2, H1 d = none → (∀ b u, H1 b = some u → H2 b = some u) → H2 d = some (.xd [(f, v)]) → E (.ref C) (some d) H2 := fun d H2 nd sm hd => o d H2 (none_back e nd) (e.trans sm) hd
/-- each item as a tuple -/
def Tupd (H H' : Hp) (xs rs : List V) : Prop := Paired (fun v w => ∃ b t, w = V.ref b ∧ H' b = some (.tup t) ∧ seqOf H v = some t) xs rs
theorem Tupd.mono {H H1 H2 : Hp} {xs rs : List V} (t : Tupd H H1 xs rs) (k : ∀ b u, H1 b = some (.tup u) → H2 b = some (.tup u)) : Tupd H H2 xs rs := by
  unfold Tupd at t ⊢
  induction t with
  | nil => exact .nil
  | cons h _ ih =>
    obtain ⟨b, u, e1, e2, e3⟩ := h
    exact .cons ⟨b, u, e1, k _ _ e2, e3⟩ ih
theorem Tupd.snoc {H H1 : Hp} {v w : V} : ∀ {xs rs : List V}, Tupd H H1 xs rs → (∃ b t, w = V.ref b ∧ H1 b = some (.tup t) ∧ seqOf H v = some t) → Tupd H H1 (xs ++ [v]) (rs ++ [w])
  | _, _, .nil, h => .cons h .nil
  | _, _, .cons h0 t, h => .cons h0 (Tupd.snoc t h)
theorem pf0 (v : V) : putF "_places" v [] = [(("_places" : Str), v)] := rfl
theorem pf1 (v w : V) : putF "_roads" v [(("_places" : Str), w)] = [(("_places" : Str), w), (("_roads" : Str), v)] := by
  unfold putF
  rw [if_neg (by decide)]
  rfl
theorem pf2 (u v w : V) : putF "_doors" u [(("_places" : Str), w), (("_roads" : Str), v)] = [(("_places" : Str), w), (("_roads" : Str), v), (("_doors" : Str), u)] := by
  unfold putF
  rw [if_neg (by decide)]
  unfold putF
  rw [if_neg (by decide)]
  rfl
theorem all_seq {n : Int} {H : Hp} {xs : List V} (P : Option (List V) → Bool) (hP : ∀ s, P s = true → ∃ t, s = some t) (h : ∀ j, j < (xs.map (seqOf H)).length → ∀ s, (xs.map (seqOf H))[j]? = some s → P s = true) : ∀ v ∈ xs, ∃ t, seqOf H v = some t := fun v hv => by
  obtain ⟨j, hj, e⟩ := List.mem_iff_getElem.mp hv
  have e2 : (xs.map (seqOf H))[j]? = some (seqOf H v) := by
    rw [List.getElem?_map, List.getElem?_eq_getElem hj, e]
    rfl
  exact hP _ (h j (by rw [List.length_map]; exact hj) _ e2)
def spHInit (K : PySem.W.Frag) (Cp Cr Cd : Addr) : Sp := fun vs H Q E => ∃ (x C dx : Addr) (pl rv dv : V), vs = [.ref x, pl, rv, dv] ∧ H x = some (.ins C dx []) ∧ HC K C ∧ Shp H pl ∧
  (((∀ n, pl = .int n → n < 1) ∧ Out H E Cp "places" pl) ∨ ∃ n, pl = .int n ∧ 1 ≤ n ∧ Shp H rv ∧
    ((seqOf H rv = none ∧ Out H E Cr "index" (.int 0)) ∨ ∃ a xs, rv = .ref a ∧ Sqs H a xs ∧ Items H xs ∧ xs.length ≤ 1000 ∧
      (∀ j : Nat, WRes n (xs.map (seqOf H)) (.int j) → Out H E Cr "index" (.int j)) ∧ (WRes n (xs.map (seqOf H)) .non → Shp H dv ∧
        ((seqOf H dv = none ∧ Out H E Cd "index" (.int 0)) ∨ ∃ b ys, dv = .ref b ∧ Sqs H b ys ∧ Items H ys ∧ ys.length ≤ 1000 ∧
          (∀ j : Nat, DRes n (ys.map (seqOf H)) (.int j) → Out H E Cd "index" (.int j)) ∧ (DRes n (ys.map (seqOf H)) .non →
            ∀ H' p q rs ds, (∀ c o, c ≠ x → H c = some o → H' c = some o) → H' x = some (.ins C dx [("_places", .int n), ("_roads", .ref p), ("_doors", .ref q)]) → H p = none → H q = none → p ≠ q → H' p = some (.lst rs) → H' q = some (.lst ds) →
              Tupd H H' xs rs → Tupd H H' ys ds → Q .non H')))))
abbrev NInit : List Str := ["self", "places", "roads", "doors", "wrong", "road", "door"]
theorem scInit : FnScope NInit ["self", "places", "roads", "doors"] (defScope sInit) := ⟨rfl, rfl, rfl, by decide +kernel, rfl, by decide +kernel, by decide +kernel⟩
section
variable {P : Program} {w : World} {K : PySem.W.Frag} {mg : Str → Option Value} {base : Heap}
theorem ok_hinit {f fI fN fL fPl fR fC fD fWR fWD Cp Cr Cd : Addr} {fd fdI fdN fdL fdPl fdR fdC fdD fdWR fdWD : FuncData} (F : Fun K "__init__" "House.__init__" sInit f fd) (T : Bt mg) (FI : Fun K "is_integer" "is_integer" sIsInt fI fdI) (gI : mg "is_integer" = some (.ref fI)) (bI : Binds K fdI ["thing"] [])
    (FN : Fun K "is_number" "is_number" sIsNum fN fdN) (gN : mg "is_number" = some (.ref fN)) (bN : Binds K fdN ["thing"] []) (FL : Fun K "is_list" "is_list" sIsList fL fdL) (gL : mg "is_list" = some (.ref fL)) (bL : Binds K fdL ["thing"] [])
    (FPl : Fun K "is_place" "is_place" sIsPlace fPl fdPl) (gPl : mg "is_place" = some (.ref fPl)) (bPl : Binds K fdPl ["places", "thing"] [])
    (FR : Fun K "is_road" "is_road" sIsRoad fR fdR) (gR : mg "is_road" = some (.ref fR)) (bR : Binds K fdR ["places", "thing"] [])
    (FC : Fun K "comes_to" "comes_to" sComes fC fdC) (gC : mg "comes_to" = some (.ref fC)) (bC : Binds K fdC ["onward", "begin", "end"] [])
    (FD : Fun K "is_door" "is_door" sIsDoor fD fdD) (gD : mg "is_door" = some (.ref fD)) (bD : Binds K fdD ["places", "thing"] [])
    (FWR : Fun K "first_wrong_road" "first_wrong_road" sWrongRoad fWR fdWR) (gWR : mg "first_wrong_road" = some (.ref fWR)) (bWR : Binds K fdWR ["places", "roads"] [])
    (FWD : Fun K "first_wrong_door" "first_wrong_door" sWrongDoor fWD fdWD) (gWD : mg "first_wrong_door" = some (.ref fWD)) (bWD : Binds K fdWD ["places", "doors"] [])
    (EP : EI P w K mg base "BadPlaces" "places" Cp) (ER : EI P w K mg base "BadRoads" "index" Cr) (ED : EI P w K mg base "BadDoors" "index" Cd) :
    FnOk P w K mg base (L2.CX P w) 6 f fd ["self", "places", "roads", "doors"] (spHInit K Cp Cr Cd) := by
  have GI : FnOk P w K mg base CX0 1 fI fdI ["thing"] spInt := ok_isInt FI T
  have GWR : FnOk P w K mg base CX0 5 fWR fdWR ["places", "roads"] (spWrong WRes K) := ok_wroad FWR T FI gI bI FN gN bN FL gL bL FPl gPl bPl FR gR bR FC gC bC
  have GWD : FnOk P w K mg base CX0 5 fWD fdWD ["places", "doors"] (spWrong DRes K) := ok_wdoor FWD T FI gI bI FN gN bN FL gL bL FPl gPl bPl FD gD bD
  refine F.okX scInit (fun vs H Q E h => ?_) (fun cdv A outer s H vs Q E hr h => ?_)
  · obtain ⟨x, C, dx, pl, rv, dv, rfl, _⟩ := h
    rfl
  · obtain ⟨x, C, dx, pl, rv, dv, rfl, hx, hc, hpl, hcase⟩ := h
    refine ⟨_, (pss_cons (ps_if (PW.pt (pw_or (pt_not (pt_val (pe_call GI (hr.mono (by decide)) (by rfl) gI FI.kp bI .nil pass0 (pa_cons (pv 1) pa_nil)))) (pw_or1 (pt_cmpR op_lt (pv 1) pe_int (nomark _))))) (pss_one (ps_EI rfl (takes_of rfl rfl rfl rfl) EP (hr.mono (by decide)) (by rfl) (pv 1) (mono_var 1))) pss_nil)
  (pss_cons (ps_set (i := 4) scInit.nd rfl (Or.inl rfl) (pe_call GWR hr (by rfl) gWR FWR.kp bWR .nil pass0 (pa_cons (pv 1) (pa_cons (pv 2) pa_nil))))
  (pss_cons (ps_if (pt_cmpR op_notN (pv 4) pe_non (nomark _)) (pss_one (ps_EI rfl (takes_of rfl rfl rfl rfl) ER (hr.mono (by decide)) (by rfl) (pv 4) (mono_var 4))) pss_nil)
  (pss_cons (ps_set (i := 4) scInit.nd rfl (Or.inl rfl) (pe_call GWD hr (by rfl) gWD FWD.kp bWD .nil pass0 (pa_cons (pv 1) (pa_cons (pv 3) pa_nil))))
  (pss_cons (ps_if (pt_cmpR op_notN (pv 4) pe_non (nomark _)) (pss_one (ps_EI rfl (takes_of rfl rfl rfl rfl) ED (hr.mono (by decide)) (by rfl) (pv 4) (mono_var 4))) pss_nil)
  (pss_cons (ps_fld (pv 0) (pv 1) rfl)
  (pss_cons (ps_fld (pv 0) (pe_lc (own := [("road", 5)]) (g := gName 5) (tt := tYes) rfl scInit.nd (pi_or (pi_list (pv 2)) (pi_tup (pv 2))) (blkOk_by (N := NInit) (sc := defScope sInit) (by decide +kernel)) (fun _ _ _ _ _ => (pg_name (i := 5) (x := "road") scInit.nd rfl (Or.inl rfl))) (fun _ _ _ _ _ => pts_nil) (fun _ _ _ _ _ => (pe_tupK (K := K) rfl (by rfl) T.tuple (pv 5)))) rfl)
  (pss_one (ps_fld (pv 0) (pe_lc (own := [("door", 6)]) (g := gName 6) (tt := tYes) rfl scInit.nd (pi_or (pi_list (pv 3)) (pi_tup (pv 3))) (blkOk_by (N := NInit) (sc := defScope sInit) (by decide +kernel)) (fun _ _ _ _ _ => (pg_name (i := 6) (x := "door") scInit.nd rfl (Or.inl rfl))) (fun _ _ _ _ _ => pts_nil) (fun _ _ _ _ _ => (pe_tupK (K := K) rfl (by rfl) T.tuple (pv 6)))) rfl))))))))), ?_⟩
    refine ⟨_, rfl, pl, rfl, hpl, _, rfl, ?_⟩
    rcases hcase with ⟨bad, out⟩ | ⟨n, rfl, n1, hrv, hcase⟩
    · cases pl with
      | int n =>
        refine iteF ⟨_, rfl, _, _, rfl, rfl, _, rfl, ?_⟩
        rw [decide_eq_true (bad n rfl)]
        exact iteT ⟨_, rfl, out.at (Same.refl H)⟩
      | _ => exact iteT (iteT ⟨_, rfl, out.at (Same.refl H)⟩)
    · refine iteF ⟨_, rfl, _, _, rfl, rfl, _, rfl, ?_⟩
      rw [decide_eq_false (show ¬ n < 1 by omega)]
      refine iteF ?_
      rcases hcase with ⟨hs, out⟩ | ⟨a, xs, rfl, ha, it, lx, outR, hcase⟩
      · exact ⟨_, rfl, _, rfl, n, rv, rfl, hrv, .inl ⟨hs, fun H1 e1 => ⟨_, rfl, rfl, _, rfl, iteT ⟨_, rfl, out.at e1⟩⟩⟩⟩
      · refine ⟨_, rfl, _, rfl, n, _, rfl, hrv, .inr ⟨a, xs, rfl, ha, it, lx, fun H1 r e1 wr => ?_⟩⟩
        rcases wr with ⟨rfl, wr⟩ | ⟨j, rfl, wr⟩
        · refine ⟨_, rfl, rfl, _, rfl, iteF ?_⟩
          obtain ⟨hdv, hcase⟩ := hcase (.inl ⟨rfl, wr⟩)
          rcases hcase with ⟨hs, out⟩ | ⟨b, ys, rfl, hb, it2, ly, outD, fin⟩
          · refine ⟨_, rfl, _, rfl, n, dv, rfl, hdv.same e1, .inl ⟨by rw [seq_same hdv e1]; exact hs, fun H2 e2 => ⟨_, rfl, rfl, _, rfl, iteT ⟨_, rfl, out.at (e1.trans e2)⟩⟩⟩⟩
          · refine ⟨_, rfl, _, rfl, n, _, rfl, hdv.same e1, .inr ⟨b, ys, rfl, hb.same e1, it2.same e1, ly, fun H2 r2 e2 dr => ?_⟩⟩
            rw [it2.seqs e1] at dr
            rcases dr with ⟨rfl, dr⟩ | ⟨j, rfl, dr⟩
            · refine ⟨_, rfl, rfl, _, rfl, iteF ?_⟩
              have fin2 := fin (.inl ⟨rfl, dr⟩)
              have e3 := e1.trans e2
              clear outD outR
              refine ⟨_, rfl, _, rfl, x, C, dx, [], rfl, e3 _ _ hx, hc.cl, hc.nP, by decide, ?_⟩
              rw [pf0]
              have nax : a ≠ x := ha.elim (fun z => ne_of z hx fun q => by cases q) fun z => ne_of z hx fun q => by cases q
              have nbx : b ≠ x := hb.elim (fun z => ne_of z hx fun q => by cases q) fun z => ne_of z hx fun q => by cases q
              have oldA : ∀ c u, c ≠ x → H c = some u → upd H2 x (.ins C dx [("_places", .int n)]) c = some u := fun c u nc g => by
                rw [upd_ne nc]
                exact e3 _ _ g
              have hxA : upd H2 x (.ins C dx [("_places", .int n)]) x = some (.ins C dx [("_places", .int n)]) := upd_same
              generalize upd H2 x (.ins C dx [("_places", .int n)]) = HA at oldA hxA ⊢
              have allR : ∀ v ∈ xs, ∃ t, seqOf H v = some t := all_seq (n := n) (isRoad n) (fun s hs => by obtain ⟨x1, y1, l1, r1, e, _⟩ := road_of hs; exact ⟨_, e⟩) fun j hj s es => by
                cases q : isRoad n s with
                | true => rfl
                | false => exact absurd ⟨s, es, .inl q⟩ (wr j hj)
              have allD : ∀ v ∈ ys, ∃ t, seqOf H v = some t := all_seq (n := n) (isDoor n) (fun s hs => by obtain ⟨z1, p1, h1, e⟩ := door_of hs; exact ⟨_, e⟩) fun j hj s es => by
                cases q : isDoor n s with
                | true => rfl
                | false => exact absurd ⟨s, es, .inl q⟩ (dr j hj)
              have haA : Sqs HA a xs := ha.imp (fun z => oldA a _ nax z) fun z => oldA a _ nax z
              refine walk_or (K := K) haA (Same.refl HA) (fun S q => ⟨_, rfl, q⟩) fun J G wk hG => fun D1 hD1 => ?_
              refine lc_it wk (fun i H' => ∃ acc, H' D1 = some (.lst acc) ∧ acc.length = i ∧ (∀ b u, HA b = some u → H' b = some u) ∧ Tupd H H' (xs.take i) acc) ⟨[], upd_same, rfl, same_new hD1, .nil⟩ (fun i H' _ q => hG _ (by obtain ⟨_, _, _, q, _⟩ := q; exact q)) ?_ ?_
              · rintro i v H4 H5 hi ⟨acc, d4, l4, k4, t4⟩ ⟨rfl, hv⟩
                have hvm := List.mem_of_getElem? hv
                obtain ⟨t, et⟩ := allR v hvm
                obtain ⟨c, rfl, hcc⟩ := sq_of (K := K) (it v hvm).1 et
                have tk : xs.take (i + 1) = xs.take i ++ [.ref c] := by
                  rw [List.take_add_one, hv]
                  rfl
                have ncx : c ≠ x := by
                  rcases hcc with z | z
                  · exact ne_of z hx fun q => by cases q
                  · exact ne_of z hx fun q => by cases q
                have ll : acc.length < sizeLine := by
                  rw [l4]
                  exact Nat.lt_of_lt_of_le (Nat.lt_of_lt_of_le hi lx) (by decide)
                have nD : ∀ {b : Addr} {u : HO}, HA b = some u → b ≠ D1 := fun g => ne_of_none g hD1
                refine ⟨rfl, ?_⟩
                dsimp only [tYes]
                refine iteT ⟨_, rfl, ?_⟩
                rcases hcc with z | z
                · refine .inl ⟨c, t, rfl, SqL.of (k4 _ _ (oldA c _ ncx z)), fun q hq => ?_⟩
                  have s6 := same_new (o := .tup t) hq
                  refine ⟨acc, s6 _ _ d4, ll, acc ++ [.ref q], upd_same, by rw [List.length_append, l4]; rfl, fun b u g => ?_, ?_⟩
                  · rw [upd_ne (nD g)]
                    exact s6 _ _ (k4 _ _ g)
                  · rw [tk]
                    have m7 : ∀ b u, (upd H5 q (.tup t)) b = some (.tup u) → (upd (upd H5 q (.tup t)) D1 (.lst (acc ++ [.ref q]))) b = some (.tup u) := fun b u g => by
                      rw [upd_ne (ne_of g (s6 _ _ d4) fun w => by cases w)]
                      exact g
                    exact ((t4.mono fun b u g => s6 _ _ g).mono m7).snoc ⟨q, t, rfl, m7 _ _ upd_same, et⟩
                · refine .inr ⟨c, t, rfl, SqT.of (k4 _ _ (oldA c _ ncx z)), ?_⟩
                  refine ⟨acc, d4, ll, acc ++ [.ref c], upd_same, by rw [List.length_append, l4]; rfl, fun b u g => ?_, ?_⟩
                  · rw [upd_ne (nD g)]
                    exact k4 _ _ g
                  · rw [tk]
                    have m7 : ∀ b u, H5 b = some (.tup u) → (upd H5 D1 (.lst (acc ++ [.ref c]))) b = some (.tup u) := fun b u g => by
                      rw [upd_ne (ne_of g d4 fun w => by cases w)]
                      exact g
                    exact (t4.mono m7).snoc ⟨c, t, rfl, m7 _ _ (k4 _ _ (oldA c _ ncx z)), et⟩
              · rintro H4 ⟨rs, d4, l4, k4, t4⟩
                rw [List.take_of_length_le (Nat.le_refl _)] at t4
                have n1x : D1 ≠ x := (ne_of_none hxA hD1).symm
                refine ⟨_, rfl, x, C, dx, [("_places", .int n)], rfl, k4 _ _ hxA, hc.cl, hc.nR, by show 1 < 1000; decide, ?_⟩
                rw [pf1]
                have oldB : ∀ c u, c ≠ x → H c = some u → upd H4 x (.ins C dx [("_places", .int n), ("_roads", .ref D1)]) c = some u := fun c u nc g => by
                  rw [upd_ne nc]
                  exact k4 _ _ (oldA c u nc g)
                have hxB : upd H4 x (.ins C dx [("_places", .int n), ("_roads", .ref D1)]) x = some (.ins C dx [("_places", .int n), ("_roads", .ref D1)]) := upd_same
                have d4B : upd H4 x (.ins C dx [("_places", .int n), ("_roads", .ref D1)]) D1 = some (.lst rs) := by
                  rw [upd_ne n1x]
                  exact d4
                have t4B : Tupd H (upd H4 x (.ins C dx [("_places", .int n), ("_roads", .ref D1)])) xs rs := t4.mono fun c u g => by
                  rw [upd_ne (ne_of g (k4 _ _ hxA) fun w => by cases w)]
                  exact g
                generalize upd H4 x (.ins C dx [("_places", .int n), ("_roads", .ref D1)]) = HB at oldB hxB d4B t4B ⊢
                have hbB : Sqs HB b ys := hb.imp (fun z => oldB b _ nbx z) fun z => oldB b _ nbx z
                refine walk_or (K := K) hbB (Same.refl HB) (fun S q => ⟨_, rfl, q⟩) fun J G wk hG => fun D2 hD2 => ?_
                refine lc_it wk (fun i H' => ∃ acc, H' D2 = some (.lst acc) ∧ acc.length = i ∧ (∀ b u, HB b = some u → H' b = some u) ∧ Tupd H H' (ys.take i) acc) ⟨[], upd_same, rfl, same_new hD2, .nil⟩ (fun i H' _ q => hG _ (by obtain ⟨_, _, _, q, _⟩ := q; exact q)) ?_ ?_
                · rintro i v H4 H5 hi ⟨acc, d4, l4, k4, t4⟩ ⟨rfl, hv⟩
                  have hvm := List.mem_of_getElem? hv
                  obtain ⟨t, et⟩ := allD v hvm
                  obtain ⟨c, rfl, hcc⟩ := sq_of (K := K) (it2 v hvm).1 et
                  have tk : ys.take (i + 1) = ys.take i ++ [.ref c] := by
                    rw [List.take_add_one, hv]
                    rfl
                  have ncx : c ≠ x := by
                    rcases hcc with z | z
                    · exact ne_of z hx fun q => by cases q
                    · exact ne_of z hx fun q => by cases q
                  have ll : acc.length < sizeLine := by
                    rw [l4]
                    exact Nat.lt_of_lt_of_le (Nat.lt_of_lt_of_le hi ly) (by decide)
                  have nD : ∀ {b : Addr} {u : HO}, HB b = some u → b ≠ D2 := fun g => ne_of_none g hD2
                  refine ⟨rfl, ?_⟩
                  dsimp only [tYes]
                  refine iteT ⟨_, rfl, ?_⟩
                  rcases hcc with z | z
                  · refine .inl ⟨c, t, rfl, SqL.of (k4 _ _ (oldB c _ ncx z)), fun q hq => ?_⟩
                    have s6 := same_new (o := .tup t) hq
                    refine ⟨acc, s6 _ _ d4, ll, acc ++ [.ref q], upd_same, by rw [List.length_append, l4]; rfl, fun b u g => ?_, ?_⟩
                    · rw [upd_ne (nD g)]
                      exact s6 _ _ (k4 _ _ g)
                    · rw [tk]
                      have m7 : ∀ b u, (upd H5 q (.tup t)) b = some (.tup u) → (upd (upd H5 q (.tup t)) D2 (.lst (acc ++ [.ref q]))) b = some (.tup u) := fun b u g => by
                        rw [upd_ne (ne_of g (s6 _ _ d4) fun w => by cases w)]
                        exact g
                      exact ((t4.mono fun b u g => s6 _ _ g).mono m7).snoc ⟨q, t, rfl, m7 _ _ upd_same, et⟩
                  · refine .inr ⟨c, t, rfl, SqT.of (k4 _ _ (oldB c _ ncx z)), ?_⟩
                    refine ⟨acc, d4, ll, acc ++ [.ref c], upd_same, by rw [List.length_append, l4]; rfl, fun b u g => ?_, ?_⟩
                    · rw [upd_ne (nD g)]
                      exact k4 _ _ g
                    · rw [tk]
                      have m7 : ∀ b u, H5 b = some (.tup u) → (upd H5 D2 (.lst (acc ++ [.ref c]))) b = some (.tup u) := fun b u g => by
                        rw [upd_ne (ne_of g d4 fun w => by cases w)]
                        exact g
                      exact (t4.mono m7).snoc ⟨c, t, rfl, m7 _ _ (k4 _ _ (oldB c _ ncx z)), et⟩
                · rintro H6 ⟨ds, d6, l6, k6, t6⟩
                  rw [List.take_of_length_le (Nat.le_refl _)] at t6
                  have n2x : D2 ≠ x := (ne_of_none hxB hD2).symm
                  refine ⟨_, rfl, x, C, dx, _, rfl, k6 _ _ hxB, hc.cl, hc.nD, by show 2 < 1000; decide, ?_⟩
                  rw [pf2]
                  have mv : ∀ c u, H6 c = some (.tup u) → upd H6 x (.ins C dx [("_places", .int n), ("_roads", .ref D1), ("_doors", .ref D2)]) c = some (.tup u) := fun c u g => by
                    rw [upd_ne (ne_of g (k6 _ _ hxB) fun w => by cases w)]
                    exact g
                  refine fin2 _ D1 D2 rs ds (fun c o nc g => ?_) upd_same ?_ ?_ (ne_of_none d4B hD2) ?_ ?_ ((t4B.mono fun c u g => k6 _ _ g).mono mv) (t6.mono mv)
                  · rw [upd_ne nc]
                    exact k6 _ _ (oldB c o nc g)
                  · cases z : H D1 with
                    | none => rfl
                    | some u =>
                      rw [oldA D1 u n1x z] at hD1
                      cases hD1
                  · cases z : H D2 with
                    | none => rfl
                    | some u =>
                      rw [oldB D2 u n2x z] at hD2
                      cases hD2
                  · rw [upd_ne n1x]
                    exact k6 _ _ d4B
                  · rw [upd_ne n2x]
                    exact d6
            · exact ⟨_, rfl, rfl, _, rfl, iteT ⟨_, rfl, (outD j (.inr ⟨j, rfl, dr⟩)).at (e1.trans e2)⟩⟩
        · exact ⟨_, rfl, rfl, _, rfl, iteT ⟨_, rfl, (outR j (.inr ⟨j, rfl, wr⟩)).at e1⟩⟩
end
end K01

set_option Elab.async false
set_option linter.all false
set_option maxRecDepth 100000
set_option maxHeartbeats 4000000
namespace K01
open PySem PySem.Spec PyProof.Rows L2 Own
theorem scSame : FnScope ["_law_found", "_law_due", "_law_mine", "_law_theirs"] ["_law_found", "_law_due"] (defScope sSame) := ⟨rfl, rfl, rfl, by decide +kernel, rfl, by decide +kernel, by decide +kernel⟩
/-! ### equal trees -/
def Eqt : Nat → Hp → V → V → Prop
  | 0, _, v, u => v = u ∧ atomV u = true
  | n + 1, H, v, u => (v = u ∧ atomV u = true) ∨
      (∃ (a b : Addr) (xs ys : List V), v = .ref a ∧ u = .ref b ∧ H a = some (.lst xs) ∧ H b = some (.lst ys) ∧ Paired (Eqt n H) xs ys ∧ xs.length ≤ 1000) ∨
      (∃ (a b : Addr) (xs ys : List V), v = .ref a ∧ u = .ref b ∧ H a = some (.tup xs) ∧ H b = some (.tup ys) ∧ Paired (Eqt n H) xs ys ∧ xs.length ≤ 1000) ∨
      (2 ≤ n ∧ ∃ (a b : Addr) (kvs : List (Key × V)), v = .ref a ∧ u = .ref b ∧ H a = some (.dK kvs) ∧ H b = some (.dK kvs) ∧ (∀ p ∈ kvs, atomV p.2 = true) ∧ kvs.length ≤ 1000)
theorem eqt_atom {n : Nat} {H : Hp} {v : V} (h : atomV v = true) : Eqt n H v v := by
  cases n with
  | zero => exact ⟨rfl, h⟩
  | succ n => exact .inl ⟨rfl, h⟩
/-- all but tables stays -/
abbrev Ext (H H' : Hp) : Prop := LamX.ExtN H H'
theorem paired_imp {α β : Type} {F G : α → β → Prop} : ∀ {xs : List α} {ys : List β}, Paired F xs ys → (∀ a b, F a b → G a b) → Paired G xs ys
  | _, _, .nil, _ => .nil
  | _, _, .cons h t, k => .cons (k _ _ h) (paired_imp t k)
theorem Eqt.ext : ∀ {n : Nat} {H H' : Hp} {v u : V}, Eqt n H v u → Ext H H' → Eqt n H' v u
  | 0, _, _, _, _, h, _ => h
  | n + 1, H, H', v, u, h, e => by
    rcases h with h | ⟨a, b, xs, ys, rfl, rfl, ha, hb, p, l⟩ | ⟨a, b, xs, ys, rfl, rfl, ha, hb, p, l⟩ | ⟨hn, a, b, kvs, rfl, rfl, ha, hb, p⟩
    · exact .inl h
    · exact .inr (.inl ⟨a, b, xs, ys, rfl, rfl, e _ _ ha (fun t z => by cases z), e _ _ hb (fun t z => by cases z), paired_imp p fun _ _ q => Eqt.ext q e, l⟩)
    · exact .inr (.inr (.inl ⟨a, b, xs, ys, rfl, rfl, e _ _ ha (fun t z => by cases z), e _ _ hb (fun t z => by cases z), paired_imp p fun _ _ q => Eqt.ext q e, l⟩))
    · exact .inr (.inr (.inr ⟨hn, a, b, kvs, rfl, rfl, e _ _ ha (fun t z => by cases z), e _ _ hb (fun t z => by cases z), p⟩))
theorem ext_of {H H' : Hp} (e : Same H H') : Ext H H' := fun b o h _ => e b o h
def spSame (n : Nat) : Sp := fun vs H Q _ => ∃ v u : V, vs = [v, u] ∧ Eqt n H v u ∧ ∀ H', Same H H' → Q (.bl true) H'
theorem kit3 {K : PySem.W.Frag} {T a b c : String} {x y z r : Bool} (ha : kitB T a = some x) (hb : kitB T b = some y) (hc : kitB T c = some z) (h : (x || y || z) = r) : PySem.W.kitAny K (.type T) [.type a, .type b, .type c] = some r := by
  subst h
  refine kitAny_cons (kit_ty ha) (fun e => ?_) (fun e => by rw [e]; rfl)
  rw [e]
  refine kitAny_cons (kit_ty hb) (fun e => ?_) (fun e => by rw [e]; rfl)
  rw [e]
  refine kitAny_cons (kit_ty hc) (fun e => ?_) (fun e => by rw [e]; rfl)
  rw [e]
  exact kitAny_nil
/-- zip of two tuples, as one walk -/
theorem walk_zipT {K : PySem.W.Frag} {a b : Addr} {xs ys : List V} {n : Nat} (hn : n = min xs.length ys.length) : Walk (RZ.ItzT K a b) n (fun H => SqT K H a xs ∧ SqT K H b ys) (YPair (fun i => xs[i]?) (fun i => ys[i]?)) := by
  subst hn
  refine ⟨fun i _ hi q => ?_, fun _ q => ⟨xs, ys, q.1, q.2, by omega⟩, fun i H v H' _ q y => ?_⟩
  · have h1 : i < xs.length := by omega
    have h2 : i < ys.length := by omega
    exact ⟨xs, ys, xs[i], ys[i], q.1, q.2, by simp [h1], by simp [h2]⟩
  · obtain ⟨T, x, z, h1, h2, h3, h4, h5⟩ := y
    exact ⟨T, x, z, h1, h2, h3, h4 xs q.1, h5 ys q.2⟩
theorem paired_at {α β : Type} {F : α → β → Prop} : ∀ {xs : List α} {ys : List β} {i : Nat} {x : α} {y : β}, Paired F xs ys → xs[i]? = some x → ys[i]? = some y → F x y
  | _, _, 0, _, _, .cons h t, e1, e2 => by
    cases e1
    cases e2
    exact h
  | _, _, i + 1, x, y, .cons h t, e1, e2 => paired_at (i := i) t e1 e2
section
variable {P : Program} {w : World} {K : PySem.W.Frag} {mg : Str → Option Value} {base : Heap}
theorem atom_ty {H : Hp} {u : V} (h : atomV u = true) : ∃ (T : String) (b : Bool), TyS K H u T ∧ kitB T "list" = some false ∧ kitB T "tuple" = some false ∧ kitB T "dict" = some false ∧ kitB T "bool" = some b ∧ scal u u = true := by
  cases u with
  | non => exact ⟨"NoneType", false, fun _ _ => .base .non, by decide +kernel, by decide +kernel, by decide +kernel, by decide +kernel, rfl⟩
  | bl b => exact ⟨"bool", true, fun _ _ => .base (.bl b), by decide +kernel, by decide +kernel, by decide +kernel, by decide +kernel, rfl⟩
  | int i => exact ⟨"int", false, fun _ _ => .base (.int i), by decide +kernel, by decide +kernel, by decide +kernel, by decide +kernel, rfl⟩
  | str x => exact ⟨"str", false, fun _ _ => .base (.str x), by decide +kernel, by decide +kernel, by decide +kernel, by decide +kernel, rfl⟩
  | _ => cases h
theorem eq_done {u : V} {H : Hp} {Q : VK} (h : Q (.bl true) H) : Q (.bl (decide (u = u))) H := by
  rw [decide_eq_true rfl]
  exact h
theorem two_fit : 2 ≤ sizeLine := by decide
theorem three_fit : 3 ≤ sizeLine := by decide
theorem atom_key (k : Key) : atomV (kV k) = true := by
  cases k with
  | inl i => rfl
  | inr x => rfl
theorem items_eqt {H : Hp} {m : Nat} : ∀ {ts us : List Addr} {kvs : List (Key × V)}, Paired (fun (t : Addr) (q : Key × V) => H t = some (.tup [kV q.1, q.2])) ts kvs → Paired (fun (t : Addr) (q : Key × V) => H t = some (.tup [kV q.1, q.2])) us kvs →
    (∀ p ∈ kvs, atomV p.2 = true) → Paired (Eqt (m + 1) H) (ts.map V.ref) (us.map V.ref)
  | _, _, _, .nil, .nil, _ => .nil
  | _, _, p :: kvs, .cons h1 t1, .cons h2 t2, hp => .cons
      (.inr (.inr (.inl ⟨_, _, _, _, rfl, rfl, h1, h2, .cons (eqt_atom (atom_key p.1)) (.cons (eqt_atom (hp p List.mem_cons_self)) .nil), by show 2 ≤ 1000; decide⟩)))
      (items_eqt t1 t2 fun q hq => hp q (List.mem_cons_of_mem _ hq))
theorem step_same {f : Addr} {fd : FuncData} (F : Fun K "_law_same" "_law_same" sSame f fd) (T : Bt mg) (gS : mg "_law_same" = some (.ref f)) (bS : Binds K fd ["_law_found", "_law_due"] [])
    (n : Nat) (sp : Sp) (G : FnOk P w K mg base CX0 (n + 1) f fd ["_law_found", "_law_due"] sp) (hsub : ∀ m, n = m + 1 → sp = spSame m) : FnOk P w K mg base CX0 (n + 2) f fd ["_law_found", "_law_due"] (spSame n) := by
  refine F.ok scSame (fun vs H Q E h => ?_) (fun cdv A outer s H vs Q E hr h => ?_)
  · obtain ⟨v, u, rfl, _⟩ := h
    rfl
  · obtain ⟨v, u, rfl, h, k⟩ := h
    have hs : (v = u ∧ atomV u = true) ∨ (∃ m, n = m + 1 ∧ (
        (∃ (a b : Addr) (xs ys : List V), v = .ref a ∧ u = .ref b ∧ H a = some (.lst xs) ∧ H b = some (.lst ys) ∧ Paired (Eqt m H) xs ys ∧ xs.length ≤ 1000) ∨
        (∃ (a b : Addr) (xs ys : List V), v = .ref a ∧ u = .ref b ∧ H a = some (.tup xs) ∧ H b = some (.tup ys) ∧ Paired (Eqt m H) xs ys ∧ xs.length ≤ 1000) ∨
        (2 ≤ m ∧ ∃ (a b : Addr) (kvs : List (Key × V)), v = .ref a ∧ u = .ref b ∧ H a = some (.dK kvs) ∧ H b = some (.dK kvs) ∧ (∀ p ∈ kvs, atomV p.2 = true) ∧ kvs.length ≤ 1000))) := by
      cases n with
      | zero => exact .inl h
      | succ m =>
        rcases h with h | h
        · exact .inl h
        · exact .inr ⟨m, rfl, h⟩
    refine ⟨_, (pss_cons (ps_if (pt_val (pe_callB call_isiT (by rfl) T.isi (by decide +kernel) (pa_cons (pv 1) (pa_cons (pe_tup (pa_cons (pe_bltn (v := .ty "list") (by rfl) T.list (by decide +kernel) rfl) (pa_cons (pe_bltn (v := .ty "tuple") (by rfl) T.tuple (by decide +kernel) rfl) pa_nil))) pa_nil)))) (pss_cons (ps_if (PW.pt (pw_or (pt_cmpR op_ne (pe_callB call_isi (by rfl) T.isi (by decide +kernel) (pa_cons (pv 0) (pa_cons (pe_bltn (v := .ty "list") (by rfl) T.list (by decide +kernel) rfl) pa_nil))) (pe_callB call_isi (by rfl) T.isi (by decide +kernel) (pa_cons (pv 1) (pa_cons (pe_bltn (v := .ty "list") (by rfl) T.list (by decide +kernel) rfl) pa_nil))) (nomark _)) (pw_or1 (pt_cmpR op_ne (pe_callB call_isi (by rfl) T.isi (by decide +kernel) (pa_cons (pv 0) (pa_cons (pe_bltn (v := .ty "tuple") (by rfl) T.tuple (by decide +kernel) rfl) pa_nil))) (pe_callB call_isi (by rfl) T.isi (by decide +kernel) (pa_cons (pv 1) (pa_cons (pe_bltn (v := .ty "tuple") (by rfl) T.tuple (by decide +kernel) rfl) pa_nil))) (nomark _))))) (pss_one (ps_ret pe_bl)) pss_nil)
  (pss_one (ps_ret (pe_and (pe_cmpR op_eq (pe_callB call_len_seq (by rfl) T.len (by decide +kernel) (pa_cons (pv 0) pa_nil)) (pe_callB call_len_seq (by rfl) T.len (by decide +kernel) (pa_cons (pv 1) pa_nil)) (nomark _)) (pe_one (pe_callB (cr_all rfl) (by rfl) T.all (by decide +kernel) (pa_cons (pe_lc (own := [("_law_mine", 2), ("_law_theirs", 3)]) (g := gTup K 2 (gCons (gName 2) (gCons (gName 3) gNil))) (tt := tYes) rfl scSame.nd (RZ.pi_zipA (by rfl) T.zip (pa_cons (pv 0) (pa_cons (pv 1) pa_nil))) (blkOk_by (N := ["_law_found", "_law_due", "_law_mine", "_law_theirs"]) (sc := defScope sSame) (by decide +kernel)) (fun _ _ _ _ _ => (pg_tup rfl (pgs_cons (pg_name (i := 2) (x := "_law_mine") scSame.nd rfl (Or.inl rfl)) (pgs_cons (pg_name (i := 3) (x := "_law_theirs") scSame.nd rfl (Or.inl rfl)) pgs_nil)))) (fun _ _ _ _ _ => pts_nil) (fun _ _ _ _ _ => (pe_call G hr (by rfl) gS F.kp bS .nil pass0 (pa_cons (pv 2) (pa_cons (pv 3) pa_nil))))) pa_nil))))))) pss_nil)
  (pss_cons (ps_if (pt_val (pe_callB call_isi (by rfl) T.isi (by decide +kernel) (pa_cons (pv 1) (pa_cons (pe_bltn (v := .ty "dict") (by rfl) T.dict (by decide +kernel) rfl) pa_nil)))) (pss_one (ps_ret (pe_and (pe_callB call_isi (by rfl) T.isi (by decide +kernel) (pa_cons (pv 0) (pa_cons (pe_bltn (v := .ty "dict") (by rfl) T.dict (by decide +kernel) rfl) pa_nil))) (pe_one (pe_call G hr (by rfl) gS F.kp bS .nil pass0 (pa_cons (LiI.pe_listItems rfl (pv 0) (by rfl) T.list (by decide +kernel)) (pa_cons (LiI.pe_listItems rfl (pv 1) (by rfl) T.list (by decide +kernel)) pa_nil))))))) pss_nil)
  (pss_cons (ps_if (PW.pt (pw_or (pt_val (pe_callB call_isi (by rfl) T.isi (by decide +kernel) (pa_cons (pv 1) (pa_cons (pe_bltn (v := .ty "bool") (by rfl) T.bool (by decide +kernel) rfl) pa_nil)))) (pw_or1 (pt_val (pe_callB call_isi (by rfl) T.isi (by decide +kernel) (pa_cons (pv 0) (pa_cons (pe_bltn (v := .ty "bool") (by rfl) T.bool (by decide +kernel) rfl) pa_nil))))))) (pss_one (ps_ret (pe_and (pe_callB call_isi (by rfl) T.isi (by decide +kernel) (pa_cons (pv 1) (pa_cons (pe_bltn (v := .ty "bool") (by rfl) T.bool (by decide +kernel) rfl) pa_nil))) (pe_and (pe_callB call_isi (by rfl) T.isi (by decide +kernel) (pa_cons (pv 0) (pa_cons (pe_bltn (v := .ty "bool") (by rfl) T.bool (by decide +kernel) rfl) pa_nil))) (pe_one (pe_cmpR op_eq (pv 0) (pv 1) (nomark _))))))) pss_nil)
  (pss_one (ps_ret (pe_and (pe_not (pe_callB call_isiT (by rfl) T.isi (by decide +kernel) (pa_cons (pv 0) (pa_cons (pe_tup (pa_cons (pe_bltn (v := .ty "list") (by rfl) T.list (by decide +kernel) rfl) (pa_cons (pe_bltn (v := .ty "tuple") (by rfl) T.tuple (by decide +kernel) rfl) (pa_cons (pe_bltn (v := .ty "dict") (by rfl) T.dict (by decide +kernel) rfl) pa_nil)))) pa_nil)))) (pe_one (pe_cmpR op_eq (pv 0) (pv 1) (nomark _))))))))), ?_⟩
    rcases hs with ⟨rfl, ha⟩ | ⟨m, rfl, ⟨a, b, xs, ys, rfl, rfl, ha, hb, hp, hl⟩ | ⟨a, b, xs, ys, rfl, rfl, ha, hb, hp, hl⟩ | ⟨hm, a, b, kvs, rfl, rfl, ha, hb, hp, hl⟩⟩
    · obtain ⟨Ty, c, ty, kL, kT, kD, kB, sc⟩ := atom_ty (K := K) (H := H) ha
      refine ⟨_, rfl, two_fit, fun tp htp => ?_⟩
      have e1 := same_new (o := HO.tup [V.ty "list", V.ty "tuple"]) htp
      have ty1 := ty.grow e1
      refine ⟨_, tp, _, _, _, false, rfl, upd_same, .cons (.ty _) (.cons (.ty _) .nil), ty1.now, kit2 kL kT rfl, _, rfl, iteF ?_⟩
      refine ⟨_, rfl, _, _, _, _, false, rfl, .ty _, ty1.now, kit_ty kD, _, rfl, iteF ?_⟩
      refine ⟨_, rfl, _, _, _, _, c, rfl, .ty _, ty1.now, kit_ty kB, _, rfl, ?_⟩
      cases c with
      | true =>
        refine iteT (iteT ?_)
        refine ⟨_, rfl, _, _, _, _, true, rfl, .ty _, ty1.now, kit_ty kB, _, rfl, iteT ⟨_, rfl, _, _, _, _, true, rfl, .ty _, ty1.now, kit_ty kB, _, rfl, iteT ⟨_, rfl, _, rfl, sc, ?_⟩⟩⟩
        exact eq_done (k _ e1)
      | false =>
        refine iteF ⟨_, rfl, _, _, _, _, false, rfl, .ty _, ty1.now, kit_ty kB, _, rfl, iteF ?_⟩
        refine ⟨_, rfl, three_fit, fun tq htq => ?_⟩
        have e2 := same_new (o := HO.tup [V.ty "list", V.ty "tuple", V.ty "dict"]) htq
        have ty2 := ty1.grow e2
        refine ⟨_, tq, _, _, _, false, rfl, upd_same, .cons (.ty _) (.cons (.ty _) (.cons (.ty _) .nil)), ty2.now, kit3 kL kT kD rfl, _, rfl, _, rfl, iteT ⟨_, rfl, _, rfl, sc, ?_⟩⟩
        exact eq_done (k _ (e1.trans e2))
    · obtain rfl := hsub m rfl
      have tyA : TyS K H (.ref a) "list" := fun H' e => .base (.lst (e _ _ ha))
      have tyB : TyS K H (.ref b) "list" := fun H' e => .base (.lst (e _ _ hb))
      have kL : kitB "list" "list" = some true := by decide +kernel
      have kT : kitB "list" "tuple" = some false := by decide +kernel
      refine ⟨_, rfl, two_fit, fun tp htp => ?_⟩
      have e1 := same_new (o := HO.tup [V.ty "list", V.ty "tuple"]) htp
      have tA := tyA.grow e1
      have tB := tyB.grow e1
      refine ⟨_, tp, _, _, _, true, rfl, upd_same, .cons (.ty _) (.cons (.ty _) .nil), tB.now, kit2 kL kT rfl, _, rfl, iteT ?_⟩
      refine ⟨_, rfl, _, _, _, _, true, rfl, .ty _, tA.now, kit_ty kL, _, rfl, _, _, _, _, true, rfl, .ty _, tB.now, kit_ty kL, rfl, false, rfl, iteF ?_⟩
      refine ⟨_, rfl, _, _, _, _, false, rfl, .ty _, tA.now, kit_ty kT, _, rfl, _, _, _, _, false, rfl, .ty _, tB.now, kit_ty kT, rfl, false, rfl, iteF ?_⟩
      refine ⟨_, rfl, a, xs, rfl, .inl (SqL.of (e1 _ _ ha)), _, rfl, b, ys, rfl, .inl (SqL.of (e1 _ _ hb)), rfl, true, ?_, iteT ?_⟩
      · exact congrArg V.bl (decide_eq_true (congrArg V.int (congrArg Int.ofNat hp.length)))
      · refine ⟨_, rfl, _, rfl, a, b, xs, ys, rfl, .inl ⟨SqL.of (e1 _ _ ha), SqL.of (e1 _ _ hb), fun D hD => ?_⟩⟩
        have e2 := same_new (o := HO.lst []) hD
        refine lc_it (walk_zip (xs := xs) (ys := ys) (n := xs.length) (by rw [← hp.length]; simp)) (fun i H' => Same (upd H tp (.tup [V.ty "list", V.ty "tuple"])) H' ∧ H' D = some (.lst (List.replicate i (V.bl true)))) ⟨e2, upd_same⟩ (fun i H' _ q => ⟨SqL.of (q.1 _ _ (e1 _ _ ha)), SqL.of (q.1 _ _ (e1 _ _ hb))⟩) ?_ ?_
        · rintro i x H3 H4 hi ⟨q1, q2⟩ ⟨t, x1, y1, rfl, ht, rfl, hx, hy⟩
          have e3 := same_new (o := HO.tup [x1, y1]) ht
          refine ⟨t, _, rfl, SqT.of upd_same, rfl, _, _, rfl, _, _, rfl, rfl, rfl, ?_⟩
          dsimp only [tYes]
          refine iteT ?_
          refine ⟨_, rfl, _, rfl, x1, y1, rfl, (paired_at hp hx hy).ext (ext_of ((e1.trans q1).trans e3)), fun H5 e5 => ?_⟩
          refine ⟨List.replicate i (V.bl true), e5 _ _ (e3 _ _ q2), ?_, fun p o z => ?_, ?_⟩
          · rw [List.length_replicate]
            exact Nat.lt_of_lt_of_le hi (Nat.le_trans hl (by decide))
          · have np : p ≠ D := ne_of_none z hD
            rw [upd_ne np]
            exact e5 _ _ (e3 _ _ (q1 _ _ z))
          · rw [upd_same, List.replicate_succ']
        · rintro H3 ⟨q1, q2⟩
          refine ⟨D, List.replicate xs.length true, rfl, SqL.of ?_, ?_⟩
          · rw [List.map_replicate]
            exact q2
          · have z : (List.replicate xs.length true).all id = true := by simp
            rw [z]
            exact k _ (e1.trans q1)
    · obtain rfl := hsub m rfl
      have tyA : TyS K H (.ref a) "tuple" := fun H' e => .base (.tup (e _ _ ha))
      have tyB : TyS K H (.ref b) "tuple" := fun H' e => .base (.tup (e _ _ hb))
      have kL : kitB "tuple" "list" = some false := by decide +kernel
      have kT : kitB "tuple" "tuple" = some true := by decide +kernel
      refine ⟨_, rfl, two_fit, fun tp htp => ?_⟩
      have e1 := same_new (o := HO.tup [V.ty "list", V.ty "tuple"]) htp
      have tA := tyA.grow e1
      have tB := tyB.grow e1
      refine ⟨_, tp, _, _, _, true, rfl, upd_same, .cons (.ty _) (.cons (.ty _) .nil), tB.now, kit2 kL kT rfl, _, rfl, iteT ?_⟩
      refine ⟨_, rfl, _, _, _, _, false, rfl, .ty _, tA.now, kit_ty kL, _, rfl, _, _, _, _, false, rfl, .ty _, tB.now, kit_ty kL, rfl, false, rfl, iteF ?_⟩
      refine ⟨_, rfl, _, _, _, _, true, rfl, .ty _, tA.now, kit_ty kT, _, rfl, _, _, _, _, true, rfl, .ty _, tB.now, kit_ty kT, rfl, false, rfl, iteF ?_⟩
      refine ⟨_, rfl, a, xs, rfl, .inr (SqT.of (e1 _ _ ha)), _, rfl, b, ys, rfl, .inr (SqT.of (e1 _ _ hb)), rfl, true, ?_, iteT ?_⟩
      · exact congrArg V.bl (decide_eq_true (congrArg V.int (congrArg Int.ofNat hp.length)))
      · refine ⟨_, rfl, _, rfl, a, b, xs, ys, rfl, .inr ⟨SqT.of (e1 _ _ ha), SqT.of (e1 _ _ hb), fun D hD => ?_⟩⟩
        have e2 := same_new (o := HO.lst []) hD
        refine lc_it (walk_zipT (xs := xs) (ys := ys) (n := xs.length) (by rw [← hp.length]; simp)) (fun i H' => Same (upd H tp (.tup [V.ty "list", V.ty "tuple"])) H' ∧ H' D = some (.lst (List.replicate i (V.bl true)))) ⟨e2, upd_same⟩ (fun i H' _ q => ⟨SqT.of (q.1 _ _ (e1 _ _ ha)), SqT.of (q.1 _ _ (e1 _ _ hb))⟩) ?_ ?_
        · rintro i x H3 H4 hi ⟨q1, q2⟩ ⟨t, x1, y1, rfl, ht, rfl, hx, hy⟩
          have e3 := same_new (o := HO.tup [x1, y1]) ht
          refine ⟨t, _, rfl, SqT.of upd_same, rfl, _, _, rfl, _, _, rfl, rfl, rfl, ?_⟩
          dsimp only [tYes]
          refine iteT ?_
          refine ⟨_, rfl, _, rfl, x1, y1, rfl, (paired_at hp hx hy).ext (ext_of ((e1.trans q1).trans e3)), fun H5 e5 => ?_⟩
          refine ⟨List.replicate i (V.bl true), e5 _ _ (e3 _ _ q2), ?_, fun p o z => ?_, ?_⟩
          · rw [List.length_replicate]
            exact Nat.lt_of_lt_of_le hi (Nat.le_trans hl (by decide))
          · have np : p ≠ D := ne_of_none z hD
            rw [upd_ne np]
            exact e5 _ _ (e3 _ _ (q1 _ _ z))
          · rw [upd_same, List.replicate_succ']
        · rintro H3 ⟨q1, q2⟩
          refine ⟨D, List.replicate xs.length true, rfl, SqL.of ?_, ?_⟩
          · rw [List.map_replicate]
            exact q2
          · have z : (List.replicate xs.length true).all id = true := by simp
            rw [z]
            exact k _ (e1.trans q1)
    · obtain rfl := hsub m rfl
      have tyA : TyS K H (.ref a) "dict" := fun H' e => .base (.dK (e _ _ ha))
      have tyB : TyS K H (.ref b) "dict" := fun H' e => .base (.dK (e _ _ hb))
      have kD : kitB "dict" "dict" = some true := by decide +kernel
      refine ⟨_, rfl, two_fit, fun tp htp => ?_⟩
      have e1 := same_new (o := HO.tup [V.ty "list", V.ty "tuple"]) htp
      have tA := tyA.grow e1
      have tB := tyB.grow e1
      refine ⟨_, tp, _, _, _, false, rfl, upd_same, .cons (.ty _) (.cons (.ty _) .nil), tB.now, kit2 (T := "dict") (x := false) (y := false) (by decide +kernel) (by decide +kernel) rfl, _, rfl, iteF ?_⟩
      refine ⟨_, rfl, _, _, _, _, true, rfl, .ty _, tB.now, kit_ty kD, _, rfl, iteT ?_⟩
      refine ⟨_, rfl, _, _, _, _, true, rfl, .ty _, tA.now, kit_ty kD, _, rfl, iteT ?_⟩
      refine ⟨_, rfl, a, kvs, rfl, e1 _ _ ha, fun H2 p ts e2 _ _ _ hl2 hp2 => ?_⟩
      refine ⟨_, rfl, b, kvs, rfl, e2 _ _ (e1 _ _ hb), fun H3 q us e3 _ _ _ hl3 hp3 => ?_⟩
      refine ⟨.ref p, .ref q, rfl, ?_, fun H4 e4 => k _ (((e1.trans e2).trans e3).trans e4)⟩
      obtain ⟨m2, rfl⟩ : ∃ m2, m = m2 + 2 := ⟨m - 2, by omega⟩
      have hp2' := paired_imp hp2 fun t q z => e3 _ _ z
      refine .inr (.inl ⟨p, q, _, _, rfl, rfl, e3 _ _ hl2, hl3, items_eqt hp2' hp3 hp, ?_⟩)
      rw [List.length_map, hp2.length]
      exact hl
theorem ok_same {f : Addr} {fd : FuncData} (F : Fun K "_law_same" "_law_same" sSame f fd) (T : Bt mg) (gS : mg "_law_same" = some (.ref f)) (bS : Binds K fd ["_law_found", "_law_due"] []) :
    ∀ n : Nat, FnOk P w K mg base CX0 (n + 2) f fd ["_law_found", "_law_due"] (spSame n)
  | 0 => step_same F T gS bS 0 (fun _ _ _ _ => False) ⟨fun _ _ _ _ z => z.elim, fun _ _ _ _ _ _ _ _ _ _ _ _ _ z => z.elim⟩ fun m z => by omega
  | n + 1 => step_same F T gS bS (n + 1) (spSame n) (ok_same F T gS bS n) fun m z => by
    have e : n = m := by omega
    rw [e]
end
end K01

set_option Elab.async false
set_option linter.all false
set_option maxRecDepth 100000
set_option maxHeartbeats 4000000
namespace K01
open PySem PySem.Spec PyProof.Rows L2 Own
/-! ### rings of roads of length 0: a line of places, its roads and two shortcuts, and one road back -/
/-- where ranks rise along all edges nobody comes back -/
theorem rch_rank {es : List (Int × Int)} (rk : Int → Nat) (h : ∀ a b, (a, b) ∈ es → rk a < rk b) : ∀ {a b : Int}, Rch es a b → rk a < rk b := fun {a b} r => by
  induction r with
  | one h1 => exact h _ _ h1
  | step _ h2 ih => exact Nat.lt_trans ih (h _ _ h2)
theorem Rch.mono {es fs : List (Int × Int)} (k : ∀ e ∈ es, e ∈ fs) : ∀ {a b : Int}, Rch es a b → Rch fs a b := fun {a b} r => by
  induction r with
  | one h1 => exact .one (k _ h1)
  | step _ h2 ih => exact .step ih (k _ h2)
theorem Rch.trans {es : List (Int × Int)} {a b c : Int} (r : Rch es a b) (q : Rch es b c) : Rch es a c := by
  induction q with
  | one h1 => exact .step r h1
  | step _ h2 ih => exact .step ih h2
def Rz (es : List (Int × Int)) (a b : Int) : Prop := a = b ∨ Rch es a b
theorem Rz.trans {es : List (Int × Int)} {a b c : Int} (r : Rz es a b) (q : Rz es b c) : Rz es a c := by
  rcases r with rfl | r
  · exact q
  · rcases q with rfl | q
    · exact .inr r
    · exact .inr (r.trans q)
theorem Rz.one {es : List (Int × Int)} {a b : Int} (h : (a, b) ∈ es) : Rz es a b := .inr (.one h)
theorem Rz.go {es : List (Int × Int)} {a b : Int} (r : Rz es a b) (n : a ≠ b) : Rch es a b := r.elim (fun z => absurd z n) id
/-- along a line, from the i-th to the j-th -/
theorem rz_line {es : List (Int × Int)} (o : Nat → Int) {i : Nat} : ∀ {d : Nat}, (∀ k, i ≤ k → k < i + d → (o k, o (k + 1)) ∈ es) → Rz es (o i) (o (i + d))
  | 0, _ => .inl rfl
  | d + 1, h => (rz_line o (d := d) fun k k1 k2 => h k k1 (by omega)).trans (.one (h (i + d) (by omega) (by omega)))
theorem rz_to {es : List (Int × Int)} (o : Nat → Int) {i j : Nat} (ij : i ≤ j) (h : ∀ k, i ≤ k → k < j → (o k, o (k + 1)) ∈ es) : Rz es (o i) (o j) := by
  have z := rz_line (es := es) o (i := i) (d := j - i) fun k k1 k2 => h k k1 (by omega)
  rw [show i + (j - i) = j by omega] at z
  exact z
abbrev Ed := Int × Int × Int × Int
def pr (e : Ed) : Int × Int := (e.1, e.2.1)
/-- the roads of the ring: back, and those of the row -/
structure RingL (m s : Nat) (o : Nat → Int) (rk : Int → Nat) (L : List Ed) : Prop where
  m3 : 3 ≤ m
  s2 : 2 ≤ s
  sm : s ≤ m
  r : ∀ k, k < m → rk (o k) = k
  nd : L.Nodup
  all : ∀ e ∈ L, e = (o (s - 1), o 0, 0, 5) ∨ e = (o 0, o (m - 1), 0, 2) ∨ e = (o 0, o 2, 0, 1) ∨ ∃ i, i + 1 < m ∧ e = (o i, o (i + 1), 0, 1)
  back : (o (s - 1), o 0, 0, 5) ∈ L
  long : (o 0, o (m - 1), 0, 2) ∈ L
  short : (o 0, o 2, 0, 1) ∈ L
  line : ∀ i, i + 1 < m → (o i, o (i + 1), 0, 1) ∈ L
/-- the road at j closes a ring -/
def Clo (L : List Ed) (j : Nat) : Prop := ∃ e, L[j]? = some e ∧ Rch ((L.take j).map pr) e.2.1 e.1
theorem take_at {α : Type} : ∀ {L : List α} {j n : Nat} {e : α}, L[n]? = some e → n < j → e ∈ L.take j
  | [], _, _, _, h, _ => by cases h
  | x :: r, j + 1, 0, e, h, _ => by
    rw [List.take_succ_cons, show x = e from Option.some.inj h]
    exact List.mem_cons_self
  | x :: r, j + 1, n + 1, e, h, k => by
    rw [List.take_succ_cons]
    exact List.mem_cons_of_mem _ (take_at (L := r) h (by omega))
theorem at_take {α : Type} : ∀ {L : List α} {j : Nat} {e : α}, e ∈ L.take j → ∃ n, n < j ∧ L[n]? = some e
  | [], j, e, h => by
    rw [List.take_nil] at h
    cases h
  | x :: r, 0, e, h => by cases h
  | x :: r, j + 1, e, h => by
    rw [List.take_succ_cons] at h
    rcases List.mem_cons.mp h with rfl | h
    · exact ⟨0, by omega, rfl⟩
    · obtain ⟨n, h1, h2⟩ := at_take h
      exact ⟨n + 1, by omega, h2⟩
theorem nodup_at {α : Type} : ∀ {L : List α} {i j : Nat} {e : α}, L.Nodup → L[i]? = some e → L[j]? = some e → i = j
  | [], _, _, _, _, h, _ => by cases h
  | x :: r, 0, 0, _, _, _, _ => rfl
  | x :: r, 0, j + 1, e, nd, h, k => by
    have z : x = e := Option.some.inj h
    subst z
    exact absurd (List.mem_of_getElem? (l := r) k) (List.nodup_cons.mp nd).1
  | x :: r, i + 1, 0, e, nd, h, k => by
    have z : x = e := Option.some.inj k
    subst z
    exact absurd (List.mem_of_getElem? (l := r) h) (List.nodup_cons.mp nd).1
  | x :: r, i + 1, j + 1, e, nd, h, k => by rw [nodup_at (List.nodup_cons.mp nd).2 (show r[i]? = some e from h) (show r[j]? = some e from k)]
/-- where from the k-th place of the line one has come from the first, by roads of S -/
def Rn (m : Nat) (o : Nat → Int) (S : Ed → Prop) (k : Nat) : Prop := k = 0 ∨ (∀ i, i < k → S (o i, o (i + 1), 0, 1)) ∨ (2 ≤ k ∧ S (o 0, o 2, 0, 1) ∧ ∀ i, 2 ≤ i → i < k → S (o i, o (i + 1), 0, 1)) ∨ (k = m - 1 ∧ S (o 0, o (m - 1), 0, 2))
open Classical in
/-- a ring has the road back, and one of three ways to where it begins -/
theorem RingL.closed {m s : Nat} {o : Nat → Int} {rk : Int → Nat} {L : List Ed} (R : RingL m s o rk L) (S : Ed → Prop) {es : List (Int × Int)} (he : ∀ p ∈ es, ∃ e ∈ L, S e ∧ p = pr e) {a : Int} (c : Rch es a a) :
    S (o (s - 1), o 0, 0, 5) ∧ Rn m o S (s - 1) := by
  obtain ⟨m3, s2, sm, r, _, all, _⟩ := R
  by_cases hb : S (o (s - 1), o 0, 0, 5)
  · refine ⟨hb, ?_⟩
    by_cases hn : Rn m o S (s - 1)
    · exact hn
    · exfalso
      have up : ∀ a b, (a, b) ∈ es → (fun x => rk x + if Rn m o S (rk x) then m else 0) a < (fun x => rk x + if Rn m o S (rk x) then m else 0) b := fun a b h => by
        obtain ⟨e, he1, he2, he3⟩ := he _ h
        have edge : ∀ i j, i < j → j < m → a = o i → b = o j → (Rn m o S i → Rn m o S j) → (fun x => rk x + if Rn m o S (rk x) then m else 0) a < (fun x => rk x + if Rn m o S (rk x) then m else 0) b := fun i j ij jm ha hb k => by
          show rk a + (if Rn m o S (rk a) then m else 0) < rk b + (if Rn m o S (rk b) then m else 0)
          rw [ha, hb, r i (by omega), r j jm]
          by_cases q : Rn m o S i
          · rw [if_pos q, if_pos (k q)]
            omega
          · rw [if_neg q]
            omega
        rcases all e he1 with rfl | rfl | rfl | ⟨i, i1, rfl⟩
        · obtain ⟨rfl, rfl⟩ := Prod.mk.inj he3
          show rk (o (s - 1)) + (if Rn m o S (rk (o (s - 1))) then m else 0) < rk (o 0) + (if Rn m o S (rk (o 0)) then m else 0)
          rw [r _ (show s - 1 < m by omega), r 0 (by omega), if_neg hn, if_pos (show Rn m o S 0 from Or.inl rfl)]
          omega
        · obtain ⟨rfl, rfl⟩ := Prod.mk.inj he3
          exact edge 0 (m - 1) (by omega) (by omega) rfl rfl fun _ => .inr (.inr (.inr ⟨rfl, he2⟩))
        · obtain ⟨rfl, rfl⟩ := Prod.mk.inj he3
          exact edge 0 2 (by omega) (by omega) rfl rfl fun _ => .inr (.inr (.inl ⟨by omega, he2, fun i i1 i2 => by omega⟩))
        · obtain ⟨rfl, rfl⟩ := Prod.mk.inj he3
          refine edge i (i + 1) (by omega) i1 rfl rfl fun q => ?_
          rcases q with q | q | ⟨q1, q2, q3⟩ | ⟨q1, _⟩
          · refine .inr (.inl fun k hk => ?_)
            rw [show k = i by omega]
            exact he2
          · refine .inr (.inl fun k hk => ?_)
            by_cases z : k = i
            · rw [z]; exact he2
            · exact q k (by omega)
          · refine .inr (.inr (.inl ⟨by omega, q2, fun k k1 k2 => ?_⟩))
            by_cases z : k = i
            · rw [z]; exact he2
            · exact q3 k k1 (by omega)
          · omega
      exact Nat.lt_irrefl _ (rch_rank _ up c)
  · exfalso
    have up : ∀ a b, (a, b) ∈ es → rk a < rk b := fun a b h => by
      obtain ⟨e, he1, he2, he3⟩ := he _ h
      rcases all e he1 with rfl | rfl | rfl | ⟨i, i1, rfl⟩
      · exact absurd he2 hb
      all_goals obtain ⟨rfl, rfl⟩ := Prod.mk.inj he3
      · rw [r 0 (by omega), r _ (show m - 1 < m by omega)]
        omega
      · rw [r 0 (by omega), r 2 (by omega)]
        omega
      · rw [r i (by omega), r _ i1]
        omega
    exact Nat.lt_irrefl _ (rch_rank rk up c)
/-- j is the last of the places of some roads -/
def LastOf (L : List Ed) (Z : Ed → Prop) (j : Nat) : Prop := (∃ e, Z e ∧ L[j]? = some e) ∧ ∀ e, Z e → ∃ i, i ≤ j ∧ L[i]? = some e
def RingA (s : Nat) (o : Nat → Int) (e : Ed) : Prop := e = (o (s - 1), o 0, 0, 5) ∨ ∃ i, i + 1 < s ∧ e = (o i, o (i + 1), 0, 1)
def RingB (s : Nat) (o : Nat → Int) (e : Ed) : Prop := e = (o (s - 1), o 0, 0, 5) ∨ e = (o 0, o 2, 0, 1) ∨ ∃ i, 2 ≤ i ∧ i + 1 < s ∧ e = (o i, o (i + 1), 0, 1)
def RingC (m s : Nat) (o : Nat → Int) (e : Ed) : Prop := e = (o (s - 1), o 0, 0, 5) ∨ e = (o 0, o (m - 1), 0, 2)
theorem clo_by {L : List Ed} {Z : Ed → Prop} {j : Nat} (nd : L.Nodup) (h : LastOf L Z j) (c : ∀ e es, Z e → (∀ x, Z x → x ≠ e → pr x ∈ es) → Rch es e.2.1 e.1) : Clo L j := by
  obtain ⟨⟨e, ze, he⟩, al⟩ := h
  refine ⟨e, he, c e _ ze fun x zx ne => ?_⟩
  obtain ⟨i, ij, hi⟩ := al x zx
  have : i ≠ j := fun z => ne (Option.some.inj (by rw [← hi, z, he]))
  exact List.mem_map_of_mem (take_at hi (by omega))
theorem RingL.inj {m s : Nat} {o : Nat → Int} {rk : Int → Nat} {L : List Ed} (R : RingL m s o rk L) {i j : Nat} (hi : i < m) (hj : j < m) (e : o i = o j) : i = j := by
  rw [← R.r i hi, ← R.r j hj, e]
theorem RingL.cloA {m s : Nat} {o : Nat → Int} {rk : Int → Nat} {L : List Ed} (R : RingL m s o rk L) {j : Nat} (h : LastOf L (RingA s o) j) : Clo L j := by
  have s2 := R.s2
  have sm := R.sm
  refine clo_by R.nd h fun e es ze k => ?_
  have ob : (∀ i, i + 1 < s → e ≠ (o i, o (i + 1), 0, 1)) → Rz es (o 0) (o (s - 1)) := fun q => rz_to o (by omega) fun i _ i1 => k (o i, o (i + 1), 0, 1) (.inr ⟨i, by omega, rfl⟩) fun z => q i (by omega) z.symm
  rcases ze with rfl | ⟨i, i1, rfl⟩
  · refine (ob fun i i1 z => ?_).go fun z => ?_
    · have := congrArg (fun e : Ed => e.2.2.2) z
      exact absurd this (by show (5 : Int) ≠ 1; decide)
    · have := R.inj (by omega) (by omega) z
      omega
  · have bk : Rz es (o (s - 1)) (o 0) := .one (k (o (s - 1), o 0, 0, 5) (.inl rfl) fun z => absurd (congrArg (fun e : Ed => e.2.2.2) z) (by show (5 : Int) ≠ 1; decide))
    have ln : ∀ n, n + 1 < s → n ≠ i → (o n, o (n + 1)) ∈ es := fun n n1 ne => k (o n, o (n + 1), 0, 1) (.inr ⟨n, n1, rfl⟩) fun z => ne (R.inj (by omega) (by omega) (congrArg (fun e : Ed => e.1) z))
    have p1 : Rz es (o (i + 1)) (o (s - 1)) := rz_to o (by omega) fun n n1 n2 => ln n (by omega) (by omega)
    have p2 : Rz es (o 0) (o i) := rz_to o (by omega) fun n n1 n2 => ln n (by omega) (by omega)
    refine ((p1.trans bk).trans p2).go fun z => ?_
    have := R.inj (by omega) (by omega) z
    omega
theorem RingL.cloB {m s : Nat} {o : Nat → Int} {rk : Int → Nat} {L : List Ed} (R : RingL m s o rk L) (s3 : 3 ≤ s) {j : Nat} (h : LastOf L (RingB s o) j) : Clo L j := by
  have sm := R.sm
  refine clo_by R.nd h fun e es ze k => ?_
  have five : ∀ a b c d : Int, ((a, b, (0 : Int), (5 : Int)) : Ed) ≠ (c, d, 0, 1) := fun a b c d z => absurd (congrArg (fun e : Ed => e.2.2.2) z) (by show (5 : Int) ≠ 1; decide)
  rcases ze with rfl | rfl | ⟨i, i2, i1, rfl⟩
  · have p0 : Rz es (o 0) (o 2) := .one (k (o 0, o 2, 0, 1) (.inr (.inl rfl)) fun z => five _ _ _ _ z.symm)
    have p1 : Rz es (o 2) (o (s - 1)) := rz_to o (by omega) fun i i2 i1 => k (o i, o (i + 1), 0, 1) (.inr (.inr ⟨i, i2, by omega, rfl⟩)) fun z => five _ _ _ _ z.symm
    refine (p0.trans p1).go fun z => ?_
    have := R.inj (by omega) (by omega) z
    omega
  · have p1 : Rz es (o 2) (o (s - 1)) := rz_to o (by omega) fun i i2 i1 => k (o i, o (i + 1), 0, 1) (.inr (.inr ⟨i, i2, by omega, rfl⟩)) fun z => by
      have := R.inj (by omega) (by omega) (congrArg (fun e : Ed => e.1) z)
      omega
    have bk : Rz es (o (s - 1)) (o 0) := .one (k (o (s - 1), o 0, 0, 5) (.inl rfl) (five _ _ _ _))
    refine (p1.trans bk).go fun z => ?_
    have := R.inj (by omega) (by omega) z
    omega
  · have bk : Rz es (o (s - 1)) (o 0) := .one (k (o (s - 1), o 0, 0, 5) (.inl rfl) (five _ _ _ _))
    have p0 : Rz es (o 0) (o 2) := .one (k (o 0, o 2, 0, 1) (.inr (.inl rfl)) fun z => by
      have := R.inj (by omega) (by omega) (congrArg (fun e : Ed => e.1) z)
      omega)
    have ln : ∀ n, 2 ≤ n → n + 1 < s → n ≠ i → (o n, o (n + 1)) ∈ es := fun n n2 n1 ne => k (o n, o (n + 1), 0, 1) (.inr (.inr ⟨n, n2, n1, rfl⟩)) fun z => ne (R.inj (by omega) (by omega) (congrArg (fun e : Ed => e.1) z))
    have p1 : Rz es (o (i + 1)) (o (s - 1)) := rz_to o (by omega) fun n n1 n2 => ln n (by omega) (by omega) (by omega)
    have p2 : Rz es (o 2) (o i) := rz_to o (by omega) fun n n1 n2 => ln n (by omega) (by omega) (by omega)
    refine (((p1.trans bk).trans p0).trans p2).go fun z => ?_
    have := R.inj (by omega) (by omega) z
    omega
theorem RingL.cloC {m s : Nat} {o : Nat → Int} {rk : Int → Nat} {L : List Ed} (R : RingL m s o rk L) (e0 : s = m) {j : Nat} (h : LastOf L (RingC m s o) j) : Clo L j := by
  refine clo_by R.nd h fun e es ze k => ?_
  have five : ∀ a b c d : Int, ((a, b, (0 : Int), (5 : Int)) : Ed) ≠ (c, d, 0, 2) := fun a b c d z => absurd (congrArg (fun e : Ed => e.2.2.2) z) (by show (5 : Int) ≠ 2; decide)
  subst e0
  rcases ze with rfl | rfl
  · exact .one (k (o 0, o (s - 1), 0, 2) (.inr rfl) fun z => five _ _ _ _ z.symm)
  · exact .one (k (o (s - 1), o 0, 0, 5) (.inl rfl) (five _ _ _ _))
/-- what the law reckons is the first road that closes a ring -/
theorem RingL.first {m s : Nat} {o : Nat → Int} {rk : Int → Nat} {L : List Ed} (R : RingL m s o rk L) {j : Nat} (hA : ∀ i, LastOf L (RingA s o) i → j ≤ i) (hB : 3 ≤ s → ∀ i, LastOf L (RingB s o) i → j ≤ i) (hC : s = m → ∀ i, LastOf L (RingC m s o) i → j ≤ i) : ∀ i, i < j → ¬ Clo L i := fun i ij c => by
  obtain ⟨e, he, c⟩ := c
  have s2 := R.s2
  have sm := R.sm
  have c1 : Rch ((L.take (i + 1)).map pr) e.2.1 e.2.1 := by
    refine .step (c.mono fun p hp => ?_) (List.mem_map_of_mem (f := pr) (take_at he (by omega)))
    obtain ⟨x, hx, rfl⟩ := List.mem_map.mp hp
    obtain ⟨n, n1, n2⟩ := at_take hx
    exact List.mem_map_of_mem (take_at n2 (by omega))
  obtain ⟨b, w⟩ := R.closed (fun e => ∃ n, n ≤ i ∧ L[n]? = some e) (fun p hp => by
    obtain ⟨x, hx, rfl⟩ := List.mem_map.mp hp
    obtain ⟨n, n1, n2⟩ := at_take hx
    exact ⟨x, List.mem_of_getElem? n2, ⟨n, by omega, n2⟩, rfl⟩) c1
  have some_last : ∀ Z : Ed → Prop, (∃ e, Z e) → (∀ e, Z e → ∃ n, n ≤ i ∧ L[n]? = some e) → ∃ k, k ≤ i ∧ LastOf L Z k := fun Z ⟨e0, z0⟩ al => by
    have : ∀ d, d ≤ i + 1 → (∃ k, k ≤ i ∧ LastOf L Z k) ∨ ∀ e, Z e → ∃ n, n + d ≤ i ∧ L[n]? = some e := fun d => by
      induction d with
      | zero => exact fun _ => .inr al
      | succ d ih =>
        intro hd
        rcases ih (by omega) with q | q
        · exact .inl q
        · by_cases t : ∃ e, Z e ∧ L[i - d]? = some e
          · exact .inl ⟨i - d, by omega, t, fun e ze => by
              obtain ⟨n, n1, n2⟩ := q e ze
              exact ⟨n, by omega, n2⟩⟩
          · refine .inr fun e ze => ?_
            obtain ⟨n, n1, n2⟩ := q e ze
            have : n ≠ i - d := fun z => t ⟨e, ze, by rw [← z]; exact n2⟩
            exact ⟨n, by omega, n2⟩
    rcases this (i + 1) (Nat.le_refl _) with q | q
    · exact q
    · obtain ⟨n, n1, _⟩ := q e0 z0
      omega
  rcases w with w | w | ⟨w1, w2, w3⟩ | ⟨w1, w2⟩
  · omega
  · obtain ⟨k, k1, k2⟩ := some_last (RingA s o) ⟨_, .inl rfl⟩ fun e ze => by
      rcases ze with rfl | ⟨n, n1, rfl⟩
      · exact b
      · exact w n (by omega)
    have := hA k k2
    omega
  · obtain ⟨k, k1, k2⟩ := some_last (RingB s o) ⟨_, .inl rfl⟩ fun e ze => by
      rcases ze with rfl | rfl | ⟨n, n2, n1, rfl⟩
      · exact b
      · exact w2
      · exact w3 n n2 (by omega)
    have := hB (by omega) k k2
    omega
  · obtain ⟨k, k1, k2⟩ := some_last (RingC m s o) ⟨_, .inl rfl⟩ fun e ze => by
      rcases ze with rfl | rfl
      · exact b
      · exact w2
    have := hC (by omega) k k2
    omega
theorem lastOf_uniq {L : List Ed} {Z : Ed → Prop} {i j : Nat} (nd : L.Nodup) (h : LastOf L Z i) (k : LastOf L Z j) : i = j := by
  obtain ⟨⟨e, ze, he⟩, al⟩ := h
  obtain ⟨⟨f, zf, hf⟩, bl⟩ := k
  obtain ⟨a, a1, a2⟩ := al f zf
  obtain ⟨b, b1, b2⟩ := bl e ze
  have := nodup_at nd a2 hf
  have := nodup_at nd b2 he
  omega
/-! ### roads in the heap -/
/-- the items of a tuple -/
def tupOf (H : Hp) : V → Option (List V)
  | .ref a => match H a with
    | some (.tup t) => some t
    | _ => none
  | _ => none
theorem tupOf_at {H : Hp} {a : Addr} {t : List V} (h : H a = some (.tup t)) : tupOf H (.ref a) = some t := by
  show (match H a with | some (.tup t) => some t | _ => none) = some t
  rw [h]
theorem tupOf_ref {H : Hp} {v : V} {t : List V} (h : tupOf H v = some t) : ∃ a, v = .ref a ∧ H a = some (.tup t) := by
  cases v with
  | ref a =>
    refine ⟨a, rfl, ?_⟩
    have h' : (match H a with | some (.tup t) => some t | _ => none) = some t := h
    cases e : H a with
    | none => rw [e] at h'; cases h'
    | some o =>
      rw [e] at h'
      cases o with
      | tup u => rw [Option.some.inj h']
      | _ => cases h'
  | _ => cases h
def qv (e : Ed) : List V := [.int e.1, .int e.2.1, .int e.2.2.1, .int e.2.2.2]
def qd (e : Ed) : PyData := .tuple [.int e.1, .int e.2.1, .int e.2.2.1, .int e.2.2.2]
/-- the things of a list are such roads -/
def QL (H : Hp) (xs : List V) (es : List Ed) : Prop := xs.map (tupOf H) = es.map fun e => some (qv e)
theorem QL.nil {H : Hp} : QL H [] [] := rfl
theorem QL.len {H : Hp} {xs : List V} {es : List Ed} (h : QL H xs es) : xs.length = es.length := by
  have z := congrArg List.length h
  rw [List.length_map, List.length_map] at z
  exact z
theorem QL.cons {H : Hp} {p : Addr} {xs : List V} {es : List Ed} {e : Ed} (h1 : H p = some (.tup (qv e))) (h : QL H xs es) : QL H (.ref p :: xs) (e :: es) := by
  show tupOf H (.ref p) :: xs.map (tupOf H) = some (qv e) :: es.map _
  rw [tupOf_at h1, show xs.map (tupOf H) = es.map fun e => some (qv e) from h]
theorem QL.one {H : Hp} {p : Addr} {e : Ed} (h1 : H p = some (.tup (qv e))) : QL H [.ref p] [e] := QL.cons h1 QL.nil
theorem QL.app {H : Hp} {xs ys : List V} {es fs : List Ed} (h : QL H xs es) (k : QL H ys fs) : QL H (xs ++ ys) (es ++ fs) := by
  unfold QL at *
  rw [List.map_append, List.map_append, h, k]
theorem QL.take {H : Hp} {xs : List V} {es : List Ed} (h : QL H xs es) (n : Nat) : QL H (xs.take n) (es.take n) := by
  unfold QL at *
  rw [List.map_take, List.map_take, h]
theorem QL.drop {H : Hp} {xs : List V} {es : List Ed} (h : QL H xs es) (n : Nat) : QL H (xs.drop n) (es.drop n) := by
  unfold QL at *
  rw [List.map_drop, List.map_drop, h]
theorem QL.at {H : Hp} {xs : List V} {es : List Ed} (h : QL H xs es) {i : Nat} {v : V} (hv : xs[i]? = some v) : ∃ p e, v = .ref p ∧ H p = some (.tup (qv e)) ∧ es[i]? = some e := by
  have z : (xs.map (tupOf H))[i]? = (es.map fun e => some (qv e))[i]? := by rw [show xs.map (tupOf H) = es.map fun e => some (qv e) from h]
  rw [List.getElem?_map, hv, List.getElem?_map] at z
  cases e : es[i]? with
  | none => rw [e] at z; cases z
  | some e0 =>
    rw [e] at z
    obtain ⟨a, rfl, ha⟩ := tupOf_ref (Option.some.inj z)
    exact ⟨a, e0, rfl, ha, rfl⟩
theorem QL.mem {H : Hp} {xs : List V} {es : List Ed} (h : QL H xs es) {v : V} (hv : v ∈ xs) : ∃ p e, v = .ref p ∧ H p = some (.tup (qv e)) ∧ e ∈ es := by
  obtain ⟨i, hi, rfl⟩ := List.mem_iff_getElem.mp hv
  obtain ⟨p, e, h1, h2, h3⟩ := h.at (List.getElem?_eq_getElem hi)
  exact ⟨p, e, h1, h2, List.mem_of_getElem? h3⟩
theorem QL.tl {H H' : Hp} {xs : List V} {es : List Ed} (h : QL H xs es) (k : TL H H') : QL H' xs es := by
  have : xs.map (tupOf H') = xs.map (tupOf H) := List.map_congr_left fun v hv => by
    obtain ⟨p, e, rfl, h2, _⟩ := h.mem hv
    rw [tupOf_at h2, tupOf_at (k _ _ h2)]
  unfold QL at *
  rw [this, h]
theorem perm_map_inv {α β : Type} {g : α → β} : ∀ {M N : List β}, M.Perm N → ∀ L : List α, N = L.map g → ∃ L' : List α, M = L'.map g ∧ L'.Perm L := fun {M N} p => by
  induction p with
  | nil =>
    intro L h
    cases L with
    | nil => exact ⟨[], rfl, .refl _⟩
    | cons x r => cases h
  | cons x _ ih =>
    intro L h
    cases L with
    | nil => cases h
    | cons y r =>
      obtain ⟨rfl, h2⟩ := List.cons.inj h
      obtain ⟨L', h3, h4⟩ := ih r h2
      exact ⟨y :: L', by rw [h3]; rfl, h4.cons y⟩
  | swap x y l =>
    intro L h
    match L, h with
    | a :: b :: r, h =>
      obtain ⟨rfl, h2⟩ := List.cons.inj h
      obtain ⟨rfl, rfl⟩ := List.cons.inj h2
      exact ⟨b :: a :: r, rfl, .swap _ _ _⟩
  | trans _ _ ih1 ih2 =>
    intro L h
    obtain ⟨L1, h1, p1⟩ := ih2 L h
    obtain ⟨L2, h2, p2⟩ := ih1 L1 h1
    exact ⟨L2, h2, p2.trans p1⟩
theorem QL.perm {H : Hp} {xs ys : List V} {es : List Ed} (h : QL H xs es) (p : ys.Perm xs) : ∃ fs, QL H ys fs ∧ fs.Perm es := perm_map_inv (p.map (tupOf H)) es h
theorem QL.dp {K : PySem.W.Frag} {H : Hp} : ∀ {xs : List V} {es : List Ed}, QL H xs es → DpAll K H xs (es.map qd)
  | [], [], _ => .nil
  | [], _ :: _, h => by cases h
  | _ :: _, [], h => by cases h
  | v :: xs, e :: es, h => by
    obtain ⟨h1, h2⟩ := List.cons.inj (show tupOf H v :: xs.map (tupOf H) = some (qv e) :: es.map _ from h)
    obtain ⟨p, rfl, hp⟩ := tupOf_ref h1
    exact .cons (.tup (SqT.of hp) (.cons (.int _) (.cons (.int _) (.cons (.int _) (.cons (.int _) .nil))))) (QL.dp (xs := xs) (es := es) h2)
theorem QL.seqs {H : Hp} {xs : List V} {es : List Ed} (h : QL H xs es) : xs.map (seqOf H) = es.map fun e => some (qv e) := by
  have : xs.map (seqOf H) = xs.map (tupOf H) := List.map_congr_left fun v hv => by
    obtain ⟨p, e, rfl, h2, _⟩ := h.mem hv
    rw [seq_tup h2, tupOf_at h2]
  rw [this]
  exact h
theorem QL.items {H : Hp} {xs : List V} {es : List Ed} (h : QL H xs es) : Items H xs := fun v hv => by
  obtain ⟨p, e, rfl, h2, _⟩ := h.mem hv
  refine ⟨.inr (.inr (.inl ⟨p, _, rfl, h2⟩)), fun ys hy y hy2 => ?_⟩
  rw [seq_tup h2] at hy
  rw [← Option.some.inj hy] at hy2
  unfold qv at hy2
  simp only [List.mem_cons, List.not_mem_nil, or_false] at hy2
  rcases hy2 with rfl | rfl | rfl | rfl <;> exact shp_int _
theorem Items.app {H : Hp} {xs ys : List V} (h : Items H xs) (k : Items H ys) : Items H (xs ++ ys) := fun v hv => (List.mem_append.mp hv).elim (h v) (k v)
theorem Items.sub {H : Hp} {xs ys : List V} (h : Items H xs) (k : ∀ v ∈ ys, v ∈ xs) : Items H ys := fun v hv => h v (k v hv)
theorem items_none {H : Hp} : Items H [.non] := fun v hv => by
  rw [List.mem_singleton.mp hv]
  exact ⟨.inl rfl, fun ys h => by cases h⟩
/-- a road between two of so many places -/
structure EdOk (n : Int) (e : Ed) : Prop where
  a0 : 0 ≤ e.1
  a1 : e.1 < n
  b0 : 0 ≤ e.2.1
  b1 : e.2.1 < n
  ne : e.1 ≠ e.2.1
  l0 : 0 ≤ e.2.2.1
  r1 : 1 ≤ e.2.2.2
theorem isP_of {n i : Int} (h0 : 0 ≤ i) (h1 : i < n) : isP n (.int i) = true := by
  simp [isP, h0, h1]
theorem isN_of {i : Int} (h0 : 0 ≤ i) : isN (.int i) = true := by
  simp [isN, h0]
theorem EdOk.road {n : Int} {e : Ed} (h : EdOk n e) : isRoad n (some (qv e)) = true := by
  show (isP n (.int e.1) && (isP n (.int e.2.1) && (!decide (V.int e.1 = V.int e.2.1) && (isN (.int e.2.2.1) && (isN (.int e.2.2.2) && !decide (V.int e.2.2.2 = .int 0)))))) = true
  rw [isP_of h.a0 h.a1, isP_of h.b0 h.b1, isN_of h.l0, isN_of (Int.le_trans (by decide) h.r1), decide_eq_false (fun z => h.ne (V.int.inj z)), decide_eq_false (fun z => by
    have := V.int.inj z
    have := h.r1
    omega)]
  rfl
theorem zero1_qv (e : Ed) : zero1 (some (qv e)) = if e.2.2.1 = 0 then [pr e] else [] := by
  obtain ⟨a, b, l, r⟩ := e
  by_cases h : l = 0
  · subst h
    rfl
  · rw [if_neg h]
    show zero1 (some [.int a, .int b, .int l, .int r]) = []
    unfold zero1
    split
    · rename_i z
      have := List.cons.inj (Option.some.inj z)
      have := List.cons.inj (List.cons.inj this.2).2
      exact absurd (V.int.inj this.1) h
    · rfl
theorem zeros_qv : ∀ es : List Ed, zeros (es.map fun e => some (qv e)) = (es.filter fun e => decide (e.2.2.1 = 0)).map pr
  | [] => rfl
  | e :: r => by
    show zero1 (some (qv e)) ++ zeros (r.map fun e => some (qv e)) = _
    rw [zero1_qv, zeros_qv r, List.filter_cons]
    by_cases h : e.2.2.1 = 0
    · rw [if_pos h, if_pos (by rw [decide_eq_true h])]
      rfl
    · rw [if_neg h, if_neg (by rw [decide_eq_false h]; decide)]
      rfl
/-- what is at j depends on what is up to there alone -/
theorem BadAt.app {n : Int} {ss ts : List (Option (List V))} {j : Nat} (hj : j < ss.length) : BadAt n (ss ++ ts) j ↔ BadAt n ss j := by
  unfold BadAt
  rw [List.getElem?_append_left hj, List.take_append_of_le_length (Nat.le_of_lt hj)]
/-- at j is a road that closes a ring -/
theorem bad_qv {n : Int} {es : List Ed} (ok : ∀ e ∈ es, EdOk n e) {j : Nat} (hj : j < es.length) : BadAt n (es.map fun e => some (qv e)) j ↔ ∃ e, es[j]? = some e ∧ e.2.2.1 = 0 ∧ Rch (((es.take j).filter fun e => decide (e.2.2.1 = 0)).map pr) e.2.1 e.1 := by
  unfold BadAt
  rw [← List.map_take, zeros_qv, List.getElem?_map, List.getElem?_eq_getElem hj]
  have hok := ok _ (List.getElem_mem hj)
  constructor
  · rintro ⟨s, hs, h⟩
    obtain rfl := Option.some.inj hs
    rcases h with h | ⟨a, b, r, h1, h2⟩
    · rw [hok.road] at h
      cases h
    · have e1 := List.cons.inj (Option.some.inj h1)
      have e2 := List.cons.inj e1.2
      have e3 := List.cons.inj e2.2
      refine ⟨_, rfl, V.int.inj e3.1, ?_⟩
      rw [V.int.inj e1.1, V.int.inj e2.1]
      exact h2
  · rintro ⟨e, he, h0, h⟩
    obtain rfl := Option.some.inj he
    refine ⟨_, rfl, .inr ⟨_, _, .int (es[j]).2.2.2, ?_, h⟩⟩
    show some (qv es[j]) = _
    unfold qv
    rw [h0]
/-- where ranks rise along all roads of length 0 no road is wrong -/
theorem no_bad {n : Int} {es : List Ed} (ok : ∀ e ∈ es, EdOk n e) (rk : Int → Nat) (up : ∀ e ∈ es, e.2.2.1 = 0 → rk e.1 < rk e.2.1) {j : Nat} (hj : j < es.length) : ¬ BadAt n (es.map fun e => some (qv e)) j := fun h => by
  obtain ⟨e, he, h0, r⟩ := (bad_qv ok hj).mp h
  have z := rch_rank rk (fun a b hab => by
    obtain ⟨x, hx, hp⟩ := List.mem_map.mp hab
    obtain ⟨hx1, hx2⟩ := List.mem_filter.mp hx
    obtain ⟨rfl, rfl⟩ := Prod.mk.inj hp
    exact up x (List.mem_of_mem_take hx1) (of_decide_eq_true hx2)) r
  have := up e (List.mem_of_getElem? he) h0
  omega
theorem wres_good {n : Int} {ss : List (Option (List V))} (h : ∀ j, j < ss.length → ¬ BadAt n ss j) (k : Nat) : ¬ WRes n ss (.int k) := fun w => by
  rcases w with ⟨z, _⟩ | ⟨j, _, hj, b, _⟩
  · cases z
  · exact h j hj b
theorem wres_bad {n : Int} {ss : List (Option (List V))} {k : Nat} (hk : k < ss.length) (b : BadAt n ss k) (h : ∀ j, j < k → ¬ BadAt n ss j) {r : V} (w : WRes n ss r) : r = .int k := by
  rcases w with ⟨_, z⟩ | ⟨j, rfl, hj, b2, h2⟩
  · exact absurd b (z k hk)
  · have : j = k := by
      rcases Nat.lt_trichotomy j k with q | q | q
      · exact absurd b2 (h j q)
      · exact q
      · exact absurd b (h2 k q)
    rw [this]
theorem dres_good {n : Int} {ss : List (Option (List V))} (h : ∀ j, j < ss.length → ¬ BadD n ss j) (k : Nat) : ¬ DRes n ss (.int k) := fun w => by
  rcases w with ⟨z, _⟩ | ⟨j, _, hj, b, _⟩
  · cases z
  · exact h j hj b
theorem dres_bad {n : Int} {ss : List (Option (List V))} {k : Nat} (hk : k < ss.length) (b : BadD n ss k) (h : ∀ j, j < k → ¬ BadD n ss j) {r : V} (w : DRes n ss r) : r = .int k := by
  rcases w with ⟨_, z⟩ | ⟨j, rfl, hj, b2, h2⟩
  · exact absurd b (z k hk)
  · have : j = k := by
      rcases Nat.lt_trichotomy j k with q | q | q
      · exact absurd b2 (h j q)
      · exact q
      · exact absurd b (h2 k q)
    rw [this]
theorem BadD.app {n : Int} {ss ts : List (Option (List V))} {j : Nat} (hj : j < ss.length) : BadD n (ss ++ ts) j ↔ BadD n ss j := by
  unfold BadD
  rw [List.getElem?_append_left hj]
  constructor
  · rintro ⟨s, hs, h⟩
    refine ⟨s, hs, h.imp id ?_⟩
    rintro ⟨z, p, h, i, z', h', e, ij, hi, ne⟩
    rw [List.getElem?_append_left (by omega)] at hi
    exact ⟨z, p, h, i, z', h', e, ij, hi, ne⟩
  · rintro ⟨s, hs, h⟩
    refine ⟨s, hs, h.imp id ?_⟩
    rintro ⟨z, p, h, i, z', h', e, ij, hi, ne⟩
    exact ⟨z, p, h, i, z', h', e, ij, by rw [List.getElem?_append_left (by omega)]; exact hi, ne⟩
/-- something put at a place of a list of good ones: it is the first that is wrong -/
theorem put_bad {n : Int} {ss : List (Option (List V))} {at' : Nat} (h : ∀ j, j < ss.length → ¬ BadAt n ss j) (ha : at' ≤ ss.length) {s : Option (List V)} (hs : isRoad n s = false) {ts : List (Option (List V))} {r : V} (w : WRes n (ss.take at' ++ [s] ++ ts) r) : r = .int at' := by
  have l1 : (ss.take at').length = at' := by
    rw [List.length_take]
    omega
  refine wres_bad (k := at') (by simp; omega) ⟨s, ?_, .inl hs⟩ (fun j hj b => ?_) w
  · rw [List.append_assoc, List.getElem?_append_right (by omega), l1, Nat.sub_self]
    rfl
  · rw [List.append_assoc] at b
    have b1 := (BadAt.app (by omega)).mp b
    refine h j (by omega) ?_
    rw [← List.take_append_drop at' ss]
    exact (BadAt.app (by omega)).mpr b1
theorem put_badD {n : Int} {ss : List (Option (List V))} {at' : Nat} (h : ∀ j, j < ss.length → ¬ BadD n ss j) (ha : at' ≤ ss.length) {s : Option (List V)} (hs : isDoor n s = false) {ts : List (Option (List V))} {r : V} (w : DRes n (ss.take at' ++ [s] ++ ts) r) : r = .int at' := by
  have l1 : (ss.take at').length = at' := by
    rw [List.length_take]
    omega
  refine dres_bad (k := at') (by simp; omega) ⟨s, ?_, .inl hs⟩ (fun j hj b => ?_) w
  · rw [List.append_assoc, List.getElem?_append_right (by omega), l1, Nat.sub_self]
    rfl
  · rw [List.append_assoc] at b
    have b1 := (BadD.app (by omega)).mp b
    refine h j (by omega) ?_
    rw [← List.take_append_drop at' ss]
    exact (BadD.app (by omega)).mpr b1
/-! ### a drawn house is right -/
theorem quads_of {H : Hp} {ps : List Int} {rk : Int → Nat} : ∀ {xs : List V}, AllT H (Rok ps rk) xs → ∃ es, QL H xs es ∧ ∀ e ∈ es, e.1 ∈ ps ∧ e.2.1 ∈ ps ∧ e.1 ≠ e.2.1 ∧ 0 ≤ e.2.2.1 ∧ 1 ≤ e.2.2.2 ∧ (e.2.2.1 = 0 → rk e.1 < rk e.2.1)
  | [], _ => ⟨[], rfl, fun e he => by cases he⟩
  | v :: r, h => by
    obtain ⟨es, h1, h2⟩ := quads_of (xs := r) fun u hu => h u (List.mem_cons_of_mem _ hu)
    obtain ⟨p, t, rfl, hp, x, y, d, w, rfl, hx, hy, ne, d0, _, w1, _, k⟩ := h v List.mem_cons_self
    refine ⟨(x, y, d, w) :: es, QL.cons hp h1, fun e he => ?_⟩
    rcases List.mem_cons.mp he with rfl | he
    · exact ⟨hx, hy, ne, d0, w1, k⟩
    · exact h2 e he
theorem doors_good {H : Hp} {n : Int} {ps : List Int} {S : Int → Bool} {ys : List V} (hps : ∀ x ∈ ps, 0 ≤ x ∧ x < n) (h : AllT H (Dok ps S) ys) : ∀ j, j < (ys.map (seqOf H)).length → ¬ BadD n (ys.map (seqOf H)) j := fun j hj b => by
  have at_ : ∀ {i : Nat} {s : Option (List V)}, (ys.map (seqOf H))[i]? = some s → ∃ x h : Int, s = some [.str (if S x = true then "in" else "out"), .int x, .int h] ∧ x ∈ ps ∧ 0 ≤ h := fun {i s} hs => by
    rw [List.getElem?_map] at hs
    obtain ⟨v, hv, rfl⟩ := Option.map_eq_some_iff.mp hs
    obtain ⟨p, t, rfl, hp, x, hh, rfl, hx, h0, _⟩ := h v (List.mem_of_getElem? hv)
    exact ⟨x, hh, seq_tup hp, hx, h0⟩
  obtain ⟨s, hs, b⟩ := b
  obtain ⟨x, hh, rfl, hx, h0⟩ := at_ hs
  rcases b with b | ⟨z, p, h2, i, z', h', e, ij, hi, ne⟩
  · have : isDoor n (some [.str (if S x = true then "in" else "out"), .int x, .int hh]) = true := by
      show (isIO (.str (if S x = true then "in" else "out")) && (isP n (.int x) && isN (.int hh))) = true
      rw [isP_of (hps x hx).1 (hps x hx).2, isN_of h0]
      cases S x <;> rfl
    rw [this] at b
    cases b
  · obtain ⟨x2, hh2, e2, hx2, _⟩ := at_ hi
    have q1 := List.cons.inj (Option.some.inj e)
    have q2 := List.cons.inj q1.2
    have q3 := List.cons.inj (Option.some.inj e2)
    have q4 := List.cons.inj q3.2
    have e5 : x = p := V.int.inj q2.1
    have e6 : p = x2 := V.int.inj q4.1
    refine ne (V.str.inj (show V.str z' = V.str z from ?_))
    rw [q3.1, ← q1.1, e5, e6]
theorem dok_items {H : Hp} {ps : List Int} {S : Int → Bool} {ys : List V} (h : AllT H (Dok ps S) ys) : Items H ys := fun v hv => by
  obtain ⟨p, t, rfl, hp, x, hh, rfl, _⟩ := h v hv
  refine ⟨.inr (.inr (.inl ⟨p, _, rfl, hp⟩)), fun zs hz y hy => ?_⟩
  rw [seq_tup hp] at hz
  rw [← Option.some.inj hz] at hy
  simp only [List.mem_cons, List.not_mem_nil, or_false] at hy
  rcases hy with rfl | rfl | rfl <;> exact .inl rfl
/-- all that the law asks of a drawn house -/
structure Good (H : Hp) (n : Int) (xs ys : List V) : Prop where
  ir : Items H xs
  id : Items H ys
  r : ∀ j, j < (xs.map (seqOf H)).length → ¬ BadAt n (xs.map (seqOf H)) j
  d : ∀ j, j < (ys.map (seqOf H)).length → ¬ BadD n (ys.map (seqOf H)) j
theorem HouseAt.good {H : Hp} {many full doors : Int} {p q : Addr} {xs ys : List V} (h : HouseAt H many full doors p q xs ys) : Good H many xs ys := by
  obtain ⟨ps, rk, S, hps, hr, hd⟩ := h.roads
  obtain ⟨es, h1, h2⟩ := quads_of hr
  refine ⟨h1.items, dok_items hd, ?_, doors_good hps hd⟩
  rw [h1.seqs]
  intro j hj
  rw [List.length_map] at hj
  exact no_bad (fun e he => by
    obtain ⟨a, b, c, d, f, _⟩ := h2 e he
    exact ⟨(hps _ a).1, (hps _ a).2, (hps _ b).1, (hps _ b).2, c, d, f⟩) rk (fun e he => (h2 e he).2.2.2.2.2) hj
theorem Good.same {H H' : Hp} {n : Int} {xs ys : List V} (g : Good H n xs ys) (e : Same H H') : Good H' n xs ys := by
  refine ⟨g.ir.same e, g.id.same e, ?_, ?_⟩
  · rw [g.ir.seqs e]
    exact g.r
  · rw [g.id.seqs e]
    exact g.d
end K01

set_option Elab.async false
set_option linter.all false
set_option maxRecDepth 100000
set_option maxHeartbeats 4000000
namespace K01
open PySem PySem.Spec PyProof.Rows L2 Own
/-- all but what stands at a and l stays -/
structure Go (a l : Addr) (H H' : Hp) : Prop where
  k : ∀ b o, b ≠ a → b ≠ l → H b = some o → H' b = some o
  t : TL H H'
theorem Go.trans {a l : Addr} {H H1 H2 : Hp} (x : Go a l H H1) (y : Go a l H1 H2) : Go a l H H2 := ⟨fun b o h1 h2 e => y.k b o h1 h2 (x.k b o h1 h2 e), x.t.trans y.t⟩
theorem Go.refl {a l : Addr} {H : Hp} : Go a l H H := ⟨fun _ _ _ _ e => e, TL.refl⟩
theorem Go.same {a l : Addr} {H H' : Hp} (e : Same H H') : Go a l H H' := ⟨fun b o _ _ h => e b o h, fun b t h => e b _ h⟩
theorem Go.but {N : Int} {a l : Addr} {H H' : Hp} (S : Strm N H a l) (b : But2 a l H H') : Go a l H H' := ⟨fun c o h1 h2 e => b c o h1 h2 e, b.tl S⟩
theorem Go.set {a l q : Addr} {H H' : Hp} {o : HO} (g : Go a l H H') (h : H q = none) : Go a l H (upd H' q o) := ⟨fun b u h1 h2 e => by
  rw [upd_ne (ne_of_none e h)]
  exact g.k b u h1 h2 e, fun b t e => by
  rw [upd_ne (ne_of_none e h)]
  exact g.t b t e⟩
theorem Go.but2 {a l : Addr} {H H' : Hp} (g : Go a l H H') : But2 a l H H' := fun b o h1 h2 e => g.k b o h1 h2 e
/-- a list of the def's own -/
structure Ls (a l : Addr) (H : Hp) (p : Addr) (xs : List V) : Prop where
  na : p ≠ a
  nl : p ≠ l
  h : H p = some (.lst xs)
theorem Ls.go {a l p : Addr} {H H' : Hp} {xs : List V} (x : Ls a l H p xs) (g : Go a l H H') : Ls a l H' p xs := ⟨x.na, x.nl, g.k _ _ x.na x.nl x.h⟩
theorem Ls.new {n : Int} {a l p : Addr} {H : Hp} {xs : List V} (S : Strm n H a l) (h : H p = none) : Ls a l (upd H p (.lst xs)) p xs := ⟨(S.ne_new h).1, (S.ne_new h).2, upd_same⟩
/-! ### rows of ints and of the doors' words -/
def isW : V → Bool
  | .int _ => true
  | .str s => decide (s = "in") || decide (s = "out")
  | _ => false
theorem isW_cases {v : V} (h : isW v = true) : (∃ i, v = .int i) ∨ v = .str "in" ∨ v = .str "out" := by
  cases v with
  | int i => exact .inl ⟨i, rfl⟩
  | str s =>
    rcases Bool.or_eq_true_iff.mp h with h | h
    · exact .inr (.inl (by rw [of_decide_eq_true h]))
    · exact .inr (.inr (by rw [of_decide_eq_true h]))
  | _ => cases h
theorem isW_atom {v : V} (h : isW v = true) : atomV v = true := by
  rcases isW_cases h with ⟨i, rfl⟩ | rfl | rfl <;> rfl
def pdV : V → PyData
  | .int i => .int i
  | .str s => .str s
  | _ => .none
def td (t : List V) : PyData := .tuple (t.map pdV)
theorem dp_w {K : PySem.W.Frag} {H : Hp} {v : V} (h : isW v = true) : Dp K H v (pdV v) := by
  rcases isW_cases h with ⟨i, rfl⟩ | rfl | rfl
  · exact .int i
  · exact .str _
  · exact .str _
theorem dp_ws {K : PySem.W.Frag} {H : Hp} : ∀ {t : List V}, (∀ v ∈ t, isW v = true) → DpAll K H t (t.map pdV)
  | [], _ => .nil
  | v :: r, h => .cons (dp_w (h v List.mem_cons_self)) (dp_ws fun u hu => h u (List.mem_cons_of_mem _ hu))
theorem eqv_w {v u : V} (h : isW v = true) (k : isW u = true) : PyData.eqv (pdV v) (pdV u) = decide (v = u) := by
  rcases isW_cases h with ⟨i, rfl⟩ | rfl | rfl <;> rcases isW_cases k with ⟨j, rfl⟩ | rfl | rfl
  · show (i == j) = decide (V.int i = V.int j)
    rw [Bool.eq_iff_iff]
    simp only [beq_iff_eq, decide_eq_true_eq, V.int.injEq]
  · rfl
  · rfl
  · rfl
  · decide +kernel
  · decide +kernel
  · rfl
  · decide +kernel
  · decide +kernel
theorem eqv_ws : ∀ {t u : List V}, (∀ v ∈ t, isW v = true) → (∀ v ∈ u, isW v = true) → PyData.eqvAll (t.map pdV) (u.map pdV) = decide (t = u)
  | [], [], _, _ => rfl
  | [], _ :: _, _, _ => rfl
  | _ :: _, [], _, _ => rfl
  | v :: r, u :: q, h, k => by
    show (PyData.eqv (pdV v) (pdV u) && PyData.eqvAll (r.map pdV) (q.map pdV)) = _
    rw [eqv_w (h v List.mem_cons_self) (k u List.mem_cons_self), eqv_ws (fun w hw => h w (List.mem_cons_of_mem _ hw)) fun w hw => k w (List.mem_cons_of_mem _ hw), Bool.eq_iff_iff]
    simp only [Bool.and_eq_true, decide_eq_true_eq, List.cons.injEq]
def Ws (ts : List (List V)) : Prop := ∀ t ∈ ts, ∀ v ∈ t, isW v = true
theorem eqv_rows : ∀ {ts us : List (List V)}, Ws ts → Ws us → PyData.eqvAll (ts.map td) (us.map td) = decide (ts = us)
  | [], [], _, _ => rfl
  | [], _ :: _, _, _ => rfl
  | _ :: _, [], _, _ => rfl
  | t :: r, u :: q, h, k => by
    show (PyData.eqvAll (t.map pdV) (u.map pdV) && PyData.eqvAll (r.map td) (q.map td)) = _
    rw [eqv_ws (h t List.mem_cons_self) (k u List.mem_cons_self), eqv_rows (fun w hw => h w (List.mem_cons_of_mem _ hw)) fun w hw => k w (List.mem_cons_of_mem _ hw), Bool.eq_iff_iff]
    simp only [Bool.and_eq_true, decide_eq_true_eq, List.cons.injEq]
theorem lay_w {v : V} (h : isW v = true) : PyData.canLay0 (pdV v) = true ∧ PyData.depth (pdV v) = 0 := by
  rcases isW_cases h with ⟨i, rfl⟩ | rfl | rfl
  · exact ⟨rfl, rfl⟩
  · exact ⟨by decide +kernel, rfl⟩
  · exact ⟨by decide +kernel, rfl⟩
theorem lay_ws : ∀ {t : List V}, (∀ v ∈ t, isW v = true) → PyData.canLayAll0 (t.map pdV) = true ∧ PyData.depthAll (t.map pdV) = 0
  | [], _ => ⟨rfl, rfl⟩
  | v :: r, h => by
    obtain ⟨a1, a2⟩ := lay_w (h v List.mem_cons_self)
    obtain ⟨b1, b2⟩ := lay_ws fun u hu => h u (List.mem_cons_of_mem _ hu)
    constructor
    · show (PyData.canLay0 (pdV v) && PyData.canLayAll0 (r.map pdV)) = true
      rw [a1, b1]
      rfl
    · show max (PyData.depth (pdV v)) (PyData.depthAll (r.map pdV)) = 0
      rw [a2, b2]
      rfl
theorem lay_rows : ∀ {ts : List (List V)}, Ws ts → PyData.canLayAll0 (ts.map td) = true ∧ PyData.depthAll (ts.map td) ≤ 1
  | [], _ => ⟨rfl, by decide⟩
  | t :: r, h => by
    obtain ⟨a1, a2⟩ := lay_ws (h t List.mem_cons_self)
    obtain ⟨b1, b2⟩ := lay_rows fun u hu => h u (List.mem_cons_of_mem _ hu)
    constructor
    · show (PyData.canLayAll0 (t.map pdV) && PyData.canLayAll0 (r.map td)) = true
      rw [a1, b1]
      rfl
    · show max (PyData.depthAll (t.map pdV) + 1) (PyData.depthAll (r.map td)) ≤ 1
      omega
theorem sh_rows {ts : List (List V)} (h : Ws ts) : SeqAt.shaped (.list (ts.map td)) = true := by
  obtain ⟨h1, h2⟩ := lay_rows h
  show (PyData.canLayAll0 (ts.map td) && decide (PyData.depthAll (ts.map td) + 1 ≤ 64)) = true
  rw [h1, decide_eq_true (by omega)]
  rfl
/-- a list of tuples of these -/
def TT (H : Hp) (xs : List V) (ts : List (List V)) : Prop := xs.map (tupOf H) = ts.map some
theorem TT.len {H : Hp} {xs : List V} {ts : List (List V)} (h : TT H xs ts) : xs.length = ts.length := by
  have z := congrArg List.length h
  rw [List.length_map, List.length_map] at z
  exact z
theorem TT.at {H : Hp} {xs : List V} {ts : List (List V)} (h : TT H xs ts) {i : Nat} {v : V} (hv : xs[i]? = some v) : ∃ p t, v = .ref p ∧ H p = some (.tup t) ∧ ts[i]? = some t := by
  have z : (xs.map (tupOf H))[i]? = (ts.map some)[i]? := by rw [show xs.map (tupOf H) = ts.map some from h]
  rw [List.getElem?_map, hv, List.getElem?_map] at z
  cases e : ts[i]? with
  | none => rw [e] at z; cases z
  | some t =>
    rw [e] at z
    obtain ⟨a, rfl, ha⟩ := tupOf_ref (Option.some.inj z)
    exact ⟨a, t, rfl, ha, rfl⟩
theorem TT.mem {H : Hp} {xs : List V} {ts : List (List V)} (h : TT H xs ts) {v : V} (hv : v ∈ xs) : ∃ p t, v = .ref p ∧ H p = some (.tup t) ∧ t ∈ ts := by
  obtain ⟨i, hi, rfl⟩ := List.mem_iff_getElem.mp hv
  obtain ⟨p, t, h1, h2, h3⟩ := h.at (List.getElem?_eq_getElem hi)
  exact ⟨p, t, h1, h2, List.mem_of_getElem? h3⟩
theorem TT.tl {H H' : Hp} {xs : List V} {ts : List (List V)} (h : TT H xs ts) (k : TL H H') : TT H' xs ts := by
  have : xs.map (tupOf H') = xs.map (tupOf H) := List.map_congr_left fun v hv => by
    obtain ⟨p, t, rfl, h2, _⟩ := h.mem hv
    rw [tupOf_at h2, tupOf_at (k _ _ h2)]
  unfold TT at *
  rw [this, h]
theorem TT.nil {H : Hp} : TT H [] [] := rfl
theorem TT.one {H : Hp} {p : Addr} {t : List V} (h : H p = some (.tup t)) : TT H [.ref p] [t] := by
  show [tupOf H (.ref p)] = [some t]
  rw [tupOf_at h]
theorem TT.app {H : Hp} {xs ys : List V} {ts us : List (List V)} (h : TT H xs ts) (k : TT H ys us) : TT H (xs ++ ys) (ts ++ us) := by
  unfold TT at *
  rw [List.map_append, List.map_append, h, k]
theorem TT.dp {K : PySem.W.Frag} {H : Hp} : ∀ {xs : List V} {ts : List (List V)}, TT H xs ts → Ws ts → DpAll K H xs (ts.map td)
  | [], [], _, _ => .nil
  | [], _ :: _, h, _ => by cases h
  | _ :: _, [], h, _ => by cases h
  | v :: xs, t :: ts, h, w => by
    obtain ⟨h1, h2⟩ := List.cons.inj (show tupOf H v :: xs.map (tupOf H) = some t :: ts.map some from h)
    obtain ⟨p, rfl, hp⟩ := tupOf_ref h1
    exact .cons (.tup (SqT.of hp) (dp_ws (w t List.mem_cons_self))) (TT.dp (xs := xs) (ts := ts) h2 fun u hu => w u (List.mem_cons_of_mem _ hu))
theorem TT.seqs {H : Hp} {xs : List V} {ts : List (List V)} (h : TT H xs ts) : xs.map (seqOf H) = ts.map some := by
  have : xs.map (seqOf H) = xs.map (tupOf H) := List.map_congr_left fun v hv => by
    obtain ⟨p, t, rfl, h2, _⟩ := h.mem hv
    rw [seq_tup h2, tupOf_at h2]
  rw [this]
  exact h
/-- what comes of __init__'s copies -/
theorem tupd_tt {H H' : Hp} : ∀ {xs rs : List V} {ts : List (List V)}, Tupd H H' xs rs → xs.map (seqOf H) = ts.map some → TT H' rs ts
  | [], _, [], h, _ => by
    cases h
    rfl
  | [], _, _ :: _, _, e => by cases e
  | _ :: _, _, [], _, e => by cases e
  | x :: xs, _, t :: ts, h, e => by
    cases h with
    | cons h1 h2 =>
      obtain ⟨b, u, rfl, hb, hs⟩ := h1
      obtain ⟨e1, e2⟩ := List.cons.inj (show seqOf H x :: xs.map (seqOf H) = some t :: ts.map some from e)
      rw [hs] at e1
      rw [Option.some.inj e1] at hb
      show tupOf H' (.ref b) :: List.map (tupOf H') _ = some t :: ts.map some
      rw [tupOf_at hb, show List.map (tupOf H') _ = ts.map some from tupd_tt h2 e2]
/-- a house of the program -/
structure HObj (a l C : Addr) (H : Hp) (x : Addr) (n : Int) (rt dt : List (List V)) : Prop where
  na : x ≠ a
  nl : x ≠ l
  ex : ∃ dx p q rs ds, H x = some (.ins C dx [("_places", .int n), ("_roads", .ref p), ("_doors", .ref q)]) ∧ Ls a l H p rs ∧ Ls a l H q ds ∧ TT H rs rt ∧ TT H ds dt
theorem HObj.go {a l C : Addr} {H H' : Hp} {x : Addr} {n : Int} {rt dt : List (List V)} (h : HObj a l C H x n rt dt) (g : Go a l H H') : HObj a l C H' x n rt dt := by
  obtain ⟨dx, p, q, rs, ds, h1, h2, h3, h4, h5⟩ := h.ex
  exact ⟨h.na, h.nl, dx, p, q, rs, ds, g.k _ _ h.na h.nl h1, h2.go g, h3.go g, h4.tl g.t, h5.tl g.t⟩
end K01

set_option Elab.async false
set_option linter.all false
set_option maxRecDepth 100000
set_option maxHeartbeats 4000000
namespace K01
open PySem PySem.Spec PyProof.Rows L2 Own
/-- what is known of the class House -/
structure HK (K : PySem.W.Frag) (C : Addr) : Prop where
  hc : HC K C
  ha : PySem.W.findIn K (.ref C) "__class__" = some (some (.builtin "object.__class__"))
  hn : PySem.W.specialIn K (.builtin "object.__class__") "__get__" = some (some (.builtin "getset_descriptor.__get__"))
  ht : PySem.W.takesIn K (.builtin "object.__class__") = some true
  hm : PySem.W.mroIn K C (.type "object") = some true
  kT : ∀ T : String, T ∈ ["NoneType", "bool", "int", "str", "list", "tuple", "dict"] → PySem.W.kitOne K (.type T) (.ref C) = some false
theorem shp_typ {K : PySem.W.Frag} {H : Hp} {v : V} (h : Shp H v) : ∃ T : String, T ∈ ["NoneType", "bool", "int", "str", "list", "tuple", "dict"] ∧ TyX K H v (.type T) := by
  rcases h with h | ⟨a, xs, rfl, h⟩ | ⟨a, xs, rfl, h⟩ | ⟨a, xs, rfl, h⟩
  · cases v with
    | non => exact ⟨"NoneType", by decide, .base .non⟩
    | bl b => exact ⟨"bool", by decide, .base (.bl b)⟩
    | int i => exact ⟨"int", by decide, .base (.int i)⟩
    | str z => exact ⟨"str", by decide, .base (.str z)⟩
    | _ => cases h
  · exact ⟨"list", by decide, .base (.lst h)⟩
  · exact ⟨"tuple", by decide, .base (.tup h)⟩
  · exact ⟨"dict", by decide, .base (.dK h)⟩
theorem HK.ty {K : PySem.W.Frag} {a l C : Addr} {H : Hp} {x : Addr} {n : Int} {rt dt : List (List V)} (k : HK K C) (h : HObj a l C H x n rt dt) : TyX K H (.ref x) (.ref C) := by
  obtain ⟨dx, p, q, rs, ds, h1, _⟩ := h.ex
  exact .base (.ins h1 k.hc.cl k.ha k.hn k.ht k.hm)
def spPl (C : Addr) : Sp := fun vs H Q _ => ∃ (a l x : Addr) (n : Int) (rt dt : List (List V)), vs = [.ref x] ∧ HObj a l C H x n rt dt ∧ Q (.int n) H
def spRd (C : Addr) (d : Bool) : Sp := fun vs H Q _ => ∃ (a l x : Addr) (n : Int) (rt dt : List (List V)), vs = [.ref x] ∧ HObj a l C H x n rt dt ∧
  ∀ H' q rs, Same H H' → H q = none → H' q = some (.lst rs) → TT H' rs (if d = true then dt else rt) → Q (.ref q) H'
def spEqH (C : Addr) : Sp := fun vs H Q _ => ∃ (a l x : Addr) (y : V) (n : Int) (rt dt : List (List V)), vs = [.ref x, y] ∧ HObj a l C H x n rt dt ∧ Ws rt ∧ Ws dt ∧
  ((∃ (x' : Addr) (n' : Int) (rt' dt' : List (List V)), y = .ref x' ∧ HObj a l C H x' n' rt' dt' ∧ Ws rt' ∧ Ws dt' ∧ ∀ H', Same H H' → Q (.bl (decide (n = n' ∧ rt = rt' ∧ dt = dt'))) H') ∨ (Shp H y ∧ ∀ H', Same H H' → Q (.bl false) H'))
theorem scPl : FnScope ["self"] ["self"] (defScope sPlaces) := ⟨rfl, rfl, rfl, by decide +kernel, rfl, by decide +kernel, by decide +kernel⟩
theorem scRo : FnScope ["self"] ["self"] (defScope sRoads) := ⟨rfl, rfl, rfl, by decide +kernel, rfl, by decide +kernel, by decide +kernel⟩
theorem scDo : FnScope ["self"] ["self"] (defScope sDoors) := ⟨rfl, rfl, rfl, by decide +kernel, rfl, by decide +kernel, by decide +kernel⟩
theorem scHEq : FnScope ["self", "other"] ["self", "other"] (defScope sHEq) := ⟨rfl, rfl, rfl, by decide +kernel, rfl, by decide +kernel, by decide +kernel⟩
section
variable {P : Program} {w : World} {K : PySem.W.Frag} {mg : Str → Option Value} {base : Heap} {C : Addr}
theorem ok_places {f : Addr} {fd : FuncData} (F : Fun K "places" "House.places" sPlaces f fd) (k : HK K C) : FnOk P w K mg base CX0 1 f fd ["self"] (spPl C) := by
  refine F.ok scPl (fun vs H Q E h => ?_) (fun cdv A outer s H vs Q E hr h => ?_)
  · obtain ⟨a, l, x, n, rt, dt, rfl, _⟩ := h
    rfl
  · obtain ⟨a, l, x, n, rt, dt, rfl, h, q⟩ := h
    obtain ⟨dx, p, p2, rs, ds, h1, _⟩ := h.ex
    refine ⟨_, pss_one (ps_ret (pe_fld (pv 0) rfl)), ?_⟩
    exact ⟨_, rfl, x, C, dx, _, _, rfl, h1, k.hc.cl, k.hc.nP, rfl, q⟩
theorem ok_roads {f : Addr} {fd : FuncData} (F : Fun K "roads" "House.roads" sRoads f fd) (T : Bt mg) (k : HK K C) : FnOk P w K mg base CX0 1 f fd ["self"] (spRd C false) := by
  refine F.ok scRo (fun vs H Q E h => ?_) (fun cdv A outer s H vs Q E hr h => ?_)
  · obtain ⟨a, l, x, n, rt, dt, rfl, _⟩ := h
    rfl
  · obtain ⟨a, l, x, n, rt, dt, rfl, h, q⟩ := h
    obtain ⟨dx, p, p2, rs, ds, h1, h2, h3, h4, h5⟩ := h.ex
    refine ⟨_, pss_one (ps_ret (pe_callTy call_list_of (by rfl) T.list (by decide +kernel) (pa_cons (pe_fld (pv 0) rfl) pa_nil))), ?_⟩
    refine ⟨_, rfl, x, C, dx, _, _, rfl, h1, k.hc.cl, k.hc.nR, rfl, p, rs, rfl, .inl (SqL.of h2.h), fun q2 hq => ?_⟩
    exact q _ q2 rs (same_new hq) hq upd_same (h4.tl (TL.new hq))
theorem ok_doors {f : Addr} {fd : FuncData} (F : Fun K "doors" "House.doors" sDoors f fd) (T : Bt mg) (k : HK K C) : FnOk P w K mg base CX0 1 f fd ["self"] (spRd C true) := by
  refine F.ok scDo (fun vs H Q E h => ?_) (fun cdv A outer s H vs Q E hr h => ?_)
  · obtain ⟨a, l, x, n, rt, dt, rfl, _⟩ := h
    rfl
  · obtain ⟨a, l, x, n, rt, dt, rfl, h, q⟩ := h
    obtain ⟨dx, p, p2, rs, ds, h1, h2, h3, h4, h5⟩ := h.ex
    refine ⟨_, pss_one (ps_ret (pe_callTy call_list_of (by rfl) T.list (by decide +kernel) (pa_cons (pe_fld (pv 0) rfl) pa_nil))), ?_⟩
    refine ⟨_, rfl, x, C, dx, _, _, rfl, h1, k.hc.cl, k.hc.nD, rfl, p2, ds, rfl, .inl (SqL.of h3.h), fun q2 hq => ?_⟩
    exact q _ q2 ds (same_new hq) hq upd_same (h5.tl (TL.new hq))
theorem ok_heq {f : Addr} {fd : FuncData} (F : Fun K "__eq__" "House.__eq__" sHEq f fd) (T : Bt mg) (gC : mg "House" = some (.ref C)) (k : HK K C) : FnOk P w K mg base CX0 1 f fd ["self", "other"] (spEqH C) := by
  refine F.ok scHEq (fun vs H Q E h => ?_) (fun cdv A outer s H vs Q E hr h => ?_)
  · obtain ⟨a, l, x, y, n, rt, dt, rfl, _⟩ := h
    rfl
  · obtain ⟨a, l, x, y, n, rt, dt, rfl, h, w1, w2, hc⟩ := h
    obtain ⟨dx, p, p2, rs, ds, h1, h2, h3, h4, h5⟩ := h.ex
    refine ⟨_, pss_one (ps_ret (pe_and (pe_callB call_isi (by rfl) T.isi (by decide +kernel) (pa_cons (pv 1) (pa_cons (pe_glob (v := .ref C) (by rfl) gC rfl) pa_nil)))
      (pe_and (pe_cmpR op_eq (pe_fld (pv 0) rfl) (pe_fld (pv 1) rfl) (nomark _)) (pe_and (pe_cmpR (op_eqD hr.units) (pe_fld (pv 0) rfl) (pe_fld (pv 1) rfl) (nomark _)) (pe_one (pe_cmpR (op_eqD hr.units) (pe_fld (pv 0) rfl) (pe_fld (pv 1) rfl) (nomark _))))))), ?_⟩
    rcases hc with ⟨x', n', rt', dt', rfl, h', w1', w2', q⟩ | ⟨sh, q⟩
    · obtain ⟨dx', p', p2', rs', ds', h1', h2', h3', h4', h5'⟩ := h'.ex
      refine ⟨_, rfl, _, _, _, _, true, rfl, .own C, k.ty h', ?_, _, rfl, iteT ?_⟩
      · unfold PySem.W.kitOne
        rw [if_pos (by simp)]
      refine ⟨_, rfl, x, C, dx, _, _, rfl, h1, k.hc.cl, k.hc.nP, rfl, _, rfl, x', C, dx', _, _, rfl, h1', k.hc.cl, k.hc.nP, rfl, rfl, _, rfl, ?_⟩
      by_cases e1 : n = n'
      · subst e1
        rw [decide_eq_true rfl]
        refine iteT ?_
        refine ⟨_, rfl, x, C, dx, _, _, rfl, h1, k.hc.cl, k.hc.nR, rfl, _, rfl, x', C, dx', _, _, rfl, h1', k.hc.cl, k.hc.nR, rfl, _, _, .lst (SqL.of h2.h) (h4.dp w1), .lst (SqL.of h2'.h) (h4'.dp w1'), sh_rows w1, sh_rows w1', _, rfl, ?_⟩
        rw [show PyData.eqv (.list (rt.map td)) (.list (rt'.map td)) = decide (rt = rt') from eqv_rows w1 w1']
        by_cases e2 : rt = rt'
        · subst e2
          rw [decide_eq_true rfl]
          refine iteT ?_
          refine ⟨_, rfl, x, C, dx, _, _, rfl, h1, k.hc.cl, k.hc.nD, rfl, _, rfl, x', C, dx', _, _, rfl, h1', k.hc.cl, k.hc.nD, rfl, _, _, .lst (SqL.of h3.h) (h5.dp w2), .lst (SqL.of h3'.h) (h5'.dp w2'), sh_rows w2, sh_rows w2', ?_⟩
          rw [show PyData.eqv (.list (dt.map td)) (.list (dt'.map td)) = decide (dt = dt') from eqv_rows w2 w2']
          have z := q _ (Same.refl H)
          simp only [true_and] at z
          exact z
        · rw [decide_eq_false e2]
          refine iteF ?_
          have z := q _ (Same.refl H)
          rw [decide_eq_false (fun y => e2 y.2.1)] at z
          exact z
      · rw [decide_eq_false (fun y => e1 (V.int.inj y))]
        refine iteF ?_
        have z := q _ (Same.refl H)
        rw [decide_eq_false (fun y => e1 y.1)] at z
        exact z
    · obtain ⟨Ty, hT, ty⟩ := shp_typ (K := K) sh
      exact ⟨_, rfl, _, _, _, _, false, rfl, .own C, ty, k.kT Ty hT, _, rfl, iteF (q _ (Same.refl H))⟩
end
end K01

set_option Elab.async false
set_option linter.all false
set_option maxRecDepth 100000
set_option maxHeartbeats 4000000
namespace K01
open PySem PySem.Spec PyProof.Rows L2 Own
abbrev NLoose : List Str := ["_law_stream_here", "_law_thing", "_law_some", "_law_one"]
theorem scLoose : FnScope NLoose ["_law_stream_here", "_law_thing"] (defScope sLoose) := ⟨rfl, rfl, rfl, by decide +kernel, rfl, by decide +kernel, by decide +kernel⟩
/-- a list or a tuple of these, the def's own -/
def RowA (a l : Addr) (H : Hp) (v : V) (t : List V) : Prop := ∃ p, v = .ref p ∧ p ≠ a ∧ p ≠ l ∧ Sqs H p t
theorem RowA.go {a l : Addr} {H H' : Hp} {v : V} {t : List V} (h : RowA a l H v t) (g : Go a l H H') : RowA a l H' v t := by
  obtain ⟨p, rfl, h1, h2, h3⟩ := h
  exact ⟨p, rfl, h1, h2, h3.imp (fun z => g.k _ _ h1 h2 z) fun z => g.k _ _ h1 h2 z⟩
def RowsA (a l : Addr) (H : Hp) (v : V) (ts : List (List V)) : Prop := ∃ p xs, v = .ref p ∧ p ≠ a ∧ p ≠ l ∧ Sqs H p xs ∧ Paired (RowA a l H) xs ts
theorem pair_imp {α β : Type} {F G : α → β → Prop} : ∀ {xs : List α} {ys : List β}, Paired F xs ys → (∀ a b, F a b → G a b) → Paired G xs ys
  | _, _, .nil, _ => .nil
  | _, _, .cons h t, k => .cons (k _ _ h) (pair_imp t k)
theorem RowsA.go {a l : Addr} {H H' : Hp} {v : V} {ts : List (List V)} (h : RowsA a l H v ts) (g : Go a l H H') : RowsA a l H' v ts := by
  obtain ⟨p, xs, rfl, h1, h2, h3, h4⟩ := h
  exact ⟨p, xs, rfl, h1, h2, h3.imp (fun z => g.k _ _ h1 h2 z) fun z => g.k _ _ h1 h2 z, pair_imp h4 fun _ _ r => r.go g⟩
theorem pair_at {α β : Type} {F : α → β → Prop} : ∀ {xs : List α} {ys : List β} {i : Nat} {x : α}, Paired F xs ys → xs[i]? = some x → ∃ y, ys[i]? = some y ∧ F x y
  | _, _, _, _, .nil, h => by cases h
  | _, _, 0, _, .cons h t, e => by
    obtain rfl := Option.some.inj e
    exact ⟨_, rfl, h⟩
  | _, _, i + 1, _, .cons h t, e => pair_at (i := i) t e
theorem pair_len {α β : Type} {F : α → β → Prop} : ∀ {xs : List α} {ys : List β}, Paired F xs ys → xs.length = ys.length
  | _, _, .nil => rfl
  | _, _, .cons _ t => congrArg (· + 1) (pair_len t)
theorem rows_seq {a l : Addr} {H : Hp} : ∀ {xs : List V} {ts : List (List V)}, Paired (RowA a l H) xs ts → xs.map (seqOf H) = ts.map some
  | _, _, .nil => rfl
  | _, _, .cons h t => by
    obtain ⟨p, rfl, _, _, hp⟩ := h
    show seqOf H (.ref p) :: List.map (seqOf H) _ = some _ :: List.map some _
    rw [hp.seq, rows_seq t]
/-- a comprehension over either, of what none but the stream changes -/
theorem walk_or' {K : PySem.W.Frag} {te : TE} {σ : L2.St} {H : Hp} {a l p : Addr} {xs : List V} (n1 : p ≠ a) (n2 : p ≠ l) (hs : Sqs H p xs) {R : It → Hp → Prop} (hte : ∀ S : VK, S (.ref p) H → te σ H S)
    (h : ∀ (J : It) (G : Hp → Prop), Walk J xs.length G (YAt xs) → (∀ H', Go a l H H' → G H') → R J H) : iList K te σ H R ∨ iTup K te σ H R := by
  rcases hs with hs | hs
  · exact .inl (hte _ ⟨p, rfl, ⟨_, SqL.of hs⟩, h (Itl K p) _ walk_list fun H' k => SqL.of (k.k _ _ n1 n2 hs)⟩)
  · exact .inr (hte _ ⟨p, rfl, ⟨_, SqT.of hs⟩, h (Itt K p) _ walk_tup fun H' k => SqT.of (k.k _ _ n1 n2 hs)⟩)
def spLo0 : Sp := fun vs H Q _ => ∃ (a : Addr) (v : V), vs = [.ref a, v] ∧ isW v = true ∧ ∀ H', Same H H' → Q v H'
def spLo1 : Sp := fun vs H Q _ => ∃ (a l : Addr) (N : Int) (v : V) (t : List V), vs = [.ref a, v] ∧ Strm N H a l ∧ 0 ≤ N ∧ N + 1 ≤ 1000000000 ∧ RowA a l H v t ∧ (∀ x ∈ t, isW x = true) ∧ t.length ≤ 20 ∧
  ∀ H' b, Go a l H H' → H b = none → b ≠ a → b ≠ l → Sqs H' b t → Strm (N + 1) H' a l → Q (.ref b) H'
theorem Go.fresh {a l p : Addr} {H H' : Hp} (g : Go a l H H') (h : H' p = none) (h1 : p ≠ a) (h2 : p ≠ l) : H p = none := by
  cases e : H p with
  | none => rfl
  | some o =>
    rw [g.k _ _ h1 h2 e] at h
    cases h
def spLo2 : Sp := fun vs H Q _ => ∃ (a l : Addr) (N : Int) (v : V) (ts : List (List V)), vs = [.ref a, v] ∧ Strm N H a l ∧ 0 ≤ N ∧ N + 100 ≤ 1000000000 ∧ RowsA a l H v ts ∧ Ws ts ∧ (∀ t ∈ ts, t.length ≤ 20) ∧ ts.length ≤ 50 ∧
  ∀ H' v', Go a l H H' → RowsA a l H' v' ts → Strm (N + 100) H' a l → Q v' H'
section
variable {P : Program} {w : World} {K : PySem.W.Frag} {mg : Str → Option Value} {base : Heap} {f fD : Addr} {fd fdD : FuncData}
theorem ok_lo0 (F : Fun K "_law_loose" "_law_loose" sLoose f fd) (T : Bt mg) (FD : Fun K "_law_draw" "_law_draw" sDraw fD fdD) (gD : mg "_law_draw" = some (.ref fD)) (bD : Binds K fdD ["_law_stream_here", "_law_many"] [])
    (gL : mg "_law_loose" = some (.ref f)) (bL : Binds K fd ["_law_stream_here", "_law_thing"] []) : FnOk P w K mg base CX0 2 f fd ["_law_stream_here", "_law_thing"] spLo0 := by
  have GD : FnOk P w K mg base CX0 1 fD fdD ["_law_stream_here", "_law_many"] spDraw := ok_draw FD T
  have GL : FnOk P w K mg base CX0 0 f fd ["_law_stream_here", "_law_thing"] (fun _ _ _ _ => False) := ⟨fun _ _ _ _ z => z.elim, fun _ _ _ _ _ _ _ _ _ _ _ _ _ z => z.elim⟩
  refine F.ok scLoose (fun vs H Q E h => ?_) (fun cdv A outer s H vs Q E hr h => ?_)
  · obtain ⟨a, v, rfl, _⟩ := h
    rfl
  · obtain ⟨a, v, rfl, hv, k⟩ := h
    refine ⟨_, (pss_cons (ps_if (pt_val (pe_callB call_isiT (by rfl) T.isi (by decide +kernel) (pa_cons (pv 1) (pa_cons (pe_tup (pa_cons (pe_bltn (v := .ty "list") (by rfl) T.list (by decide +kernel) rfl) (pa_cons (pe_bltn (v := .ty "tuple") (by rfl) T.tuple (by decide +kernel) rfl) pa_nil))) pa_nil)))) (pss_cons (ps_setLc (i := 2) (own := [("_law_one", 3)]) (g := gName 3) (tt := tYes) (by rfl) scLoose.nd rfl rfl (sw_true rfl rfl rfl (by decide +kernel)) (pi_or (pi_list (pv 1)) (pi_tup (pv 1))) (blkOk_by (N := NLoose) (sc := defScope sLoose) (by decide +kernel)) (fun _ _ _ _ _ => pg_name (i := 3) (x := "_law_one") scLoose.nd rfl (Or.inl rfl)) (fun _ _ _ _ _ => pts_nil) (fun _ _ _ _ _ => (pe_call GL (hr.mono (by decide)) (by rfl) gL F.kp bL .nil pass0 (pa_cons (pv 0) (pa_cons (pv 3) pa_nil))))) (pss_one (ps_ret (pe_ifExp (pt_cmpR op_eq (pe_call GD (hr.mono (by decide)) (by rfl) gD FD.kp bD .nil pass0 (pa_cons (pv 0) (pa_cons pe_int pa_nil))) pe_int (nomark _)) (pv 2) (pe_tupK (K := K) rfl (by rfl) T.tuple (pv 2)))))) pss_nil) (pss_one (ps_ret (pv 1)))), ?_⟩
    have sh : Shp H v := .inl (isW_atom hv)
    obtain ⟨Ty, i, b, li, ti, si, ty, ki, kb, kl, kt, ks, e1, e2, _⟩ := shp_ty (K := K) sh
    refine ⟨_, rfl, (by show 2 ≤ sizeLine; decide), fun tp htp => ?_⟩
    have e3 := same_new (o := HO.tup [V.ty "list", V.ty "tuple"]) htp
    refine ⟨_, tp, _, _, _, li || ti, rfl, upd_same, .cons (.ty _) (.cons (.ty _) .nil), (ty.grow e3).now, kit2 kl kt rfl, _, rfl, ?_⟩
    have z : (seqOf H v).isSome = false := by
      rw [seq_atom (isW_atom hv)]
      rfl
    rw [← e2, z]
    exact iteF ⟨_, rfl, k _ e3⟩
theorem ok_lo1 (F : Fun K "_law_loose" "_law_loose" sLoose f fd) (T : Bt mg) (FD : Fun K "_law_draw" "_law_draw" sDraw fD fdD) (gD : mg "_law_draw" = some (.ref fD)) (bD : Binds K fdD ["_law_stream_here", "_law_many"] [])
    (gL : mg "_law_loose" = some (.ref f)) (bL : Binds K fd ["_law_stream_here", "_law_thing"] []) : FnOk P w K mg base CX0 3 f fd ["_law_stream_here", "_law_thing"] spLo1 := by
  have GD : FnOk P w K mg base CX0 1 fD fdD ["_law_stream_here", "_law_many"] spDraw := ok_draw FD T
  have GL : FnOk P w K mg base CX0 2 f fd ["_law_stream_here", "_law_thing"] spLo0 := ok_lo0 F T FD gD bD gL bL
  refine F.ok scLoose (fun vs H Q E h => ?_) (fun cdv A outer s H vs Q E hr h => ?_)
  · obtain ⟨a, l, N, v, t, rfl, _⟩ := h
    rfl
  · obtain ⟨a, l, N, v, t, rfl, S, hN0, hN1, ⟨p, rfl, np1, np2, hp⟩, hw, ht, k⟩ := h
    refine ⟨_, (pss_cons (ps_if (pt_val (pe_callB call_isiT (by rfl) T.isi (by decide +kernel) (pa_cons (pv 1) (pa_cons (pe_tup (pa_cons (pe_bltn (v := .ty "list") (by rfl) T.list (by decide +kernel) rfl) (pa_cons (pe_bltn (v := .ty "tuple") (by rfl) T.tuple (by decide +kernel) rfl) pa_nil))) pa_nil)))) (pss_cons (ps_setLc (i := 2) (own := [("_law_one", 3)]) (g := gName 3) (tt := tYes) (by rfl) scLoose.nd rfl rfl (sw_true rfl rfl rfl (by decide +kernel)) (pi_or (pi_list (pv 1)) (pi_tup (pv 1))) (blkOk_by (N := NLoose) (sc := defScope sLoose) (by decide +kernel)) (fun _ _ _ _ _ => pg_name (i := 3) (x := "_law_one") scLoose.nd rfl (Or.inl rfl)) (fun _ _ _ _ _ => pts_nil) (fun _ _ _ _ _ => (pe_call GL (hr.mono (by decide)) (by rfl) gL F.kp bL .nil pass0 (pa_cons (pv 0) (pa_cons (pv 3) pa_nil))))) (pss_one (ps_ret (pe_ifExp (pt_cmpR op_eq (pe_call GD (hr.mono (by decide)) (by rfl) gD FD.kp bD .nil pass0 (pa_cons (pv 0) (pa_cons pe_int pa_nil))) pe_int (nomark _)) (pv 2) (pe_tupK (K := K) rfl (by rfl) T.tuple (pv 2)))))) pss_nil) (pss_one (ps_ret (pv 1)))), ?_⟩
    obtain ⟨Ty, i, b, li, ti, si, ty, ki, kb, kl, kt, ks, e1, e2, _⟩ := shp_ty (K := K) hp.shp
    refine ⟨_, rfl, (by show 2 ≤ sizeLine; decide), fun tp htp => ?_⟩
    have e3 := same_new (o := HO.tup [V.ty "list", V.ty "tuple"]) htp
    refine ⟨_, tp, _, _, _, li || ti, rfl, upd_same, .cons (.ty _) (.cons (.ty _) .nil), (ty.grow e3).now, kit2 kl kt rfl, _, rfl, ?_⟩
    rw [← e2, hp.seq]
    refine iteT ?_
    have S1 := S.but e3
    generalize upd H tp (.tup [V.ty "list", V.ty "tuple"]) = H1 at e3 S1 ⊢
    clear htp
    refine walk_or (K := K) (hp.same e3) (Same.refl H1) (fun S q => ⟨_, rfl, q⟩) fun J G wk hG => fun D hD => ?_
    refine lc_it wk (fun i H' => Same H1 H' ∧ H' D = some (.lst (t.take i))) ⟨same_new hD, upd_same⟩ (fun i H' _ q => hG _ q.1) ?_ ?_
    · rintro i x H3 H4 hi ⟨q1, q2⟩ ⟨rfl, hx⟩
      refine ⟨rfl, _, rfl, _, rfl, a, x, rfl, hw x (List.mem_of_getElem? hx), fun H5 e5 => ?_⟩
      refine ⟨_, e5 _ _ q2, ?_, fun b o g => ?_, ?_⟩
      · rw [List.length_take]
        exact Nat.lt_of_le_of_lt (Nat.min_le_right _ _) (Nat.lt_of_le_of_lt ht (by decide))
      · rw [upd_ne (ne_of_none g hD)]
        exact e5 _ _ (q1 _ _ g)
      · rw [upd_same, List.take_add_one, hx]
        rfl
    · rintro H3 ⟨q1, q2⟩
      rw [List.take_of_length_le (Nat.le_refl _)] at q2
      have S3 := S1.but q1
      have nD := S1.ne_new hD
      have g3 : Go a l H H3 := (Go.same e3).trans (.same q1)
      refine ⟨_, rfl, a, l, N, 2, rfl, S3, hN0, by omega, by decide, by decide, fun H4 d d0 d1 b4 S4 => ⟨rfl, _, rfl, ite2 (fun hc => ?_) (fun hc => ?_)⟩⟩
      · have g4 := g3.trans (.but S3 b4)
        exact ⟨_, rfl, k _ _ g4 ((Go.same (a := a) (l := l) e3).fresh hD nD.1 nD.2) nD.1 nD.2 (.inl (b4 _ _ nD.1 nD.2 q2)) S4⟩
      · have g4 := g3.trans (.but S3 b4)
        refine ⟨_, rfl, .inl ⟨D, t, rfl, SqL.of (b4 _ _ nD.1 nD.2 q2), fun q hq => ?_⟩⟩
        have nq := S4.ne_new hq
        exact k _ _ (g4.trans (.same (same_new hq))) (g4.fresh hq nq.1 nq.2) nq.1 nq.2 (.inr upd_same) (S4.but (same_new hq))
theorem ok_lo2 (F : Fun K "_law_loose" "_law_loose" sLoose f fd) (T : Bt mg) (FD : Fun K "_law_draw" "_law_draw" sDraw fD fdD) (gD : mg "_law_draw" = some (.ref fD)) (bD : Binds K fdD ["_law_stream_here", "_law_many"] [])
    (gL : mg "_law_loose" = some (.ref f)) (bL : Binds K fd ["_law_stream_here", "_law_thing"] []) : FnOk P w K mg base CX0 4 f fd ["_law_stream_here", "_law_thing"] spLo2 := by
  have GD : FnOk P w K mg base CX0 1 fD fdD ["_law_stream_here", "_law_many"] spDraw := ok_draw FD T
  have GL : FnOk P w K mg base CX0 3 f fd ["_law_stream_here", "_law_thing"] spLo1 := ok_lo1 F T FD gD bD gL bL
  refine F.ok scLoose (fun vs H Q E h => ?_) (fun cdv A outer s H vs Q E hr h => ?_)
  · obtain ⟨a, l, N, v, ts, rfl, _⟩ := h
    rfl
  · obtain ⟨a, l, N, v, ts, rfl, S, hN0, hN1, ⟨p, xs, rfl, np1, np2, hp, hr2⟩, hw, hl, ht, k⟩ := h
    refine ⟨_, (pss_cons (ps_if (pt_val (pe_callB call_isiT (by rfl) T.isi (by decide +kernel) (pa_cons (pv 1) (pa_cons (pe_tup (pa_cons (pe_bltn (v := .ty "list") (by rfl) T.list (by decide +kernel) rfl) (pa_cons (pe_bltn (v := .ty "tuple") (by rfl) T.tuple (by decide +kernel) rfl) pa_nil))) pa_nil)))) (pss_cons (ps_setLc (i := 2) (own := [("_law_one", 3)]) (g := gName 3) (tt := tYes) (by rfl) scLoose.nd rfl rfl (sw_true rfl rfl rfl (by decide +kernel)) (pi_or (pi_list (pv 1)) (pi_tup (pv 1))) (blkOk_by (N := NLoose) (sc := defScope sLoose) (by decide +kernel)) (fun _ _ _ _ _ => pg_name (i := 3) (x := "_law_one") scLoose.nd rfl (Or.inl rfl)) (fun _ _ _ _ _ => pts_nil) (fun _ _ _ _ _ => (pe_call GL (hr.mono (by decide)) (by rfl) gL F.kp bL .nil pass0 (pa_cons (pv 0) (pa_cons (pv 3) pa_nil))))) (pss_one (ps_ret (pe_ifExp (pt_cmpR op_eq (pe_call GD (hr.mono (by decide)) (by rfl) gD FD.kp bD .nil pass0 (pa_cons (pv 0) (pa_cons pe_int pa_nil))) pe_int (nomark _)) (pv 2) (pe_tupK (K := K) rfl (by rfl) T.tuple (pv 2)))))) pss_nil) (pss_one (ps_ret (pv 1)))), ?_⟩
    obtain ⟨Ty, i, b, li, ti, si, ty, ki, kb, kl, kt, ks, e1, e2, _⟩ := shp_ty (K := K) hp.shp
    refine ⟨_, rfl, (by show 2 ≤ sizeLine; decide), fun tp htp => ?_⟩
    have e3 := same_new (o := HO.tup [V.ty "list", V.ty "tuple"]) htp
    refine ⟨_, tp, _, _, _, li || ti, rfl, upd_same, .cons (.ty _) (.cons (.ty _) .nil), (ty.grow e3).now, kit2 kl kt rfl, _, rfl, ?_⟩
    rw [← e2, hp.seq]
    refine iteT ?_
    have S1 := S.but e3
    generalize upd H tp (.tup [V.ty "list", V.ty "tuple"]) = H1 at e3 S1 ⊢
    clear htp
    have lx : xs.length = ts.length := pair_len hr2
    have np : ∀ {b : Addr} {xs : List V}, Sqs H1 b xs → ∃ o, H1 b = some o := fun h => h.elim (fun z => ⟨_, z⟩) fun z => ⟨_, z⟩
    have hp1 := hp.same e3
    have hr1 : Paired (RowA a l H1) xs ts := pair_imp hr2 fun _ _ r => r.go (.same e3)
    clear hr2 hp
    -- the list walked over stands still: it is none of the stream's
    refine walk_or' (K := K) np1 np2 hp1 (fun S q => ⟨_, rfl, q⟩) fun J G wk hG => fun D hD => ?_
    have nD := S1.ne_new hD
    refine lc_it wk (fun i H' => Go a l H1 H' ∧ Strm (N + i) H' a l ∧ ∃ acc, H' D = some (.lst acc) ∧ Paired (fun v t => ∃ p, v = V.ref p ∧ p ≠ a ∧ p ≠ l ∧ p ≠ D ∧ Sqs H' p t) acc (ts.take i)) ⟨.same (same_new hD), by simpa using S1.but (same_new hD), [], upd_same, .nil⟩ (fun i H' _ q => hG _ q.1) ?_ ?_
    · rintro i x H3 H4 hi ⟨g3, S3, acc, a3, r3⟩ ⟨rfl, hx⟩
      obtain ⟨t, hti, hrow⟩ := pair_at hr1 hx
      have htm := List.mem_of_getElem? hti
      refine ⟨rfl, _, rfl, _, rfl, a, l, _, x, t, rfl, S3, by omega, by omega, hrow.go g3, hw t htm, hl t htm, fun H5 b g5 fb nb1 nb2 hb S5 => ?_⟩
      have la : acc.length ≤ 50 := by
        rw [pair_len r3, List.length_take]
        omega
      have a5 := g5.k _ _ nD.1 nD.2 a3
      have nbD : b ≠ D := fun z => by
        rw [z, a3] at fb
        cases fb
      have up : ∀ {p : Addr} {t : List V}, p ≠ D → Sqs H5 p t → Sqs (upd H5 D (.lst (acc ++ [.ref b]))) p t := fun n h => h.imp (fun z => by rw [upd_ne n]; exact z) fun z => by rw [upd_ne n]; exact z
      refine ⟨acc, a5, Nat.lt_of_le_of_lt la (by decide), (g3.trans g5).set hD, ?_, _, upd_same, ?_⟩
      · have z : N + ((i + 1 : Nat) : Int) = N + i + 1 := by omega
        rw [z]
        exact S5.upd nD.1 nD.2
      · rw [List.take_add_one, hti]
        refine Paired.snoc (pair_imp r3 fun v t ⟨p, e, m1, m2, m3, m4⟩ => ⟨p, e, m1, m2, m3, up m3 (m4.imp (fun z => g5.k _ _ m1 m2 z) fun z => g5.k _ _ m1 m2 z)⟩) ⟨b, rfl, nb1, nb2, nbD, up nbD hb⟩
    · rintro H3 ⟨g3, S3, acc, a3, r3⟩
      rw [lx, List.take_length] at r3
      rw [lx] at S3
      refine ⟨_, rfl, a, l, _, 2, rfl, S3, by omega, by omega, by decide, by decide, fun H4 d d0 d1 b4 S4 => ⟨rfl, _, rfl, ite2 (fun hc => ?_) (fun hc => ?_)⟩⟩
      · have g4 := ((Go.same e3).trans g3).trans (.but S3 b4)
        have r4 : Paired (RowA a l H4) acc ts := pair_imp r3 fun v t ⟨p, e, m1, m2, _, m4⟩ => ⟨p, e, m1, m2, m4.imp (fun z => b4 _ _ m1 m2 z) fun z => b4 _ _ m1 m2 z⟩
        exact ⟨_, rfl, k _ _ g4 ⟨D, acc, rfl, nD.1, nD.2, .inl (b4 _ _ nD.1 nD.2 a3), r4⟩ (S4.mono (by omega))⟩
      · have g4 := ((Go.same e3).trans g3).trans (.but S3 b4)
        have r4 : Paired (RowA a l H4) acc ts := pair_imp r3 fun v t ⟨p, e, m1, m2, _, m4⟩ => ⟨p, e, m1, m2, m4.imp (fun z => b4 _ _ m1 m2 z) fun z => b4 _ _ m1 m2 z⟩
        refine ⟨_, rfl, .inl ⟨D, acc, rfl, SqL.of (b4 _ _ nD.1 nD.2 a3), fun q hq => ?_⟩⟩
        have nq := S4.ne_new hq
        have s5 := same_new (o := .tup acc) hq
        exact k _ _ (g4.trans (.same s5)) ⟨q, acc, rfl, nq.1, nq.2, .inr upd_same, pair_imp r4 fun _ _ r => r.go (.same s5)⟩ ((S4.but s5).mono (by omega))
end
end K01

set_option Elab.async false
set_option linter.all false
set_option maxRecDepth 100000
set_option maxHeartbeats 4000000
namespace K01
open PySem PySem.Spec PyProof.Rows L2 Own
/-! ### houses as the law holds them -/
/-- good places, roads and doors -/
structure GoodT (n : Int) (rt dt : List (List V)) : Prop where
  n1 : 1 ≤ n
  r : ∀ j, j < (rt.map some).length → ¬ BadAt n (rt.map some) j
  d : ∀ j, j < (dt.map some).length → ¬ BadD n (dt.map some) j
  lr : rt.length ≤ 50
  ld : dt.length ≤ 50
theorem isIO_w {s : Str} (h : isIO (.str s) = true) : isW (.str s) = true := by
  have h' : inV (.str s) [.str "in", .str "out"] = true := h
  simp only [inV, List.any_cons, List.any_nil, Bool.or_false] at h'
  show (decide (s = "in") || decide (s = "out")) = true
  rcases Bool.or_eq_true_iff.mp h' with z | z
  · have e : s = "in" := (beq_iff_eq.mp (show (("in" : Str) == s) = true from z)).symm
    rw [e]; decide
  · have e : s = "out" := (beq_iff_eq.mp (show (("out" : Str) == s) = true from z)).symm
    rw [e]; decide
theorem GoodT.rows {n : Int} {rt dt : List (List V)} (g : GoodT n rt dt) : ∀ t ∈ rt, ∃ x y l r : Int, t = [.int x, .int y, .int l, .int r] := fun t ht => by
  obtain ⟨j, hj, e⟩ := List.mem_iff_getElem.mp ht
  have e2 : (rt.map some)[j]? = some (some t) := by rw [List.getElem?_map, List.getElem?_eq_getElem hj, e]; rfl
  have b := g.r j (by rw [List.length_map]; exact hj)
  cases q : isRoad n (some t) with
  | true =>
    obtain ⟨x, y, l, r, z, _⟩ := road_of q
    exact ⟨x, y, l, r, Option.some.inj z⟩
  | false => exact absurd ⟨_, e2, .inl q⟩ b
theorem GoodT.dors {n : Int} {rt dt : List (List V)} (g : GoodT n rt dt) : ∀ t ∈ dt, ∃ (z : Str) (x h : Int), t = [.str z, .int x, .int h] ∧ isW (.str z) = true := fun t ht => by
  obtain ⟨j, hj, e⟩ := List.mem_iff_getElem.mp ht
  have e2 : (dt.map some)[j]? = some (some t) := by rw [List.getElem?_map, List.getElem?_eq_getElem hj, e]; rfl
  have b := g.d j (by rw [List.length_map]; exact hj)
  cases q : isDoor n (some t) with
  | true =>
    obtain ⟨z, x, h, e3⟩ := door_of q
    have e4 := Option.some.inj e3
    subst e4
    have q' : (isIO (.str z) && (isP n (.int x) && isN (.int h))) = true := q
    exact ⟨z, x, h, rfl, isIO_w (Bool.and_eq_true_iff.mp q').1⟩
  | false => exact absurd ⟨_, e2, .inl q⟩ b
theorem GoodT.wr {n : Int} {rt dt : List (List V)} (g : GoodT n rt dt) : Ws rt := fun t ht v hv => by
  obtain ⟨x, y, l, r, rfl⟩ := g.rows t ht
  simp only [List.mem_cons, List.not_mem_nil, or_false] at hv
  rcases hv with rfl | rfl | rfl | rfl <;> rfl
theorem GoodT.wd {n : Int} {rt dt : List (List V)} (g : GoodT n rt dt) : Ws dt := fun t ht v hv => by
  obtain ⟨z, x, h, rfl, hz⟩ := g.dors t ht
  simp only [List.mem_cons, List.not_mem_nil, or_false] at hv
  rcases hv with rfl | rfl | rfl
  · exact hz
  · rfl
  · rfl
theorem GoodT.l4 {n : Int} {rt dt : List (List V)} (g : GoodT n rt dt) : ∀ t ∈ rt, t.length ≤ 20 := fun t ht => by
  obtain ⟨x, y, l, r, rfl⟩ := g.rows t ht
  show 4 ≤ 20
  decide
theorem GoodT.l3 {n : Int} {rt dt : List (List V)} (g : GoodT n rt dt) : ∀ t ∈ dt, t.length ≤ 20 := fun t ht => by
  obtain ⟨z, x, h, rfl, _⟩ := g.dors t ht
  show 3 ≤ 20
  decide
/-- a tuple of the places and the lists of roads and doors -/
structure HT (a l : Addr) (H : Hp) (t : Addr) (n : Int) (rt dt : List (List V)) : Prop where
  ex : ∃ p q xs ys, H t = some (.tup [.int n, .ref p, .ref q]) ∧ Ls a l H p xs ∧ Ls a l H q ys ∧ TT H xs rt ∧ TT H ys dt
theorem HT.go {a l t : Addr} {H H' : Hp} {n : Int} {rt dt : List (List V)} (h : HT a l H t n rt dt) (g : Go a l H H') : HT a l H' t n rt dt := by
  obtain ⟨p, q, xs, ys, h1, h2, h3, h4, h5⟩ := h.ex
  exact ⟨p, q, xs, ys, g.t _ _ h1, h2.go g, h3.go g, h4.tl g.t, h5.tl g.t⟩
theorem tup_na {N : Int} {a l p : Addr} {H : Hp} {t : List V} (S : Strm N H a l) (h : H p = some (.tup t)) : p ≠ a ∧ p ≠ l := by
  obtain ⟨xs, c, n, m, h1, h2, _⟩ := S.ex
  exact ⟨ne_of h h1 (fun z => by cases z), ne_of h h2 (fun z => by cases z)⟩
theorem TT.row {N : Int} {a l : Addr} {H : Hp} (S : Strm N H a l) : ∀ {xs : List V} {ts : List (List V)}, TT H xs ts → Paired (RowA a l H) xs ts
  | [], [], _ => .nil
  | [], _ :: _, h => by cases h
  | _ :: _, [], h => by cases h
  | v :: xs, t :: ts, h => by
    obtain ⟨h1, h2⟩ := List.cons.inj (show tupOf H v :: xs.map (tupOf H) = some t :: ts.map some from h)
    obtain ⟨p, rfl, hp⟩ := tupOf_ref h1
    obtain ⟨n1, n2⟩ := tup_na S hp
    exact .cons ⟨p, rfl, n1, n2, .inr hp⟩ (TT.row S (xs := xs) (ts := ts) h2)
theorem Ls.rows {N : Int} {a l p : Addr} {H : Hp} {xs : List V} {ts : List (List V)} (S : Strm N H a l) (h : Ls a l H p xs) (k : TT H xs ts) : RowsA a l H (.ref p) ts := ⟨p, xs, rfl, h.na, h.nl, .inl h.h, k.row S⟩
theorem rowa_items {a l : Addr} {H : Hp} {xs : List V} {ts : List (List V)} (h : Paired (RowA a l H) xs ts) (w : Ws ts) : Items H xs := fun v hv => by
  obtain ⟨i, hi, rfl⟩ := List.mem_iff_getElem.mp hv
  obtain ⟨t, ht, p, e, _, _, hp⟩ := pair_at h (List.getElem?_eq_getElem hi)
  rw [e]
  refine ⟨hp.shp, fun ys hy y hy2 => .inl (isW_atom ?_)⟩
  rw [hp.seq] at hy
  rw [← Option.some.inj hy] at hy2
  exact w t (List.mem_of_getElem? ht) y hy2
theorem paired_w {H : Hp} : ∀ {t : List V}, (∀ v ∈ t, isW v = true) → Paired (Eqt 0 H) t t
  | [], _ => .nil
  | v :: r, h => .cons ⟨rfl, isW_atom (h v List.mem_cons_self)⟩ (paired_w fun u hu => h u (List.mem_cons_of_mem _ hu))
theorem TT.eqt {H : Hp} : ∀ {xs ys : List V} {ts : List (List V)}, TT H xs ts → TT H ys ts → Ws ts → (∀ t ∈ ts, t.length ≤ 20) → Paired (Eqt 1 H) xs ys
  | [], [], [], _, _, _, _ => .nil
  | _ :: _, _, [], h, _, _, _ => by cases h
  | [], _, _ :: _, h, _, _, _ => by cases h
  | _, _ :: _, [], _, h, _, _ => by cases h
  | _, [], _ :: _, _, h, _, _ => by cases h
  | v :: xs, u :: ys, t :: ts, h, k, w, l => by
    obtain ⟨h1, h2⟩ := List.cons.inj (show tupOf H v :: xs.map (tupOf H) = some t :: ts.map some from h)
    obtain ⟨k1, k2⟩ := List.cons.inj (show tupOf H u :: ys.map (tupOf H) = some t :: ts.map some from k)
    obtain ⟨p, rfl, hp⟩ := tupOf_ref h1
    obtain ⟨q, rfl, hq⟩ := tupOf_ref k1
    refine .cons (.inr (.inr (.inl ⟨p, q, t, t, rfl, rfl, hp, hq, paired_w (w t List.mem_cons_self), Nat.le_trans (l t List.mem_cons_self) (by decide)⟩))) ?_
    exact TT.eqt (xs := xs) (ys := ys) (ts := ts) h2 k2 (fun s hs => w s (List.mem_cons_of_mem _ hs)) fun s hs => l s (List.mem_cons_of_mem _ hs)
def spMade (C : Addr) : Sp := fun vs H Q _ => ∃ (a l t : Addr) (N n : Int) (rt dt : List (List V)), vs = [.ref a, .ref t] ∧ Strm N H a l ∧ 0 ≤ N ∧ N + 200 ≤ 1000000000 ∧ HT a l H t n rt dt ∧ GoodT n rt dt ∧
  ∀ H' x, Go a l H H' → HObj a l C H' x n rt dt → Strm (N + 200) H' a l → Q (.ref x) H'
def spTells (C : Addr) : Sp := fun vs H Q _ => ∃ (a l x t : Addr) (n : Int) (rt dt : List (List V)), vs = [.ref x, .ref t] ∧ HObj a l C H x n rt dt ∧ HT a l H t n rt dt ∧ GoodT n rt dt ∧ ∀ H', Same H H' → Q (.bl true) H'
theorem scMade : FnScope ["_law_stream_here", "_law_house_here"] ["_law_stream_here", "_law_house_here"] (defScope sMade) := ⟨rfl, rfl, rfl, by decide +kernel, rfl, by decide +kernel, by decide +kernel⟩
theorem scTells : FnScope ["_law_made_here", "_law_house_here"] ["_law_made_here", "_law_house_here"] (defScope sTells) := ⟨rfl, rfl, rfl, by decide +kernel, rfl, by decide +kernel, by decide +kernel⟩
/-- a good house is made: what __init__ asks of it, and what it leaves -/
theorem init_good {K : PySem.W.Frag} {Cp Cr Cd C a l : Addr} (hC : HC K C) {N n : Int} {rt dt : List (List V)} {H1 : Hp} {u v : V} {R : Hp → Prop} {E : XK} (S : Strm N H1 a l) (g : GoodT n rt dt) (hu : RowsA a l H1 u rt) (hv : RowsA a l H1 v dt) {x dx : Addr} (hx : H1 x = none) (hdx : H1 dx = none) (nx : dx ≠ x)
    (k : ∀ H', Same H1 H' → HObj a l C H' x n rt dt → (∃ p q, H1 p = none ∧ H1 q = none ∧ H' x = some (.ins C dx [("_places", .int n), ("_roads", .ref p), ("_doors", .ref q)])) → R H') :
    spHInit K Cp Cr Cd [.ref x, .int n, u, v] (upd (upd H1 dx (.own x)) x (.ins C dx [])) (fun v H3 => v = .non ∧ R H3) E := by
  have s1 : Same H1 (upd (upd H1 dx (.own x)) x (.ins C dx [])) := (same_new hdx).trans (same_new (by rw [upd_ne (Ne.symm nx)]; exact hx))
  have hxx : upd (upd H1 dx (.own x)) x (.ins C dx []) x = some (.ins C dx []) := upd_same
  generalize upd (upd H1 dx (.own x)) x (.ins C dx []) = H2 at s1 hxx ⊢
  obtain ⟨p, xs, rfl, np1, np2, hp, hxs⟩ := hu.go (.same s1)
  obtain ⟨q, ys, rfl, nq1, nq2, hq, hys⟩ := hv.go (.same s1)
  have e1 : xs.map (seqOf H2) = rt.map some := rows_seq hxs
  have e2 : ys.map (seqOf H2) = dt.map some := rows_seq hys
  have lx := pair_len hxs
  have ly := pair_len hys
  have l1 := g.lr
  have l2 := g.ld
  have nxa := S.ne_new hx
  refine ⟨x, C, dx, .int n, .ref p, .ref q, rfl, hxx, hC, .inl rfl, .inr ⟨n, rfl, g.n1, hp.shp, .inr ⟨p, xs, rfl, hp, rowa_items hxs g.wr, by omega, fun j w => ?_, fun _ => ⟨hq.shp, .inr ⟨q, ys, rfl, hq, rowa_items hys g.wd, by omega, fun j w => ?_, fun _ => ?_⟩⟩⟩⟩⟩
  · rw [e1] at w
    exact absurd w (wres_good g.r j)
  · rw [e2] at w
    exact absurd w (dres_good g.d j)
  · intro H' p' q' rs ds kp hx' hp' hq' npq h1 h2 t1 t2
    have s3 : Same H1 H' := fun b o hb => kp b o (ne_of_none hb hx) (s1 _ _ hb)
    have fp : H1 p' = none := none_back s1 hp'
    have fq : H1 q' = none := none_back s1 hq'
    have np := S.ne_new fp
    have nq := S.ne_new fq
    exact ⟨rfl, k H' s3 ⟨nxa.1, nxa.2, dx, p', q', rs, ds, hx', ⟨np.1, np.2, h1⟩, ⟨nq.1, nq.2, h2⟩, tupd_tt t1 e1, tupd_tt t2 e2⟩ ⟨p', q', fp, fq, hx'⟩⟩
section
variable {P : Program} {w : World} {K : PySem.W.Frag} {mg : Str → Option Value} {base : Heap} {C fI Cp Cr Cd : Addr} {fdI : FuncData}
theorem ok_made {f fL : Addr} {fd fdL : FuncData} (F : Fun K "_law_made" "_law_made" sMade f fd) (M : Mk K C fI) (hC : HC K C) (GI : FnOk P w K mg base (L2.CX P w) 6 fI fdI ["self", "places", "roads", "doors"] (spHInit K Cp Cr Cd)) (gH : mg "House" = some (.ref C)) (bI : Binds K fdI ["self", "places", "roads", "doors"] [])
    (FL : Fun K "_law_loose" "_law_loose" sLoose fL fdL) (GL : FnOk P w K mg base CX0 4 fL fdL ["_law_stream_here", "_law_thing"] spLo2) (gL : mg "_law_loose" = some (.ref fL)) (bL : Binds K fdL ["_law_stream_here", "_law_thing"] []) :
    FnOk P w K mg base CX0 8 f fd ["_law_stream_here", "_law_house_here"] (spMade C) := by
  refine F.ok scMade (fun vs H Q E h => ?_) (fun cdv A outer s H vs Q E hr h => ?_)
  · obtain ⟨a, l, t, N, n, rt, dt, rfl, _⟩ := h
    rfl
  · obtain ⟨a, l, t, N, n, rt, dt, rfl, S, n0, n1, ⟨p, q, xs, ys, ht, hp, hq, t1, t2⟩, g, k⟩ := h
    refine ⟨_, (pss_one (ps_ret (pe_make M GI (hr.mono (by decide)) (by rfl) gH bI .nil passL (pa_cons (pe_ix ix_tup (pv 1) pe_int (fun _ _ => rfl)) (pa_cons (pe_call GL (hr.mono (by decide)) (by rfl) gL FL.kp bL .nil pass0 (pa_cons (pv 0) (pa_cons (pe_ix ix_tup (pv 1) pe_int (fun _ _ => rfl)) pa_nil))) (pa_cons (pe_call GL (hr.mono (by decide)) (by rfl) gL FL.kp bL .nil pass0 (pa_cons (pv 0) (pa_cons (pe_ix ix_tup (pv 1) pe_int (fun _ _ => rfl)) pa_nil))) pa_nil))) (by decide)))), ?_⟩
    have l1 := g.lr
    have l2 := g.ld
    refine ⟨_, rfl, t, [.int n, .ref p, .ref q], 0, _, rfl, rfl, SqT.of ht, rfl, ?_⟩
    refine ⟨_, rfl, _, rfl, t, [.int n, .ref p, .ref q], 1, _, rfl, rfl, SqT.of ht, rfl, ?_⟩
    refine ⟨a, l, N, .ref p, rt, rfl, S, n0, by omega, hp.rows S t1, g.wr, g.l4, l1, fun H1 u g1 r1 S1 => ?_⟩
    refine ⟨_, rfl, _, rfl, t, [.int n, .ref p, .ref q], 2, _, rfl, rfl, SqT.of (g1.t _ _ ht), rfl, ?_⟩
    refine ⟨a, l, _, .ref q, dt, rfl, S1, by omega, by omega, (hq.go g1).rows S1 (t2.tl g1.t), g.wd, g.l3, l2, fun H2 v g2 r2 S2 => ?_⟩
    intro x dx hx hdx nx
    refine init_good hC S2 g (r1.go g2) r2 hx hdx nx fun H' s3 ho _ => ?_
    exact k H' x ((g1.trans g2).trans (.same s3)) ho ((S2.but s3).mono (by omega))
theorem ok_tells {f fPl fRo fDo fS : Addr} {fd fdPl fdRo fdDo fdS : FuncData} (F : Fun K "_law_tells" "_law_tells" sTells f fd) (T : Bt mg) (k0 : HK K C) (mP : Meth K C "places" fPl) (mR : Meth K C "roads" fRo) (mD : Meth K C "doors" fDo)
    (FP : Fun K "places" "House.places" sPlaces fPl fdPl) (FR : Fun K "roads" "House.roads" sRoads fRo fdRo) (FD : Fun K "doors" "House.doors" sDoors fDo fdDo) (bP : Binds K fdPl ["self"] []) (bR : Binds K fdRo ["self"] []) (bD : Binds K fdDo ["self"] [])
    (FS : Fun K "_law_same" "_law_same" sSame fS fdS) (gS : mg "_law_same" = some (.ref fS)) (bS : Binds K fdS ["_law_found", "_law_due"] []) : FnOk P w K mg base CX0 6 f fd ["_law_made_here", "_law_house_here"] (spTells C) := by
  have GS : FnOk P w K mg base CX0 5 fS fdS ["_law_found", "_law_due"] (spSame 3) := ok_same FS T gS bS 3
  have GP : FnOk P w K mg base CX0 1 fPl fdPl ["self"] (spPl C) := ok_places FP k0
  have GR : FnOk P w K mg base CX0 1 fRo fdRo ["self"] (spRd C false) := ok_roads FR T k0
  have GD : FnOk P w K mg base CX0 1 fDo fdDo ["self"] (spRd C true) := ok_doors FD T k0
  refine F.ok scTells (fun vs H Q E h => ?_) (fun cdv A outer s H vs Q E hr h => ?_)
  · obtain ⟨a, l, x, t, n, rt, dt, rfl, _⟩ := h
    rfl
  · obtain ⟨a, l, x, t, n, rt, dt, rfl, ho, ht, g, k⟩ := h
    refine ⟨_, (pss_one (ps_ret (pe_call GS hr (by rfl) gS FS.kp bS .nil pass0 (pa_cons (pe_lst (pa_cons (pe_meth0 (pv 0) k0.hc.cl mP GP (hr.mono (by decide)) bP .nil pass0) (pa_cons (pe_meth0 (pv 0) k0.hc.cl mR GR (hr.mono (by decide)) bR .nil pass0) (pa_cons (pe_meth0 (pv 0) k0.hc.cl mD GD (hr.mono (by decide)) bD .nil pass0) pa_nil)))) (pa_cons (pe_lst (pa_cons (pe_ix ix_tup (pv 1) pe_int (fun _ _ => rfl)) (pa_cons (pe_callTy call_list_of (by rfl) T.list (by decide +kernel) (pa_cons (pe_ix ix_tup (pv 1) pe_int (fun _ _ => rfl)) pa_nil)) (pa_cons (pe_callTy call_list_of (by rfl) T.list (by decide +kernel) (pa_cons (pe_ix ix_tup (pv 1) pe_int (fun _ _ => rfl)) pa_nil)) pa_nil)))) pa_nil))))), ?_⟩
    obtain ⟨dx, p, p2, rs, ds, h1, _⟩ := ho.ex
    obtain ⟨q, q2, xs, ys, ht0, hq1, hq2, t1, t2⟩ := ht.ex
    have l1 := g.lr
    have l2 := g.ld
    refine ⟨_, rfl, x, dx, _, rfl, h1, rfl, a, l, x, n, rt, dt, rfl, ho, ?_⟩
    refine ⟨_, rfl, x, dx, _, rfl, h1, rfl, a, l, x, n, rt, dt, rfl, ho, fun H1 b1 r1 e1 f1 b1h r1t => ?_⟩
    refine ⟨_, rfl, x, dx, _, rfl, e1 _ _ h1, rfl, a, l, x, n, rt, dt, rfl, ho.go (.same e1), fun H2 b2 r2 e2 f2 b2h r2t => ?_⟩
    refine ⟨(by show 3 ≤ sizeLine; decide), fun p3 h3 => ?_⟩
    have s3 := same_new (o := .lst [.int n, .ref b1, .ref b2]) h3
    have e13 := e1.trans (e2.trans s3)
    refine ⟨_, rfl, t, _, 0, _, rfl, rfl, SqT.of (e13 _ _ ht0), rfl, ?_⟩
    refine ⟨_, rfl, t, _, 1, _, rfl, rfl, SqT.of (e13 _ _ ht0), rfl, q, xs, rfl, .inl (SqL.of (e13 _ _ hq1.h)), fun c1 g1 => ?_⟩
    have s4 := same_new (o := .lst xs) g1
    refine ⟨_, rfl, t, _, 2, _, rfl, rfl, SqT.of (s4 _ _ (e13 _ _ ht0)), rfl, q2, ys, rfl, .inl (SqL.of (s4 _ _ (e13 _ _ hq2.h))), fun c2 g2 => ?_⟩
    have s5 := same_new (o := .lst ys) g2
    refine ⟨(by show 3 ≤ sizeLine; decide), fun p6 h6 => ?_⟩
    have s6 := same_new (o := .lst [.int n, .ref c1, .ref c2]) h6
    have s46 := s4.trans (s5.trans s6)
    have tlE : ∀ {A B : Hp}, Same A B → TL A B := fun e b t h => e _ _ h
    refine ⟨.ref p3, .ref p6, rfl, .inr (.inl ⟨p3, p6, _, _, rfl, rfl, s46 _ _ upd_same, upd_same, .cons (eqt_atom rfl) (.cons (.inr (.inl ⟨b1, c1, r1, xs, rfl, rfl, s46 _ _ ((e2.trans s3) _ _ b1h), (s5.trans s6) _ _ upd_same, ?_, ?_⟩)) (.cons (.inr (.inl ⟨b2, c2, r2, ys, rfl, rfl, s46 _ _ (s3 _ _ b2h), s6 _ _ upd_same, ?_, ?_⟩)) .nil)), by show 3 ≤ 1000; decide⟩), fun H7 e7 => k _ ((e13.trans s46).trans e7)⟩
    · exact TT.eqt (r1t.tl (tlE (e2.trans (s3.trans s46)))) (t1.tl (tlE (e13.trans s46))) g.wr g.l4
    · rw [r1t.len]
      show rt.length ≤ 1000
      omega
    · exact TT.eqt (r2t.tl (tlE (s3.trans s46))) (t2.tl (tlE (e13.trans s46))) g.wd g.l3
    · rw [r2t.len]
      show dt.length ≤ 1000
      omega
end
end K01

set_option Elab.async false
set_option linter.all false
set_option maxRecDepth 100000
set_option maxHeartbeats 4000000
namespace K01
open PySem PySem.Spec PyProof.Rows L2 Own
abbrev NKept : List Str := ["_law_stream_here", "_law_house_here", "_law_roads", "_law_doors", "_law_made_here", "_law_row", "_law_told", "_law_road", "_law_door"]
theorem scKept : FnScope NKept ["_law_stream_here", "_law_house_here"] (defScope sKept) := ⟨rfl, rfl, rfl, by decide +kernel, rfl, by decide +kernel, by decide +kernel⟩
theorem call_listK {X : Cx} {K : PySem.W.Frag} (h : X.K = K) : CallR X (.type "list") (fun xs H Q => ∃ p ys, xs = [.ref p] ∧ (SqL K H p ys ∨ SqT K H p ys) ∧ ∀ l, H l = none → Q (.ref l) (upd H l (.lst ys))) := by
  subst h
  exact call_list_of
def gH {α : Type} (us ws : List α) : List α := match us, ws with
  | [u], [p, d, r] => [u, p, r, d]
  | _, _ => []
/-- House(places=, doors=, roads=) -/
theorem kbn_house {K : PySem.W.Frag} {f : Addr} {fd : FuncData} (F : Fun K "__init__" "House.__init__" sInit f fd) : KBn K fd ["self", "places", "roads", "doors"] 1 ["places", "doors", "roads"] gH gH := by
  obtain ⟨oc, od, kV, doc, pm, an, cdv, ct, osl, rfl, lk, hcd⟩ := F.ex
  refine ⟨fun s us ws X l1 l2 => BindsTo.of_looks fun M => ?_, fun {vs us zs ws} r1 r2 => ?_⟩
  · match us, ws, l1, l2 with
    | [u], [p, d, r], _, _ => exact .of_pure rfl
  · cases r1 with
    | nil => exact .nil
    | cons a1 r1 =>
      cases r1 with
      | cons _ _ => exact .nil
      | nil =>
        cases r2 with
        | nil => exact .nil
        | cons b1 r2 =>
          cases r2 with
          | nil => exact .nil
          | cons b2 r2 =>
            cases r2 with
            | nil => exact .nil
            | cons b3 r2 =>
              cases r2 with
              | nil => exact .cons a1 (.cons b1 (.cons b3 (.cons b2 .nil)))
              | cons _ _ => exact .nil
/-- a house of the program, its parts by their addresses -/
structure HOx (a l C : Addr) (H : Hp) (x dx p q : Addr) (n : Int) (rt dt : List (List V)) : Prop where
  na : x ≠ a
  nl : x ≠ l
  hx : H x = some (.ins C dx [("_places", .int n), ("_roads", .ref p), ("_doors", .ref q)])
  ex : ∃ rs ds, Ls a l H p rs ∧ Ls a l H q ds ∧ TT H rs rt ∧ TT H ds dt
theorem HOx.obj {a l C x dx p q : Addr} {H : Hp} {n : Int} {rt dt : List (List V)} (h : HOx a l C H x dx p q n rt dt) : HObj a l C H x n rt dt := by
  obtain ⟨rs, ds, h2, h3, h4, h5⟩ := h.ex
  exact ⟨h.na, h.nl, dx, p, q, rs, ds, h.hx, h2, h3, h4, h5⟩
theorem HObj.at {a l C x dx p q : Addr} {H : Hp} {n : Int} {rt dt : List (List V)} (h : HObj a l C H x n rt dt) (hx : H x = some (.ins C dx [("_places", .int n), ("_roads", .ref p), ("_doors", .ref q)])) : HOx a l C H x dx p q n rt dt := by
  obtain ⟨dx', p', q', rs, ds, h1, h2, h3, h4, h5⟩ := h.ex
  rw [hx] at h1
  injection h1 with h1
  injection h1 with _ _ h1
  have e1 := (List.cons.inj (List.cons.inj h1).2)
  have e2 : p = p' := V.ref.inj (Prod.mk.inj e1.1).2
  have e3 : q = q' := V.ref.inj (Prod.mk.inj (List.cons.inj e1.2).1).2
  subst e2 e3
  exact ⟨h.na, h.nl, hx, rs, ds, h2, h3, h4, h5⟩
/-- the start's heap and the house stand -/
structure KI (a l C : Addr) (H0 : Hp) (x dx p q : Addr) (n : Int) (rt dt : List (List V)) (H : Hp) : Prop where
  s : Same H0 H
  ho : HOx a l C H x dx p q n rt dt
theorem KI.same {a l C x dx p q : Addr} {H0 H H' : Hp} {n : Int} {rt dt : List (List V)} (h : KI a l C H0 x dx p q n rt dt H) (e : Same H H') : KI a l C H0 x dx p q n rt dt H' := by
  obtain ⟨rs, ds, h2, h3, h4, h5⟩ := h.ho.ex
  have g : Go a l H H' := .same e
  exact ⟨h.s.trans e, h.ho.na, h.ho.nl, e _ _ h.ho.hx, rs, ds, h2.go g, h3.go g, h4.tl g.t, h5.tl g.t⟩
theorem KI.set {a l C x dx p q r : Addr} {H0 H : Hp} {n : Int} {rt dt : List (List V)} {ys zs : List V} (h : KI a l C H0 x dx p q n rt dt H) (hr : H r = some (.lst ys)) (h0 : H0 r = none) (n1 : r ≠ p) (n2 : r ≠ q) : KI a l C H0 x dx p q n rt dt (upd H r (.lst zs)) := by
  obtain ⟨rs, ds, h2, h3, h4, h5⟩ := h.ho.ex
  have tl : TL H (upd H r (.lst zs)) := fun b t e => by
    rw [upd_ne (ne_of e hr fun z => by cases z)]
    exact e
  refine ⟨fun b o e => ?_, h.ho.na, h.ho.nl, ?_, rs, ds, ⟨h2.na, h2.nl, ?_⟩, ⟨h3.na, h3.nl, ?_⟩, h4.tl tl, h5.tl tl⟩
  · rw [upd_ne (ne_of_none e h0)]
    exact h.s _ _ e
  · rw [upd_ne (ne_of h.ho.hx hr fun z => by cases z)]
    exact h.ho.hx
  · rw [upd_ne (Ne.symm n1)]
    exact h2.h
  · rw [upd_ne (Ne.symm n2)]
    exact h3.h
/-- a list of lists of these, all at addresses of a kind -/
structure Row (P : Addr → Prop) (H : Hp) (r : Addr) (xs : List V) (ts : List (List V)) : Prop where
  pr : P r
  h : H r = some (.lst xs)
  it : Paired (fun v t => ∃ b, v = V.ref b ∧ P b ∧ b ≠ r ∧ H b = some (.lst t)) xs ts
theorem Row.keep {P : Addr → Prop} {H H' : Hp} {r : Addr} {xs : List V} {ts : List (List V)} (w : Row P H r xs ts) (k : ∀ b o, P b → H b = some o → H' b = some o) : Row P H' r xs ts :=
  ⟨w.pr, k _ _ w.pr w.h, pair_imp w.it fun _ _ ⟨b, e, h1, h2, h3⟩ => ⟨b, e, h1, h2, k _ _ h1 h3⟩⟩
def ld (t : List V) : PyData := .list (t.map pdV)
theorem Row.dp {K : PySem.W.Frag} {P : Addr → Prop} {H : Hp} {r : Addr} : ∀ {xs : List V} {ts : List (List V)}, Paired (fun v t => ∃ b, v = V.ref b ∧ P b ∧ b ≠ r ∧ H b = some (.lst t)) xs ts → Ws ts → DpAll K H xs (ts.map ld)
  | _, _, .nil, _ => .nil
  | _, _, .cons h t, w => by
    obtain ⟨b, rfl, _, _, hb⟩ := h
    exact .cons (.lst (SqL.of hb) (dp_ws (w _ List.mem_cons_self))) (Row.dp t fun u hu => w u (List.mem_cons_of_mem _ hu))
theorem lay_lds {ts : List (List V)} (h : Ws ts) : PyData.canLayAll0 (ts.map ld) = true ∧ PyData.depthAll (ts.map ld) ≤ 1 := by
  induction ts with
  | nil => exact ⟨rfl, by decide⟩
  | cons t r ih =>
    obtain ⟨a1, a2⟩ := lay_ws (h t List.mem_cons_self)
    obtain ⟨b1, b2⟩ := ih fun w hw => h w (List.mem_cons_of_mem _ hw)
    constructor
    · show (PyData.canLayAll0 (t.map pdV) && PyData.canLayAll0 (r.map ld)) = true
      rw [a1, b1]
      rfl
    · show max (PyData.depthAll (t.map pdV) + 1) (PyData.depthAll (r.map ld)) ≤ 1
      omega
theorem sh_lds {ts : List (List V)} (h : Ws ts) : SeqAt.shaped (.list (ts.map ld)) = true := by
  obtain ⟨h1, h2⟩ := lay_lds h
  show (PyData.canLayAll0 (ts.map ld) && decide (PyData.depthAll (ts.map ld) + 1 ≤ 64)) = true
  rw [h1, decide_eq_true (by omega)]
  rfl
theorem eqv_nil (ts : List (List V)) : PyData.eqv (.list (ts.map ld)) (.list []) = decide (ts = []) := by
  cases ts with
  | nil => rfl
  | cons t r => rfl
def spKept (C : Addr) : Sp := fun vs H Q _ => ∃ (a l t : Addr) (N n : Int) (rt dt : List (List V)), vs = [.ref a, .ref t] ∧ Strm N H a l ∧ HT a l H t n rt dt ∧ GoodT n rt dt ∧ ∀ H', Same H H' → Q (.bl true) H'
section
variable {P : Program} {w : World} {K : PySem.W.Frag} {mg : Str → Option Value} {base : Heap} {C fI Cp Cr Cd : Addr} {fdI : FuncData}
theorem ok_kept {f fT fRo fDo fE : Addr} {fd fdT fdRo fdDo fdE : FuncData} (F : Fun K "_law_kept_right" "_law_kept_right" sKept f fd) (T : Bt mg) (M : Mk K C fI) (GI : FnOk P w K mg base (L2.CX P w) 6 fI fdI ["self", "places", "roads", "doors"] (spHInit K Cp Cr Cd)) (gH : mg "House" = some (.ref C)) (bI : Binds K fdI ["self", "places", "roads", "doors"] [])
    (KB : KBn K fdI ["self", "places", "roads", "doors"] 1 ["places", "doors", "roads"] K01.gH K01.gH)
    (k0 : HK K C) (S0 : Eqs K C fE) (FE : Fun K "__eq__" "House.__eq__" sHEq fE fdE) (bE : Binds K fdE ["self", "other"] []) (mR : Meth K C "roads" fRo) (mD : Meth K C "doors" fDo)
    (FR : Fun K "roads" "House.roads" sRoads fRo fdRo) (FD : Fun K "doors" "House.doors" sDoors fDo fdDo) (bR : Binds K fdRo ["self"] []) (bD : Binds K fdDo ["self"] [])
    (FT : Fun K "_law_tells" "_law_tells" sTells fT fdT) (gT : mg "_law_tells" = some (.ref fT)) (bT : Binds K fdT ["_law_made_here", "_law_house_here"] []) (GT : FnOk P w K mg base CX0 6 fT fdT ["_law_made_here", "_law_house_here"] (spTells C)) :
    FnOk P w K mg base CX0 8 f fd ["_law_stream_here", "_law_house_here"] (spKept C) := by
  have GR : FnOk P w K mg base CX0 1 fRo fdRo ["self"] (spRd C false) := ok_roads FR T k0
  have GD : FnOk P w K mg base CX0 1 fDo fdDo ["self"] (spRd C true) := ok_doors FD T k0
  have GE : FnOk P w K mg base CX0 1 fE fdE ["self", "other"] (spEqH C) := ok_heq FE T gH k0
  refine F.ok scKept (fun vs H Q E h => ?_) (fun cdv A outer s H vs Q E hr h => ?_)
  · obtain ⟨a, l, t, N, n, rt, dt, rfl, _⟩ := h
    rfl
  · obtain ⟨a, l, t, N, n, rt, dt, rfl, S, ht, g, k⟩ := h
    refine ⟨_, (pss_cons (ps_par (i := 2) (j := 3) (by rfl) scKept.nd rfl rfl (by decide) rfl rfl (pa_cons (pe_lc (own := [("_law_road", 7)]) (g := gName 7) (tt := tYes) rfl scKept.nd (pi_list (pe_ix ix_tup (pv 1) pe_int (fun _ _ => rfl))) (blkOk_by (N := ["_law_stream_here", "_law_house_here", "_law_roads", "_law_doors", "_law_made_here", "_law_row", "_law_told", "_law_road", "_law_door"]) (sc := defScope sKept) (by decide +kernel)) (fun _ _ _ _ _ => (pg_name (i := 7) (x := "_law_road") scKept.nd rfl (Or.inl rfl))) (fun _ _ _ _ _ => pts_nil) (fun _ _ _ _ _ => (pe_callTy (call_listK rfl) (by rfl) T.list (by decide +kernel) (pa_cons (pv 7) pa_nil)))) (pa_cons (pe_lc (own := [("_law_door", 8)]) (g := gName 8) (tt := tYes) rfl scKept.nd (pi_list (pe_ix ix_tup (pv 1) pe_int (fun _ _ => rfl))) (blkOk_by (N := ["_law_stream_here", "_law_house_here", "_law_roads", "_law_doors", "_law_made_here", "_law_row", "_law_told", "_law_road", "_law_door"]) (sc := defScope sKept) (by decide +kernel)) (fun _ _ _ _ _ => (pg_name (i := 8) (x := "_law_door") scKept.nd rfl (Or.inl rfl))) (fun _ _ _ _ _ => pts_nil) (fun _ _ _ _ _ => (pe_callTy (call_listK rfl) (by rfl) T.list (by decide +kernel) (pa_cons (pv 8) pa_nil)))) pa_nil)) (by rfl))
  (pss_cons (ps_set (i := 4) scKept.nd rfl (Or.inl rfl) (pe_makeK0 M GI (hr.mono (by decide)) (by rfl) gH KB passL (pk_cons (pe_ix ix_tup (pv 1) pe_int (fun _ _ => rfl)) (pk_cons (pv 3) (pk_cons (pv 2) pk_nil)))))
  (Evl.pss_cut (ps_for PassesOwn.never rfl (pi_tup (pe_tup (pa_cons (pv 2) (pa_cons (pv 3) pa_nil)))) (pg_name (i := 5) (x := "_law_row") scKept.nd rfl (Or.inl rfl)) (Evl.pss_cut (ps_if (pt_cmpR (op_neD hr.units) (pv 5) (pe_lst pa_nil) (nomark _)) (pss_one (ps_asg pe_str (pg_sub (pe_ix ix_list (pv 5) pe_int (fun _ _ => rfl)) pe_int set_list))) pss_nil)
  (pss_one (ps_expr (pe_bm PySem.F.plainAttrs_list PySem.F.slot_list_append PySem.F.type_list_append mt_append (pv 5) (pa_cons pe_str pa_nil))))))
  (Evl.pss_cut (ps_for PassesOwn.never rfl (pi_tup (pe_tup (pa_cons (pe_meth0 (pv 4) k0.hc.cl mR GR (hr.mono (by decide)) bR .nil pass0) (pa_cons (pe_meth0 (pv 4) k0.hc.cl mD GD (hr.mono (by decide)) bD .nil pass0) pa_nil)))) (pg_name (i := 6) (x := "_law_told") scKept.nd rfl (Or.inl rfl)) (pss_cons (ps_expr (pe_bm PySem.F.plainAttrs_list PySem.F.slot_list_append PySem.F.type_list_append mt_append (pv 6) (pa_cons pe_str pa_nil)))
  (pss_one (ps_expr (pe_bm0 PySem.F.plainAttrs_list PySem.F.slot_list_reverse PySem.F.type_list_reverse mt_reverse (pv 6))))))
  (pss_one (ps_ret (pe_and (pe_call GT (hr.mono (by decide)) (by rfl) gT FT.kp bT .nil pass0 (pa_cons (pv 4) (pa_cons (pv 1) pa_nil))) (pe_one (pe_cmpR (op_eqO S0 GE bE (hr.mono (by decide)) pass0) (pv 4) (pe_make M GI (hr.mono (by decide)) (by rfl) gH bI .nil passL (pa_cons (pe_ix ix_tup (pv 1) pe_int (fun _ _ => rfl)) (pa_cons (pe_ix ix_tup (pv 1) pe_int (fun _ _ => rfl)) (pa_cons (pe_ix ix_tup (pv 1) pe_int (fun _ _ => rfl)) pa_nil))) (by decide)) (nomark _)))))))))), ?_⟩
    obtain ⟨q1, q2, xs, ys, ht0, hq1, hq2, t1, t2⟩ := ht.ex
    have l1 := g.lr
    have l2 := g.ld
    have lx := t1.len
    have ly := t2.len
    -- the roads as new lists
    refine ⟨_, rfl, t, _, 1, _, rfl, rfl, SqT.of ht0, rfl, q1, rfl, ⟨xs, SqL.of hq1.h⟩, fun r0 hr0 => ?_⟩
    refine lc_list (xs := xs) (fun i H' => (∀ b o, H b = some o → H' b = some o) ∧ ∃ acc, H' r0 = some (.lst acc) ∧ Paired (fun v u => ∃ b, v = V.ref b ∧ H b = none ∧ b ≠ r0 ∧ H' b = some (.lst u)) acc (rt.take i)) ⟨same_new hr0, [], upd_same, .nil⟩ (fun i H' _ z => SqL.of (z.1 _ _ hq1.h)) ?_ ?_
    · rintro i v H2 hv ⟨s2, acc, ha, hacc⟩
      obtain ⟨p1, u, rfl, hp1, hu⟩ := t1.at hv
      refine ⟨rfl, _, rfl, p1, u, rfl, .inr (SqT.of (s2 _ _ hp1)), fun b hb => ?_⟩
      have nb : b ≠ r0 := fun z => by
        rw [z, ha] at hb
        cases hb
      have s3 := same_new (o := .lst u) hb
      have la : acc.length ≤ 50 := by
        rw [pair_len hacc, List.length_take]
        omega
      have fresh : H b = none := none_back s2 hb
      refine ⟨acc, s3 _ _ ha, Nat.lt_of_le_of_lt la (by decide), fun c o hc => ?_, _, upd_same, ?_⟩
      · rw [upd_ne (ne_of_none hc hr0)]
        exact s3 _ _ (s2 _ _ hc)
      · rw [List.take_add_one, hu]
        exact Paired.snoc (pair_imp hacc fun v t ⟨b', e, m1, m2, m3⟩ => ⟨b', e, m1, m2, by rw [upd_ne m2]; exact s3 _ _ m3⟩) ⟨b, rfl, fresh, nb, by rw [upd_ne nb]; exact upd_same⟩
    rintro H1 ⟨e1, acc, ha, hacc⟩
    rw [lx, List.take_length] at hacc
    have fr0 := hr0
    clear hr0
    -- the doors
    refine ⟨_, rfl, t, _, 2, _, rfl, rfl, SqT.of (e1 _ _ ht0), rfl, q2, rfl, ⟨ys, SqL.of (e1 _ _ hq2.h)⟩, fun r1 hr1 => ?_⟩
    refine lc_list (xs := ys) (fun i H' => (∀ b o, H1 b = some o → H' b = some o) ∧ ∃ acc, H' r1 = some (.lst acc) ∧ Paired (fun v u => ∃ b, v = V.ref b ∧ H1 b = none ∧ b ≠ r1 ∧ H' b = some (.lst u)) acc (dt.take i)) ⟨same_new hr1, [], upd_same, .nil⟩ (fun i H' _ z => SqL.of (z.1 _ _ (e1 _ _ hq2.h))) ?_ ?_
    · rintro i v H2 hv ⟨s2, acc, ha, hacc⟩
      obtain ⟨p1, u, rfl, hp1, hu⟩ := t2.at hv
      refine ⟨rfl, _, rfl, p1, u, rfl, .inr (SqT.of (s2 _ _ (e1 _ _ hp1))), fun b hb => ?_⟩
      have nb : b ≠ r1 := fun z => by
        rw [z, ha] at hb
        cases hb
      have s3 := same_new (o := .lst u) hb
      have la : acc.length ≤ 50 := by
        rw [pair_len hacc, List.length_take]
        omega
      have fresh : H1 b = none := none_back s2 hb
      refine ⟨acc, s3 _ _ ha, Nat.lt_of_le_of_lt la (by decide), fun c o hc => ?_, _, upd_same, ?_⟩
      · rw [upd_ne (ne_of_none hc hr1)]
        exact s3 _ _ (s2 _ _ hc)
      · rw [List.take_add_one, hu]
        exact Paired.snoc (pair_imp hacc fun v t ⟨b', e, m1, m2, m3⟩ => ⟨b', e, m1, m2, by rw [upd_ne m2]; exact s3 _ _ m3⟩) ⟨b, rfl, fresh, nb, by rw [upd_ne nb]; exact upd_same⟩
    rintro H2 ⟨e2, bcc, hb, hbcc⟩
    rw [ly, List.take_length] at hbcc
    have fr1 := hr1
    clear hr1
    have e12 : Same H H2 := Same.trans e1 e2
    have S2 := S.but e12
    have nr0 := S.ne_new fr0
    have nr1 := (S.but e1).ne_new fr1
    have S1 := S.but e1
    have rr0 : RowsA a l H2 (.ref r0) rt := ⟨r0, acc, rfl, nr0.1, nr0.2, .inl (e2 _ _ ha), pair_imp hacc fun v t ⟨b, e, m1, m2, m3⟩ => ⟨b, e, (S.ne_new m1).1, (S.ne_new m1).2, .inl (e2 _ _ m3)⟩⟩
    have rr1 : RowsA a l H2 (.ref r1) dt := ⟨r1, bcc, rfl, nr1.1, nr1.2, .inl hb, pair_imp hbcc fun v t ⟨b, e, m1, m2, m3⟩ => ⟨b, e, (S1.ne_new m1).1, (S1.ne_new m1).2, .inl m3⟩⟩
    -- House(places=, doors=, roads=)
    refine ⟨_, _, rfl, _, rfl, t, _, 0, _, rfl, rfl, SqT.of (e12 _ _ ht0), rfl, _, rfl, _, rfl, rfl, rfl, fun x dx hx hdx nx => ?_⟩
    show spHInit K Cp Cr Cd [.ref x, .int n, .ref r0, .ref r1] _ _ _
    refine init_good k0.hc S2 g rr0 rr1 hx hdx nx fun H3 s3 ho ⟨p, q, hp, hq, hx3⟩ => ?_
    have I3 : KI a l C H x dx p q n rt dt H3 := ⟨e12.trans s3, ho.at hx3⟩
    have R0 : Row (fun b => H b = none ∧ b ≠ p ∧ b ≠ q ∧ H1 b ≠ none) H3 r0 acc rt := by
      have ne : ∀ {b : Addr} {o : HO}, H1 b = some o → b ≠ p ∧ b ≠ q ∧ H1 b ≠ none := fun h => ⟨ne_of_none (e2 _ _ h) hp, ne_of_none (e2 _ _ h) hq, by rw [h]; exact fun z => by cases z⟩
      exact ⟨⟨fr0, ne ha⟩, s3 _ _ (e2 _ _ ha), pair_imp hacc fun v t ⟨b, e, m1, m2, m3⟩ => ⟨b, e, ⟨m1, ne m3⟩, m2, s3 _ _ (e2 _ _ m3)⟩⟩
    have R1 : Row (fun b => H b = none ∧ b ≠ p ∧ b ≠ q ∧ H1 b = none) H3 r1 bcc dt := by
      exact ⟨⟨none_back e1 fr1, ne_of_none hb hp, ne_of_none hb hq, fr1⟩, s3 _ _ hb, pair_imp hbcc fun v t ⟨b, e, m1, m2, m3⟩ => ⟨b, e, ⟨none_back e1 m1, ne_of_none m3 hp, ne_of_none m3 hq, m1⟩, m2, s3 _ _ m3⟩⟩
    clear rr0 rr1 S2 ho hx3 ha hb hacc hbcc nr0 nr1 S1 fr0 fr1
    refine ⟨fun σ H' => ∃ x5, σ = [some (.ref a), some (.ref t), some (.ref r0), some (.ref r1), some (.ref x), x5, none, none, none] ∧ KI a l C H x dx p q n rt dt H', ?_, ?_⟩
    · -- what was passed is changed
      refine ⟨_, rfl, _, rfl, (by show 2 ≤ sizeLine; decide), fun tp htp => ?_⟩
      have s4 := same_new (o := .tup [.ref r0, .ref r1]) htp
      have I4 := I3.same s4
      have Q0 := R0.keep fun b o _ h => s4 b o h
      have Q1 := R1.keep fun b o _ h => s4 b o h
      have tt : upd H3 tp (.tup [.ref r0, .ref r1]) tp = some (.tup [.ref r0, .ref r1]) := upd_same
      generalize upd H3 tp (.tup [.ref r0, .ref r1]) = H4 at I4 Q0 Q1 tt ⊢
      clear R0 R1 I3 s4 htp s3
      refine ⟨tp, rfl, ⟨_, SqT.of tt⟩, for_tup (xs := [.ref r0, .ref r1]) (fun i σ H' => (∃ x5, σ = [some (.ref a), some (.ref t), some (.ref r0), some (.ref r1), some (.ref x), x5, none, none, none]) ∧ KI a l C H x dx p q n rt dt H' ∧ H' tp = some (.tup [.ref r0, .ref r1]) ∧
        (i = 0 → Row (fun b => H b = none ∧ b ≠ p ∧ b ≠ q ∧ H1 b ≠ none) H' r0 acc rt) ∧ (i ≤ 1 → Row (fun b => H b = none ∧ b ≠ p ∧ b ≠ q ∧ H1 b = none) H' r1 bcc dt)) ⟨⟨_, rfl⟩, I4, tt, fun _ => Q0, fun _ => Q1⟩ (fun i σ H' _ z => SqT.of z.2.2.1) ?_ ?_⟩
      · clear I4 Q0 Q1 tt H4
        rintro i v σ H4 hv ⟨⟨x5, rfl⟩, I4, tt, Q0, Q1⟩
        obtain ⟨A, r, us, ts, rfl, W, hA, ws, lt2, lts, nxt⟩ : ∃ (A : Addr → Prop) (r : Addr) (us : List V) (ts : List (List V)), v = .ref r ∧ Row A H4 r us ts ∧ (∀ b, A b → H b = none ∧ b ≠ p ∧ b ≠ q) ∧ Ws ts ∧ (∀ t ∈ ts, 2 ≤ t.length) ∧ ts.length ≤ 50 ∧
            (∀ H', (∀ b o, ¬ A b → H4 b = some o → H' b = some o) → (i + 1 = 0 → Row (fun b => H b = none ∧ b ≠ p ∧ b ≠ q ∧ H1 b ≠ none) H' r0 acc rt) ∧ (i + 1 ≤ 1 → Row (fun b => H b = none ∧ b ≠ p ∧ b ≠ q ∧ H1 b = none) H' r1 bcc dt)) := by
          match i, hv with
          | 0, hv =>
            obtain rfl := Option.some.inj hv
            refine ⟨_, r0, acc, rt, rfl, Q0 rfl, fun b z => ⟨z.1, z.2.1, z.2.2.1⟩, g.wr, fun t ht => ?_, l1, fun H' k => ⟨fun z => by omega, fun _ => (Q1 (by omega)).keep fun b o z h => k b o (fun y => y.2.2.2 z.2.2.2) h⟩⟩
            obtain ⟨_, _, _, _, rfl⟩ := g.rows t ht
            show 2 ≤ 4
            decide
          | 1, hv =>
            obtain rfl := Option.some.inj hv
            refine ⟨_, r1, bcc, dt, rfl, Q1 (by omega), fun b z => ⟨z.1, z.2.1, z.2.2.1⟩, g.wd, fun t ht => ?_, l2, fun H' k => ⟨fun z => by omega, fun z => by omega⟩⟩
            obtain ⟨_, _, _, rfl, _⟩ := g.dors t ht
            show 2 ≤ 3
            decide
          | i + 2, hv => cases hv
        clear Q0 Q1
        have lus := pair_len W.it
        have hr0 := hA r W.pr
        -- row != []
        refine ⟨fun σ H' => σ = [some (.ref a), some (.ref t), some (.ref r0), some (.ref r1), some (.ref x), some (.ref r), none, none, none] ∧ KI a l C H x dx p q n rt dt H' ∧ H' tp = some (.tup [.ref r0, .ref r1]) ∧ (∃ us', H' r = some (.lst us') ∧ us'.length ≤ 50) ∧ ∀ b o, ¬ A b → H4 b = some o → H' b = some o, ?_, ?_⟩
        · refine ⟨_, rfl, (by show 0 ≤ sizeLine; decide), fun p5 h5 => ?_⟩
          have s5 := same_new (o := .lst []) h5
          have W5 := W.keep fun b o _ h => s5 b o h
          have I5 := I4.same s5
          have tt5 := s5 _ _ tt
          have e5 : upd H4 p5 (.lst []) p5 = some (.lst []) := upd_same
          generalize upd H4 p5 (.lst []) = H5 at s5 W5 I5 tt5 e5 ⊢
          refine ⟨.list (ts.map ld), .list [], .lst (SqL.of W5.h) (Row.dp W5.it ws), .lst (SqL.of e5) .nil, sh_lds ws, rfl, _, rfl, ?_⟩
          rw [eqv_nil]
          match ts, us, W5, lus, lts, lt2 with
          | [], us, W5, lus, lts, _ => exact iteF ⟨rfl, I5, tt5, ⟨us, W5.h, by omega⟩, fun b o _ h => s5 _ _ h⟩
          | u :: ts, us, W5, lus, lts, lt2 =>
            refine iteT ?_
            obtain ⟨Wp, Wh, Wi⟩ := W5
            cases Wi with
            | cons w1 w2 =>
              obtain ⟨b0, rfl, hb0, nb0, hb0h⟩ := w1
              have l2u := lt2 u List.mem_cons_self
              refine ⟨_, rfl, r, _, 0, .ref b0, rfl, rfl, SqL.of Wh, ?_, b0, u, 1, 1, rfl, rfl, hb0h, ?_, ?_⟩
              · show atI (V.ref b0 :: _) 0 = some (V.ref b0)
                unfold atI ixN
                rw [if_pos (by decide), if_pos (by rw [List.length_cons]; omega)]
                rfl
              · unfold ixN
                rw [if_pos (by decide), if_pos (by omega)]
                rfl
              · have q0 := hA b0 hb0
                have tne : tp ≠ b0 := ne_of tt5 hb0h fun z => by cases z
                refine ⟨rfl, I5.set hb0h q0.1 q0.2.1 q0.2.2, by rw [upd_ne tne]; exact tt5, ⟨_, by rw [upd_ne (Ne.symm nb0)]; exact Wh, by omega⟩, fun b o nA h => ?_⟩
                rw [upd_ne (fun z => nA (by rw [z]; exact hb0))]
                exact s5 _ _ h
        · rintro σ H5 ⟨rfl, I5, tt5, ⟨us', hus, lus'⟩, fr⟩
          refine ⟨_, rfl, .inl ⟨rfl, _, SqL.of hus⟩, r, us', _, rfl, rfl, hus, Nat.lt_of_le_of_lt lus' (by decide), ?_⟩
          have tne : tp ≠ r := ne_of tt5 hus fun z => by cases z
          obtain ⟨n1, n2⟩ := nxt (upd H5 r (.lst (us' ++ [.str "late"]))) fun b o nA h => by
            rw [upd_ne (fun z => nA (by rw [z]; exact W.pr))]
            exact fr _ _ nA h
          exact ⟨⟨_, rfl⟩, I5.set hus hr0.1 hr0.2.1 hr0.2.2, by rw [upd_ne tne]; exact tt5, n1, n2⟩
      · rintro σ H5 ⟨⟨x5, rfl⟩, I5, _⟩
        exact ⟨x5, rfl, I5⟩
    · clear R0 R1 I3 s3
      rintro σ H3 ⟨x5, rfl, I3⟩
      refine ⟨fun σ H' => ∃ x5 x6, σ = [some (.ref a), some (.ref t), some (.ref r0), some (.ref r1), some (.ref x), x5, x6, none, none] ∧ KI a l C H x dx p q n rt dt H', ?_, ?_⟩
      · -- what it told is changed
        refine ⟨_, rfl, x, dx, _, rfl, I3.ho.hx, rfl, a, l, x, n, rt, dt, rfl, I3.ho.obj, fun H4 b1 us1 e4 f1 h1 m1 => ?_⟩
        have I4 := I3.same e4
        refine ⟨_, rfl, x, dx, _, rfl, I4.ho.hx, rfl, a, l, x, n, rt, dt, rfl, I4.ho.obj, fun H5 b2 us2 e5 f2 h2 m2 => ?_⟩
        have I5 := I4.same e5
        refine ⟨(by show 2 ≤ sizeLine; decide), fun tp htp => ?_⟩
        have s6 := same_new (o := .tup [.ref b1, .ref b2]) htp
        have I6 := I5.same s6
        have o1 : H b1 = none ∧ b1 ≠ p ∧ b1 ≠ q := by
          obtain ⟨_, _, z1, z2, _⟩ := I3.ho.ex
          exact ⟨none_back I3.s f1, Ne.symm (ne_of_none z1.h f1), Ne.symm (ne_of_none z2.h f1)⟩
        have o2 : H b2 = none ∧ b2 ≠ p ∧ b2 ≠ q := by
          obtain ⟨_, _, z1, z2, _⟩ := I4.ho.ex
          exact ⟨none_back I4.s f2, Ne.symm (ne_of_none z1.h f2), Ne.symm (ne_of_none z2.h f2)⟩
        have n12 : b2 ≠ b1 := Ne.symm (ne_of_none h1 f2)
        have lu1 : us1.length ≤ 50 := by
          rw [m1.len]
          exact l1
        have lu2 : us2.length ≤ 50 := by
          rw [m2.len]
          exact l2
        have h1' := s6 _ _ (e5 _ _ h1)
        have h2' := s6 _ _ h2
        have tt : upd H5 tp (.tup [.ref b1, .ref b2]) tp = some (.tup [.ref b1, .ref b2]) := upd_same
        generalize upd H5 tp (.tup [.ref b1, .ref b2]) = H6 at I6 h1' h2' tt ⊢
        clear s6 I5 I4 I3 e4 e5 f1 f2 h1 h2 m1 m2 htp H5 H4
        refine ⟨tp, rfl, ⟨_, SqT.of tt⟩, for_tup (xs := [.ref b1, .ref b2]) (fun i σ H' => (∃ x5 x6, σ = [some (.ref a), some (.ref t), some (.ref r0), some (.ref r1), some (.ref x), x5, x6, none, none]) ∧ KI a l C H x dx p q n rt dt H' ∧ H' tp = some (.tup [.ref b1, .ref b2]) ∧
          (i = 0 → ∃ us, H' b1 = some (.lst us) ∧ us.length ≤ 50) ∧ (i ≤ 1 → ∃ us, H' b2 = some (.lst us) ∧ us.length ≤ 50)) ⟨⟨_, _, rfl⟩, I6, tt, fun _ => ⟨_, h1', lu1⟩, fun _ => ⟨_, h2', lu2⟩⟩ (fun i σ H' _ z => SqT.of z.2.2.1) ?_ ?_⟩
        · clear I6 h1' h2' tt lu1 lu2
          rintro i v σ H4 hv ⟨⟨x5, x6, rfl⟩, I4, tt, Q0, Q1⟩
          obtain ⟨b, us, rfl, hb, lus, ob, nxt⟩ : ∃ (b : Addr) (us : List V), v = .ref b ∧ H4 b = some (.lst us) ∧ us.length ≤ 50 ∧ (H b = none ∧ b ≠ p ∧ b ≠ q) ∧ (∀ H' : Hp, (∀ c o, c ≠ b → H4 c = some o → H' c = some o) → (i + 1 = 0 → ∃ us, H' b1 = some (.lst us) ∧ us.length ≤ 50) ∧ (i + 1 ≤ 1 → ∃ us, H' b2 = some (.lst us) ∧ us.length ≤ 50)) := by
            match i, hv with
            | 0, hv =>
              obtain rfl := Option.some.inj hv
              obtain ⟨us, z1, z2⟩ := Q0 rfl
              refine ⟨b1, us, rfl, z1, z2, o1, fun H' k => ⟨fun z => by omega, fun _ => ?_⟩⟩
              obtain ⟨us', y1, y2⟩ := Q1 (by omega)
              exact ⟨us', k _ _ n12 y1, y2⟩
            | 1, hv =>
              obtain rfl := Option.some.inj hv
              obtain ⟨us, z1, z2⟩ := Q1 (by omega)
              exact ⟨b2, us, rfl, z1, z2, o2, fun H' k => ⟨fun z => by omega, fun z => by omega⟩⟩
            | i + 2, hv => cases hv
          clear Q0 Q1
          refine ⟨_, rfl, .inl ⟨rfl, _, SqL.of hb⟩, b, us, _, rfl, rfl, hb, Nat.lt_of_le_of_lt lus (by decide), ?_⟩
          have I5 := I4.set (zs := us ++ [V.str "late"]) hb ob.1 ob.2.1 ob.2.2
          have tb : tp ≠ b := ne_of tt hb fun z => by cases z
          have hb5 : upd H4 b (.lst (us ++ [V.str "late"])) b = some (.lst (us ++ [V.str "late"])) := upd_same
          refine ⟨_, rfl, .inl ⟨rfl, _, SqL.of hb5⟩, b, us ++ [V.str "late"], rfl, rfl, hb5, ?_⟩
          have I6 := I5.set (zs := (us ++ [V.str "late"]).reverse) hb5 ob.1 ob.2.1 ob.2.2
          obtain ⟨n1, n2⟩ := nxt (upd (upd H4 b (.lst (us ++ [V.str "late"]))) b (.lst (us ++ [V.str "late"]).reverse)) fun c o nc h => by
            rw [upd_ne nc, upd_ne nc]
            exact h
          exact ⟨⟨_, _, rfl⟩, I6, by rw [upd_ne tb, upd_ne tb]; exact tt, n1, n2⟩
        · rintro σ H5 ⟨⟨x5, x6, rfl⟩, I5, _⟩
          exact ⟨x5, x6, rfl, I5⟩
      · clear I3 H3 x5
        rintro σ H3 ⟨x5, x6, rfl, I3⟩
        have ht3 : HT a l H3 t n rt dt := ht.go (.same I3.s)
        refine ⟨_, rfl, _, rfl, a, l, x, t, n, rt, dt, rfl, I3.ho.obj, ht3, g, fun H4 e4 => ⟨_, rfl, iteT ?_⟩⟩
        have I4 := I3.same e4
        have ht4 := ht3.go (.same e4)
        have S4 := S.but I4.s
        obtain ⟨q3, q4, us, vs, hz, hq3, hq4, m1, m2⟩ := ht4.ex
        refine ⟨_, rfl, _, rfl, t, _, 0, _, rfl, rfl, SqT.of hz, rfl, _, rfl, t, _, 1, _, rfl, rfl, SqT.of hz, rfl, _, rfl, t, _, 2, _, rfl, rfl, SqT.of hz, rfl, fun y dy hy hdy ny => ?_⟩
        show spHInit K Cp Cr Cd [.ref y, .int n, .ref q3, .ref q4] _ _ _
        refine init_good k0.hc S4 g (hq3.rows S4 m1) (hq4.rows S4 m2) hy hdy ny fun H5 e5 ho5 _ => ?_
        have I5 := I4.same e5
        refine ⟨x, dx, _, .ref C, rfl, I5.ho.hx, k0.ty ho5, notFirst_own, a, l, x, .ref y, n, rt, dt, rfl, I5.ho.obj, g.wr, g.wd, .inl ⟨y, n, rt, dt, rfl, ho5, g.wr, g.wd, fun H6 e6 => ⟨_, rfl, ?_⟩⟩⟩
        have z := k H6 (I5.s.trans e6)
        simp only [and_self, decide_true]
        exact z
end
end K01

set_option Elab.async false
set_option linter.all false
set_option maxRecDepth 100000
set_option maxHeartbeats 4000000
namespace K01
open PySem PySem.Spec PyProof.Rows L2 Own
/-- a road between places, of length 0 up the ranks alone -/
def RG (n : Int) (rk : Int → Nat) (t : List V) : Prop := ∃ x y d r : Int, t = [.int x, .int y, .int d, .int r] ∧ 0 ≤ x ∧ x < n ∧ 0 ≤ y ∧ y < n ∧ x ≠ y ∧ 0 ≤ d ∧ 1 ≤ r ∧ (d = 0 → rk x < rk y)
def DG (n : Int) (S : Int → Bool) (t : List V) : Prop := ∃ x h : Int, t = [.str (if S x = true then "in" else "out"), .int x, .int h] ∧ 0 ≤ x ∧ x < n ∧ 0 ≤ h
theorem quads {n : Int} {rk : Int → Nat} : ∀ {rt : List (List V)}, (∀ t ∈ rt, RG n rk t) → ∃ es : List Ed, rt = es.map qv ∧ ∀ e ∈ es, EdOk n e ∧ (e.2.2.1 = 0 → rk e.1 < rk e.2.1)
  | [], _ => ⟨[], rfl, fun _ h => by cases h⟩
  | t :: r, h => by
    obtain ⟨x, y, d, m, rfl, x0, x1, y0, y1, ne, d0, m1, up⟩ := h t List.mem_cons_self
    obtain ⟨es, rfl, k⟩ := quads fun u hu => h u (List.mem_cons_of_mem _ hu)
    refine ⟨(x, y, d, m) :: es, rfl, fun e he => ?_⟩
    rcases List.mem_cons.mp he with rfl | he
    · exact ⟨⟨x0, x1, y0, y1, ne, d0, m1⟩, up⟩
    · exact k e he
theorem good_of {n : Int} {rt dt : List (List V)} (n1 : 1 ≤ n) (r : ∃ rk, ∀ t ∈ rt, RG n rk t) (d : ∃ S, ∀ t ∈ dt, DG n S t) (lr : rt.length ≤ 50) (ld : dt.length ≤ 50) : GoodT n rt dt := by
  refine ⟨n1, fun j hj b => ?_, fun j hj b => ?_, lr, ld⟩
  · obtain ⟨rk, r⟩ := r
    obtain ⟨es, rfl, k⟩ := quads r
    rw [List.length_map, List.length_map] at hj
    refine no_bad (fun e he => (k e he).1) rk (fun e he => (k e he).2) hj ?_
    rw [List.map_map] at b
    exact b
  · obtain ⟨S, d⟩ := d
    rw [List.length_map] at hj
    obtain ⟨s, hs, b⟩ := b
    rw [List.getElem?_map, List.getElem?_eq_getElem hj] at hs
    obtain rfl := Option.some.inj hs
    obtain ⟨x, h, e, x0, x1, h0⟩ := d _ (List.getElem_mem hj)
    rcases b with b | ⟨z, p, h', i, z', h2, e1, hi, e2, ne⟩
    · rw [e] at b
      have io : isIO (.str (if S x = true then "in" else "out")) = true := by
        cases S x
        · show isIO (.str "out") = true
          decide
        · show isIO (.str "in") = true
          decide
      have q : (isIO (.str (if S x = true then "in" else "out")) && (isP n (.int x) && isN (.int h))) = false := b
      rw [io, isP_of x0 x1, isN_of h0] at q
      cases q
    · rw [e] at e1
      have f1 := List.cons.inj (Option.some.inj e1)
      have f2 := List.cons.inj f1.2
      have hil : i < dt.length := by omega
      rw [List.getElem?_map, List.getElem?_eq_getElem hil] at e2
      obtain ⟨y, g, e3, _⟩ := d _ (List.getElem_mem hil)
      have e2' := Option.some.inj (Option.some.inj e2)
      rw [e3] at e2'
      have g1 := List.cons.inj e2'
      have g2 := List.cons.inj g1.2
      have xy : y = x := (V.int.inj g2.1).trans (V.int.inj f2.1).symm
      refine ne ?_
      rw [← V.str.inj f1.1, ← V.str.inj g1.1, xy]
/-- a drawn house: places, roads, doors of both kinds -/
structure Hou (n : Int) (rt dt : List (List V)) : Prop where
  n2 : 2 ≤ n
  n20 : n ≤ 30
  r : ∃ rk, ∀ t ∈ rt, RG n rk t
  d : ∃ S, ∀ t ∈ dt, DG n S t
  lr : 0 < rt.length ∧ rt.length ≤ 40
  ld : 0 < dt.length ∧ dt.length ≤ 40
theorem Hou.good {n : Int} {rt dt : List (List V)} (h : Hou n rt dt) : GoodT n rt dt := good_of (by have := h.n2; omega) h.r h.d (by have := h.lr; omega) (by have := h.ld; omega)
theorem tt_of {H : Hp} {P : List V → Prop} : ∀ {xs : List V}, AllT H P xs → ∃ ts, TT H xs ts ∧ ∀ t ∈ ts, P t
  | [], _ => ⟨[], rfl, fun _ h => by cases h⟩
  | v :: r, h => by
    obtain ⟨p, t, rfl, hp, ht⟩ := h v List.mem_cons_self
    obtain ⟨ts, k1, k2⟩ := tt_of (xs := r) fun u hu => h u (List.mem_cons_of_mem _ hu)
    refine ⟨t :: ts, TT.app (TT.one hp) k1, fun u hu => ?_⟩
    rcases List.mem_cons.mp hu with rfl | hu
    · exact ht
    · exact k2 u hu
theorem hou_of {H : Hp} {many full doors : Int} {pr pd : Addr} {xs ys : List V} (h : HouseAt H many full doors pr pd xs ys) (f1 : 1 ≤ full) (f40 : full ≤ 40) (d40 : doors ≤ 40) : ∃ rt dt, TT H xs rt ∧ TT H ys dt ∧ Hou many rt dt := by
  obtain ⟨ps, rk, S, hps, hr, hd⟩ := h.roads
  obtain ⟨rt, t1, k1⟩ := tt_of hr
  obtain ⟨dt, t2, k2⟩ := tt_of hd
  have l1 := t1.len
  have l2 := t2.len
  have a1 := h.lr
  have a2 := h.ld
  have a3 := h.ld2
  have a4 := h.lr1 f1
  have a5 := h.m20
  refine ⟨rt, dt, t1, t2, h.m2, by omega, ⟨rk, fun t ht => ?_⟩, ⟨S, fun t ht => ?_⟩, by omega, by omega⟩
  · obtain ⟨x, y, d, r, e, hx, hy, ne, d0, _, r1, _, up⟩ := k1 t ht
    exact ⟨x, y, d, r, e, (hps x hx).1, (hps x hx).2, (hps y hy).1, (hps y hy).2, ne, d0, r1, up⟩
  · obtain ⟨x, g, e, hx, g0, _⟩ := k2 t ht
    exact ⟨x, g, e, (hps x hx).1, (hps x hx).2, g0⟩
/-! ### houses that are others -/
/-- good, and not this one -/
structure Oth (n : Int) (rt dt : List (List V)) (n' : Int) (rt' dt' : List (List V)) : Prop where
  g : GoodT n' rt' dt'
  ne : ¬ (n = n' ∧ rt = rt' ∧ dt = dt')
theorem RG.up {n m : Int} {rk : Int → Nat} {t : List V} (h : RG n rk t) (k : n ≤ m) : RG m rk t := by
  obtain ⟨x, y, d, r, e, x0, x1, y0, y1, z⟩ := h
  exact ⟨x, y, d, r, e, x0, by omega, y0, by omega, z⟩
theorem DG.up {n m : Int} {S : Int → Bool} {t : List V} (h : DG n S t) (k : n ≤ m) : DG m S t := by
  obtain ⟨x, g, e, x0, x1, g0⟩ := h
  exact ⟨x, g, e, x0, by omega, g0⟩
section
variable {n : Int} {rt dt : List (List V)} (h : Hou n rt dt)
include h
theorem Hou.o1 : Oth n rt dt (n + 1) rt dt := by
  obtain ⟨rk, r⟩ := h.r
  obtain ⟨S, d⟩ := h.d
  have a := h.lr
  have b := h.ld
  have c := h.n2
  exact ⟨good_of (by omega) ⟨rk, fun t ht => (r t ht).up (by omega)⟩ ⟨S, fun t ht => (d t ht).up (by omega)⟩ (by omega) (by omega), fun z => by omega⟩
theorem Hou.o2 : Oth n rt dt n (rt ++ [[.int 0, .int 1, .int 7, .int 1]]) dt := by
  obtain ⟨rk, r⟩ := h.r
  have a := h.lr
  have b := h.ld
  have c := h.n2
  refine ⟨good_of (by omega) ⟨rk, fun t ht => ?_⟩ h.d (by rw [List.length_append, List.length_singleton]; omega) (by omega), fun z => ?_⟩
  · rcases List.mem_append.mp ht with ht | ht
    · exact r t ht
    · rw [List.mem_singleton.mp ht]
      exact ⟨0, 1, 7, 1, rfl, by decide, by omega, by decide, by omega, by decide, by decide, by decide, fun z => absurd z (by decide)⟩
  · have := congrArg List.length z.2.1
    rw [List.length_append, List.length_singleton] at this
    omega
theorem Hou.o3 {t : List V} (ht : t ∈ dt) : Oth n rt dt n rt (dt ++ [t]) := by
  obtain ⟨S, d⟩ := h.d
  have a := h.lr
  have b := h.ld
  have c := h.n2
  refine ⟨good_of (by omega) h.r ⟨S, fun u hu => ?_⟩ (by omega) (by rw [List.length_append, List.length_singleton]; omega), fun z => ?_⟩
  · rcases List.mem_append.mp hu with hu | hu
    · exact d u hu
    · rw [List.mem_singleton.mp hu]
      exact d t ht
  · have := congrArg List.length z.2.2
    rw [List.length_append, List.length_singleton] at this
    omega
theorem set_ne {ts : List (List V)} {j : Nat} {t u : List V} (hj : ts[j]? = some t) (ne : t ≠ u) : ts ≠ ts.take j ++ [u] ++ ts.drop (j + 1) := fun z => by
  have lj := (List.getElem?_eq_some_iff.mp hj).1
  have e : (ts.take j ++ [u] ++ ts.drop (j + 1))[j]? = some u := by
    rw [List.append_assoc, List.getElem?_append_right (by rw [List.length_take]; omega), List.length_take, Nat.min_eq_left (by omega), Nat.sub_self]
    rfl
  rw [← z, hj] at e
  exact ne (Option.some.inj e)
theorem set_len {ts : List (List V)} {j : Nat} {t u : List V} (hj : ts[j]? = some t) : (ts.take j ++ [u] ++ ts.drop (j + 1)).length = ts.length := by
  have lj := (List.getElem?_eq_some_iff.mp hj).1
  rw [List.length_append, List.length_append, List.length_take, List.length_drop, List.length_singleton]
  omega
theorem set_mem {ts : List (List V)} {j : Nat} {u v : List V} (hv : v ∈ ts.take j ++ [u] ++ ts.drop (j + 1)) : v ∈ ts ∨ v = u := by
  rcases List.mem_append.mp hv with hv | hv
  · rcases List.mem_append.mp hv with hv | hv
    · exact .inl (List.mem_of_mem_take hv)
    · exact .inr (List.mem_singleton.mp hv)
  · exact .inl (List.mem_of_mem_drop hv)
theorem Hou.o4 {j : Nat} {x y d r d' r' : Int} (hj : rt[j]? = some [.int x, .int y, .int d, .int r]) (ne : d ≠ d' ∨ r ≠ r') (h1 : d ≤ d') (h2 : r ≤ r') : Oth n rt dt n (rt.take j ++ [[.int x, .int y, .int d', .int r']] ++ rt.drop (j + 1)) dt := by
  obtain ⟨rk, q⟩ := h.r
  have a := h.lr
  have b := h.ld
  have c := h.n2
  refine ⟨good_of (by omega) ⟨rk, fun t ht => ?_⟩ h.d (by rw [set_len h hj]; omega) (by omega), fun z => set_ne h hj (fun e => ?_) z.2.1⟩
  · rcases set_mem h ht with ht | rfl
    · exact q t ht
    · obtain ⟨x', y', d0, r0, e, x0, x1, y0, y1, nxy, d0', r1, up⟩ := q _ (List.mem_of_getElem? hj)
      have e1 := List.cons.inj e
      have e2 := List.cons.inj e1.2
      have e3 := List.cons.inj e2.2
      have e4 := List.cons.inj e3.2
      have f1 := V.int.inj e1.1
      have f2 := V.int.inj e2.1
      have f3 := V.int.inj e3.1
      have f4 := V.int.inj e4.1
      subst f1 f2 f3 f4
      exact ⟨x, y, d', r', rfl, x0, x1, y0, y1, nxy, by omega, by omega, fun z => up (by omega)⟩
  · have e1 := List.cons.inj e
    have e2 := List.cons.inj e1.2
    have e3 := List.cons.inj e2.2
    have e4 := List.cons.inj e3.2
    have f3 := V.int.inj e3.1
    have f4 := V.int.inj e4.1
    omega
theorem Hou.o5 {j : Nat} {z : Str} {x g : Int} (hj : dt[j]? = some [.str z, .int x, .int g]) : Oth n rt dt n rt (dt.take j ++ [[.str z, .int x, .int (g + 1)]] ++ dt.drop (j + 1)) := by
  obtain ⟨S, q⟩ := h.d
  have a := h.lr
  have b := h.ld
  have c := h.n2
  refine ⟨good_of (by omega) h.r ⟨S, fun t ht => ?_⟩ (by omega) (by rw [set_len h hj]; omega), fun z => set_ne h hj (fun e => ?_) z.2.2⟩
  · rcases set_mem h ht with ht | rfl
    · exact q t ht
    · obtain ⟨x', g', e, x0, x1, g0⟩ := q _ (List.mem_of_getElem? hj)
      have e1 := List.cons.inj e
      have e2 := List.cons.inj e1.2
      have e3 := List.cons.inj e2.2
      have f2 := V.int.inj e2.1
      have f3 := V.int.inj e3.1
      subst f2 f3
      exact ⟨x, g + 1, by rw [e1.1], x0, x1, by omega⟩
  · have e1 := List.cons.inj e
    have e2 := List.cons.inj e1.2
    have e3 := List.cons.inj e2.2
    have f3 := V.int.inj e3.1
    omega
theorem Hou.o6 (ne : rt ≠ rt.reverse) : Oth n rt dt n rt.reverse dt := by
  obtain ⟨rk, q⟩ := h.r
  have a := h.lr
  have b := h.ld
  have c := h.n2
  exact ⟨good_of (by omega) ⟨rk, fun t ht => q t (List.mem_reverse.mp ht)⟩ h.d (by rw [List.length_reverse]; omega) (by omega), fun z => ne z.2.1⟩
theorem Hou.o7 (ne : dt ≠ dt.reverse) : Oth n rt dt n rt dt.reverse := by
  obtain ⟨S, q⟩ := h.d
  have a := h.lr
  have b := h.ld
  have c := h.n2
  exact ⟨good_of (by omega) h.r ⟨S, fun t ht => q t (List.mem_reverse.mp ht)⟩ (by omega) (by rw [List.length_reverse]; omega), fun z => ne z.2.2⟩
end
end K01

set_option Elab.async false
set_option linter.all false
set_option maxRecDepth 100000
set_option maxHeartbeats 4000000
namespace K01
open PySem PySem.Spec PyProof.Rows L2 Own
abbrev NOth : List Str := ["_law_stream_here", "_law_house_here", "_law_many", "_law_roads", "_law_doors", "_law_found", "_law_at", "_law_one", "_law_other", "_law_length", "_law_room", "_law_road", "_law_sort", "_law_place", "_law_hour"]
theorem scOthers : FnScope NOth ["_law_stream_here", "_law_house_here"] (defScope sOthers) := ⟨rfl, rfl, rfl, by decide +kernel, rfl, by decide +kernel, by decide +kernel⟩
/-- all but what stands at a, l and f stays -/
structure Gx (a l f : Addr) (H H' : Hp) : Prop where
  k : ∀ b o, b ≠ a → b ≠ l → b ≠ f → H b = some o → H' b = some o
  t : TL H H'
theorem Gx.go {a l f : Addr} {H H' : Hp} (g : Go a l H H') : Gx a l f H H' := ⟨fun b o h1 h2 _ e => g.k b o h1 h2 e, g.t⟩
theorem Gx.trans {a l f : Addr} {H H1 H2 : Hp} (x : Gx a l f H H1) (y : Gx a l f H1 H2) : Gx a l f H H2 := ⟨fun b o h1 h2 h3 e => y.k b o h1 h2 h3 (x.k b o h1 h2 h3 e), x.t.trans y.t⟩
theorem Gx.set {a l f : Addr} {H : Hp} {xs : List V} {o : HO} (h : H f = some (.lst xs)) : Gx a l f H (upd H f o) := ⟨fun b u _ _ h3 e => by
  rw [upd_ne h3]
  exact e, fun b t e => by
  rw [upd_ne (ne_of e h fun z => by cases z)]
  exact e⟩
theorem Gx.to {a l f : Addr} {H H' : Hp} (g : Gx a l f H H') (h : H f = none) : Go a l H H' := ⟨fun b o h1 h2 e => g.k b o h1 h2 (ne_of_none e h) e, g.t⟩
/-- another house, none of its lists at f -/
def OV (a l f : Addr) (n : Int) (rt dt : List (List V)) (H : Hp) (v : V) : Prop := ∃ (t p q : Addr) (n' : Int) (xs ys : List V) (rt' dt' : List (List V)), v = .ref t ∧ H t = some (.tup [.int n', .ref p, .ref q]) ∧ Ls a l H p xs ∧ Ls a l H q ys ∧ p ≠ f ∧ q ≠ f ∧ TT H xs rt' ∧ TT H ys dt' ∧ Oth n rt dt n' rt' dt'
theorem OV.gx {a l f : Addr} {n : Int} {rt dt : List (List V)} {H H' : Hp} {v : V} (h : OV a l f n rt dt H v) (g : Gx a l f H H') : OV a l f n rt dt H' v := by
  obtain ⟨t, p, q, n', xs, ys, rt', dt', e, h1, h2, h3, n1, n2, t1, t2, o⟩ := h
  exact ⟨t, p, q, n', xs, ys, rt', dt', e, g.t _ _ h1, ⟨h2.na, h2.nl, g.k _ _ h2.na h2.nl n1 h2.h⟩, ⟨h3.na, h3.nl, g.k _ _ h3.na h3.nl n2 h3.h⟩, n1, n2, t1.tl g.t, t2.tl g.t, o⟩
/-- the others so far, in the list at f -/
structure OI (a l : Addr) (H0 : Hp) (f p q : Addr) (n : Int) (xs ys : List V) (rt dt : List (List V)) (N : Int) (k : Nat) (H : Hp) : Prop where
  s : Strm N H a l
  g : Gx a l f H0 H
  f0 : H0 f = none
  na : f ≠ a
  nl : f ≠ l
  lp : Ls a l H p xs
  lq : Ls a l H q ys
  np : p ≠ f
  nq : q ≠ f
  tp : TT H xs rt
  tq : TT H ys dt
  h : ∃ acc, H f = some (.lst acc) ∧ acc.length ≤ k ∧ ∀ v ∈ acc, OV a l f n rt dt H v
section
variable {a l f p q : Addr} {H0 H H' : Hp} {n N M : Int} {xs ys : List V} {rt dt : List (List V)} {k : Nat}
theorem OI.go (w : OI a l H0 f p q n xs ys rt dt N k H) (g : Go a l H H') (S : Strm M H' a l) : OI a l H0 f p q n xs ys rt dt M k H' := by
  obtain ⟨acc, h1, h2, h3⟩ := w.h
  exact ⟨S, w.g.trans (.go g), w.f0, w.na, w.nl, w.lp.go g, w.lq.go g, w.np, w.nq, w.tp.tl g.t, w.tq.tl g.t, acc, g.k _ _ w.na w.nl h1, h2, fun v hv => (h3 v hv).gx (.go g)⟩
theorem OI.same (w : OI a l H0 f p q n xs ys rt dt N k H) (e : Same H H') : OI a l H0 f p q n xs ys rt dt N k H' := w.go (.same e) (w.s.but e)
theorem OI.draw (w : OI a l H0 f p q n xs ys rt dt N k H) (b : But2 a l H H') (S : Strm M H' a l) : OI a l H0 f p q n xs ys rt dt M k H' := w.go (.but w.s b) S
theorem OI.push (w : OI a l H0 f p q n xs ys rt dt N k H) {acc : List V} (h : H f = some (.lst acc)) {v : V} (hv : OV a l f n rt dt H v) : OI a l H0 f p q n xs ys rt dt N (k + 1) (upd H f (.lst (acc ++ [v]))) := by
  obtain ⟨acc', h1, h2, h3⟩ := w.h
  rw [h] at h1
  obtain rfl := HO.lst.inj (Option.some.inj h1)
  have g : Gx a l f H (upd H f (.lst (acc ++ [v]))) := .set h
  refine ⟨w.s.upd w.na w.nl, w.g.trans g, w.f0, w.na, w.nl, ⟨w.lp.na, w.lp.nl, g.k _ _ w.lp.na w.lp.nl w.np w.lp.h⟩, ⟨w.lq.na, w.lq.nl, g.k _ _ w.lq.na w.lq.nl w.nq w.lq.h⟩, w.np, w.nq, w.tp.tl g.t, w.tq.tl g.t, _, upd_same, by rw [List.length_append, List.length_singleton]; omega, fun u hu => ?_⟩
  rcases List.mem_append.mp hu with hu | hu
  · exact (h3 u hu).gx g
  · rw [List.mem_singleton.mp hu]
    exact hv.gx g
end
theorem OI.push0 {a l f p q : Addr} {H0 H : Hp} {n N : Int} {xs ys : List V} {rt dt : List (List V)} {k : Nat} (w : OI a l H0 f p q n xs ys rt dt N k H) {acc : List V} (h : H f = some (.lst acc)) : OI a l H0 f p q n xs ys rt dt N (k + 1) (upd H f (.lst (acc ++ []))) := by
  obtain ⟨acc', h1, h2, h3⟩ := w.h
  rw [h] at h1
  obtain rfl := HO.lst.inj (Option.some.inj h1)
  have g : Gx a l f H (upd H f (.lst (acc ++ []))) := .set h
  refine ⟨w.s.upd w.na w.nl, w.g.trans g, w.f0, w.na, w.nl, ⟨w.lp.na, w.lp.nl, g.k _ _ w.lp.na w.lp.nl w.np w.lp.h⟩, ⟨w.lq.na, w.lq.nl, g.k _ _ w.lq.na w.lq.nl w.nq w.lq.h⟩, w.np, w.nq, w.tp.tl g.t, w.tq.tl g.t, _, upd_same, by rw [List.append_nil]; omega, fun u hu => ?_⟩
  rw [List.append_nil] at hu
  exact (h3 u hu).gx g
theorem TT.take {H : Hp} {xs : List V} {ts : List (List V)} (h : TT H xs ts) (k : Nat) : TT H (xs.take k) (ts.take k) := by
  unfold TT at *
  rw [List.map_take, List.map_take, h]
theorem TT.drop {H : Hp} {xs : List V} {ts : List (List V)} (h : TT H xs ts) (k : Nat) : TT H (xs.drop k) (ts.drop k) := by
  unfold TT at *
  rw [List.map_drop, List.map_drop, h]
theorem TT.rev {H : Hp} {xs : List V} {ts : List (List V)} (h : TT H xs ts) : TT H xs.reverse ts.reverse := by
  unfold TT at *
  rw [List.map_reverse, List.map_reverse, h]
def spOthers : Sp := fun vs H Q _ => ∃ (a l t : Addr) (N n : Int) (rt dt : List (List V)), vs = [.ref a, .ref t] ∧ Strm N H a l ∧ 0 ≤ N ∧ N + 10 ≤ 1000000000 ∧ HT a l H t n rt dt ∧ Hou n rt dt ∧
  ∀ H' b zs, Go a l H H' → Ls a l H' b zs → zs.length ≤ 20 → (∀ v ∈ zs, ∃ t' n' rt' dt', v = .ref t' ∧ HT a l H' t' n' rt' dt' ∧ Oth n rt dt n' rt' dt') → Strm (N + 10) H' a l → Q (.ref b) H'
def sgO (a t : Addr) (n : Int) (p q : Addr) (f at_ x7 x8 x9 x10 x11 x12 x13 x14 : Option V) : L2.St := [some (.ref a), some (.ref t), some (.int n), some (.ref p), some (.ref q), f, at_, x7, x8, x9, x10, x11, x12, x13, x14]
section
variable {P : Program} {w : World} {K : PySem.W.Frag} {mg : Str → Option Value} {base : Heap}
theorem ok_others {g fD fP : Addr} {fd fdD fdP : FuncData} (F : Fun K "_law_others" "_law_others" sOthers g fd) (T : Bt mg) (FD : Fun K "_law_draw" "_law_draw" sDraw fD fdD) (gD : mg "_law_draw" = some (.ref fD)) (bD : Binds K fdD ["_law_stream_here", "_law_many"] [])
    (FP : Fun K "_law_pick" "_law_pick" sPick fP fdP) (gP : mg "_law_pick" = some (.ref fP)) (bP : Binds K fdP ["_law_stream_here", "_law_things"] []) : FnOk P w K mg base CX0 3 g fd ["_law_stream_here", "_law_house_here"] spOthers := by
  have GP : FnOk P w K mg base CX0 2 fP fdP ["_law_stream_here", "_law_things"] spPick := ok_pick FP T FD gD bD
  refine F.ok scOthers (fun vs H Q E h => ?_) (fun cdv A outer s H vs Q E hr h => ?_)
  · obtain ⟨a, l, t, N, n, rt, dt, rfl, _⟩ := h
    rfl
  · obtain ⟨a, l, t, N, n, rt, dt, rfl, S, N0, N1, ht, hh, k⟩ := h
    refine ⟨_, (pss_cons (ps_asg (pv 1) (pg_tup rfl (pgs_cons (pg_name (i := 2) (x := "_law_many") scOthers.nd rfl (Or.inl rfl)) (pgs_cons (pg_name (i := 3) (x := "_law_roads") scOthers.nd rfl (Or.inl rfl)) (pgs_cons (pg_name (i := 4) (x := "_law_doors") scOthers.nd rfl (Or.inl rfl)) pgs_nil)))))
  (Evl.pss_cut (ps_set (i := 5) scOthers.nd rfl (Or.inl rfl) (pe_lst (pa_cons (pe_tup (pa_cons (pe_op op_add (pv 2) pe_int) (pa_cons (pv 3) (pa_cons (pv 4) pa_nil)))) (pa_cons (pe_tup (pa_cons (pv 2) (pa_cons (pe_op op_cat (pv 3) (pe_lst (pa_cons (pe_tup (pa_cons pe_int (pa_cons pe_int (pa_cons pe_int (pa_cons pe_int pa_nil))))) pa_nil))) (pa_cons (pv 4) pa_nil)))) pa_nil))))
  (Evl.pss_cut (ps_expr (pe_bm PySem.F.plainAttrs_list PySem.F.slot_list_append PySem.F.type_list_append mt_append (pv 5) (pa_cons (pe_tup (pa_cons (pv 2) (pa_cons (pv 3) (pa_cons (pe_op op_cat (pv 4) (pe_lst (pa_cons (pe_call GP (hr.mono (by decide)) (by rfl) gP FP.kp bP .nil pass0 (pa_cons (pv 0) (pa_cons (pv 4) pa_nil))) pa_nil))) pa_nil)))) pa_nil)))
  (Evl.pss_cut (ps_asg (pe_call GP (hr.mono (by decide)) (by rfl) gP FP.kp bP .nil pass0 (pa_cons (pv 0) (pa_cons (pe_listEnum rfl (pa_cons (pv 3) pa_nil) (by rfl) T.list (by decide +kernel) (by rfl) T.enum) pa_nil))) (pg_tup rfl (pgs_cons (pg_name (i := 6) (x := "_law_at") scOthers.nd rfl (Or.inl rfl)) (pgs_cons (pg_tup rfl (pgs_cons (pg_name (i := 7) (x := "_law_one") scOthers.nd rfl (Or.inl rfl)) (pgs_cons (pg_name (i := 8) (x := "_law_other") scOthers.nd rfl (Or.inl rfl)) (pgs_cons (pg_name (i := 9) (x := "_law_length") scOthers.nd rfl (Or.inl rfl)) (pgs_cons (pg_name (i := 10) (x := "_law_room") scOthers.nd rfl (Or.inl rfl)) pgs_nil))))) pgs_nil))))
  (Evl.pss_cut (ps_for PassesOwn.never rfl (pi_tup (pe_tup (pa_cons (pe_tup (pa_cons (pv 7) (pa_cons (pv 8) (pa_cons (pe_op op_add (pv 9) pe_int) (pa_cons (pv 10) pa_nil))))) (pa_cons (pe_tup (pa_cons (pv 7) (pa_cons (pv 8) (pa_cons (pv 9) (pa_cons (pe_op op_add (pv 10) pe_int) pa_nil))))) pa_nil)))) (pg_name (i := 11) (x := "_law_road") scOthers.nd rfl (Or.inl rfl)) (pss_one (ps_expr (pe_bm PySem.F.plainAttrs_list PySem.F.slot_list_append PySem.F.type_list_append mt_append (pv 5) (pa_cons (pe_tup (pa_cons (pv 2) (pa_cons (pe_op op_cat (pe_op op_cat (pe_slice sl_list (pv 3) po_none (po_some (pv 6))) (pe_lst (pa_cons (pv 11) pa_nil))) (pe_slice sl_list (pv 3) (po_some (pe_op op_add (pv 6) pe_int)) po_none)) (pa_cons (pv 4) pa_nil)))) pa_nil)))))
  (Evl.pss_cut (ps_asg (pe_call GP (hr.mono (by decide)) (by rfl) gP FP.kp bP .nil pass0 (pa_cons (pv 0) (pa_cons (pe_listEnum rfl (pa_cons (pv 4) pa_nil) (by rfl) T.list (by decide +kernel) (by rfl) T.enum) pa_nil))) (pg_tup rfl (pgs_cons (pg_name (i := 6) (x := "_law_at") scOthers.nd rfl (Or.inl rfl)) (pgs_cons (pg_tup rfl (pgs_cons (pg_name (i := 12) (x := "_law_sort") scOthers.nd rfl (Or.inl rfl)) (pgs_cons (pg_name (i := 13) (x := "_law_place") scOthers.nd rfl (Or.inl rfl)) (pgs_cons (pg_name (i := 14) (x := "_law_hour") scOthers.nd rfl (Or.inl rfl)) pgs_nil)))) pgs_nil))))
  (Evl.pss_cut (ps_expr (pe_bm PySem.F.plainAttrs_list PySem.F.slot_list_append PySem.F.type_list_append mt_append (pv 5) (pa_cons (pe_tup (pa_cons (pv 2) (pa_cons (pv 3) (pa_cons (pe_op op_cat (pe_op op_cat (pe_slice sl_list (pv 4) po_none (po_some (pv 6))) (pe_lst (pa_cons (pe_tup (pa_cons (pv 12) (pa_cons (pv 13) (pa_cons (pe_op op_add (pv 14) pe_int) pa_nil)))) pa_nil))) (pe_slice sl_list (pv 4) (po_some (pe_op op_add (pv 6) pe_int)) po_none)) pa_nil)))) pa_nil)))
  (Evl.pss_cut (ps_expr (pe_bm PySem.F.plainAttrs_list PySem.F.slot_list_extend PySem.F.type_list_extend mt_extend (pv 5) (pa_cons (pe_ifExp (pt_cmpR (op_neD hr.units) (pv 3) (pe_revL (pv 3)) (nomark _)) (pe_lst (pa_cons (pe_tup (pa_cons (pv 2) (pa_cons (pe_revL (pv 3)) (pa_cons (pv 4) pa_nil)))) pa_nil)) (pe_lst pa_nil)) pa_nil)))
  (pss_one (ps_ret (pe_op op_cat (pv 5) (pe_ifExp (pt_cmpR (op_neD hr.units) (pv 4) (pe_revL (pv 4)) (nomark _)) (pe_lst (pa_cons (pe_tup (pa_cons (pv 2) (pa_cons (pv 3) (pa_cons (pe_revL (pv 4)) pa_nil)))) pa_nil)) (pe_lst pa_nil))))))))))))), ?_⟩
    obtain ⟨p, q, xs, ys, ht0, hp, hq, t1, t2⟩ := ht.ex
    have lr := hh.lr
    have ld := hh.ld
    have lx := t1.len
    have ly := t2.len
    have sz : ∀ {k : Nat}, k ≤ 100 → k ≤ sizeLine := fun h => Nat.le_trans h (by decide)
    have sz' : ∀ {k : Nat}, k ≤ 100 → k < sizeLine := fun h => Nat.lt_of_le_of_lt h (by decide)
    refine ⟨_, rfl, t, _, rfl, SqT.of ht0, rfl, _, _, rfl, _, _, rfl, _, _, rfl, rfl, ?_⟩
    refine ⟨fun σ H' => ∃ f, σ = sgO a t n p q (some (.ref f)) none none none none none none none none none ∧ OI a l H f p q n xs ys rt dt N 2 H', ?_, ?_⟩
    · refine ⟨_, rfl, _, _, rfl, rfl, _, rfl, _, rfl, (by show 3 ≤ sizeLine; decide), fun u1 h1 => ?_⟩
      have s1 := same_new (o := .tup [.int (n + 1), .ref p, .ref q]) h1
      refine ⟨_, rfl, _, rfl, (by show 4 ≤ sizeLine; decide), fun w1 h2 => ⟨(by show 1 ≤ sizeLine; decide), fun w2 h3 => ?_⟩⟩
      have s2 := same_new (o := .tup [.int 0, .int 1, .int 7, .int 1]) h2
      have s3 := same_new (o := .lst [.ref w1]) h3
      have s13 := s1.trans (s2.trans s3)
      refine ⟨p, w2, _, _, rfl, rfl, s13 _ _ hp.h, upd_same, sz (by show xs.length + 1 ≤ 100; omega), fun c hc => ?_⟩
      have s4 := same_new (o := .lst (xs ++ [.ref w1])) hc
      refine ⟨_, rfl, (by show 3 ≤ sizeLine; decide), fun u2 h5 => ⟨(by show 2 ≤ sizeLine; decide), fun f hf => ?_⟩⟩
      have s5 := same_new (o := .tup [.int n, .ref c, .ref q]) h5
      have s6 := same_new (o := .lst [.ref u1, .ref u2]) hf
      have s26 := s2.trans (s3.trans (s4.trans (s5.trans s6)))
      have s16 := s1.trans s26
      have f0 : H f = none := none_back (s13.trans (s4.trans s5)) hf
      have nf := S.ne_new f0
      have c0 : H c = none := none_back s13 hc
      have nc := S.ne_new c0
      have cf : c ≠ f := ne_of_none (s5 _ _ upd_same) hf
      have tl : TL H _ := (Go.same (a := a) (l := l) s16).t
      have gg := Go.same (a := a) (l := l) s16
      have hw := (s3.trans (s4.trans (s5.trans s6))) _ _ (upd_same : upd _ w1 (.tup [.int 0, .int 1, .int 7, .int 1]) w1 = _)
      have hu1 := s26 _ _ (upd_same : upd H u1 (.tup [.int (n + 1), .ref p, .ref q]) u1 = _)
      have hu2 := s6 _ _ (upd_same : upd _ u2 (.tup [.int n, .ref c, .ref q]) u2 = _)
      have hcc := (s5.trans s6) _ _ (upd_same : upd _ c (.lst (xs ++ [.ref w1])) c = _)
      refine ⟨f, rfl, S.but s16, .go gg, f0, nf.1, nf.2, hp.go gg, hq.go gg, ne_of_none hp.h f0, ne_of_none hq.h f0, t1.tl tl, t2.tl tl, _, upd_same, Nat.le_refl _, fun v hv => ?_⟩
      simp only [List.mem_cons, List.not_mem_nil, or_false] at hv
      rcases hv with rfl | rfl
      · exact ⟨u1, p, q, n + 1, xs, ys, rt, dt, rfl, hu1, hp.go gg, hq.go gg, ne_of_none hp.h f0, ne_of_none hq.h f0, t1.tl tl, t2.tl tl, hh.o1⟩
      · exact ⟨u2, c, q, n, _, ys, _, dt, rfl, hu2, ⟨nc.1, nc.2, hcc⟩, hq.go gg, cf, ne_of_none hq.h f0, (t1.tl tl).app (TT.one hw), t2.tl tl, hh.o2⟩
    · rintro σ H1 ⟨f, rfl, W⟩
      refine ⟨fun σ H' => σ = sgO a t n p q (some (.ref f)) none none none none none none none none none ∧ OI a l H f p q n xs ys rt dt (N + 1) 3 H', ?_, ?_⟩
      · obtain ⟨acc0, ha0, la0, _⟩ := W.h
        refine ⟨_, rfl, .inl ⟨rfl, _, SqL.of ha0⟩, _, rfl, _, rfl, _, rfl, _, rfl, _, rfl, a, l, q, N, ys, rfl, W.s, N0, by omega, W.lq.na, W.lq.nl, W.lq.h, by omega, by omega, fun H2 v hv b2 S2 => ?_⟩
        have W2 := W.draw b2 S2
        refine ⟨(by show 1 ≤ sizeLine; decide), fun w1 h3 => ?_⟩
        have W3 := W2.same (same_new (o := .lst [v]) h3)
        refine ⟨q, w1, _, _, rfl, rfl, W3.lq.h, upd_same, sz (by show ys.length + 1 ≤ 100; omega), fun c hc => ?_⟩
        have s4 := same_new (o := .lst (ys ++ [v])) hc
        have nc := W3.s.ne_new hc
        obtain ⟨_, z3, _⟩ := W3.h
        have cf : c ≠ f := Ne.symm (ne_of_none z3 hc)
        have W4 := W3.same s4
        refine ⟨(by show 3 ≤ sizeLine; decide), fun u h5 => ?_⟩
        have s5 := same_new (o := .tup [.int n, .ref p, .ref c]) h5
        have W5 := W4.same s5
        obtain ⟨acc, ha, la, _⟩ := W5.h
        refine ⟨f, acc, _, rfl, rfl, ha, sz' (by omega), rfl, W5.push ha ?_⟩
        obtain ⟨b, t', rfl, hb, hm⟩ := W5.tq.mem hv
        exact ⟨u, p, c, n, xs, _, rt, _, rfl, upd_same, W5.lp, ⟨nc.1, nc.2, s5 _ _ upd_same⟩, W5.np, cf, W5.tp, W5.tq.app (TT.one hb), hh.o3 hm⟩
      · clear W
        rintro σ H1 ⟨rfl, W⟩
        -- a road of which the length, the room grows
        refine ⟨fun σ H' => ∃ (j : Nat) (e1 e2 e3 e4 : Int), σ = sgO a t n p q (some (.ref f)) (some (.int j)) (some (.int e1)) (some (.int e2)) (some (.int e3)) (some (.int e4)) none none none none ∧ rt[j]? = some [.int e1, .int e2, .int e3, .int e4] ∧ OI a l H f p q n xs ys rt dt (N + 2) 3 H', ?_, ?_⟩
        · refine ⟨_, rfl, _, rfl, p, xs, rfl, SqL.of W.lp.h, fun H2 b ts k1 k2 k3 k4 k5 k6 k7 => ?_⟩
          have W2 := W.same k1
          have nb := W.s.ne_new k2
          refine ⟨a, l, b, _, _, rfl, W2.s, by omega, by omega, nb.1, nb.2, k5, by rw [List.length_map]; omega, by rw [List.length_map]; omega, fun H3 v hv b3 S3 => ?_⟩
          have W3 := W2.draw b3 S3
          obtain ⟨u, hu, rfl⟩ := List.mem_map.mp hv
          obtain ⟨j, hj⟩ := List.mem_iff_getElem?.mp hu
          have jl := (List.getElem?_eq_some_iff.mp hj).1
          have hx : xs[j]? = some xs[j] := List.getElem?_eq_getElem (by omega)
          have hut := (b3.tl W2.s) _ _ (k7 j u _ hj hx)
          obtain ⟨c, tt, ec, hc, htt⟩ := W3.tp.at hx
          rw [ec] at hut
          obtain ⟨rk, hr⟩ := hh.r
          obtain ⟨e1, e2, e3, e4, rfl, _⟩ := hr tt (List.mem_of_getElem? htt)
          refine ⟨u, _, rfl, SqT.of hut, rfl, _, _, rfl, _, _, rfl, c, _, rfl, SqT.of hc, rfl, _, _, rfl, _, _, rfl, _, _, rfl, _, _, rfl, rfl, rfl, ?_⟩
          exact ⟨j, e1, e2, e3, e4, rfl, htt, by have := W3; rw [show N + 2 = N + 1 + 1 by omega]; exact W3⟩
        · clear W
          rintro σ H1 ⟨j, e1, e2, e3, e4, rfl, hj, W⟩
          have jl := (List.getElem?_eq_some_iff.mp hj).1
          refine ⟨fun σ H' => (∃ x7 x8 x9 x10 x11, σ = sgO a t n p q (some (.ref f)) (some (.int j)) x7 x8 x9 x10 x11 none none none) ∧ OI a l H f p q n xs ys rt dt (N + 2) 5 H', ?_, ?_⟩
          · refine ⟨_, rfl, _, rfl, _, rfl, _, _, rfl, rfl, _, rfl, (by show 4 ≤ sizeLine; decide), fun v1 h1 => ?_⟩
            refine ⟨_, rfl, _, rfl, _, rfl, _, rfl, _, _, rfl, rfl, (by show 4 ≤ sizeLine; decide), fun v2 h2 => ⟨(by show 2 ≤ sizeLine; decide), fun tp htp => ?_⟩⟩
            have s1 := same_new (o := .tup [.int e1, .int e2, .int (e3 + 1), .int e4]) h1
            have s2 := same_new (o := .tup [.int e1, .int e2, .int e3, .int (e4 + 1)]) h2
            have s3 := same_new (o := .tup [.ref v1, .ref v2]) htp
            have W3 := W.same (s1.trans (s2.trans s3))
            have g1 := (s2.trans s3) _ _ (upd_same : upd H1 v1 (.tup [.int e1, .int e2, .int (e3 + 1), .int e4]) v1 = _)
            have g2 := s3 _ _ (upd_same : upd _ v2 (.tup [.int e1, .int e2, .int e3, .int (e4 + 1)]) v2 = _)
            refine ⟨tp, rfl, ⟨_, SqT.of upd_same⟩, for_tup (xs := [.ref v1, .ref v2]) (fun i σ H' => (∃ x11, σ = sgO a t n p q (some (.ref f)) (some (.int j)) (some (.int e1)) (some (.int e2)) (some (.int e3)) (some (.int e4)) x11 none none none) ∧ OI a l H f p q n xs ys rt dt (N + 2) (3 + i) H' ∧ H' tp = some (.tup [.ref v1, .ref v2]) ∧
              H' v1 = some (.tup [.int e1, .int e2, .int (e3 + 1), .int e4]) ∧ H' v2 = some (.tup [.int e1, .int e2, .int e3, .int (e4 + 1)])) ⟨⟨_, rfl⟩, W3, upd_same, g1, g2⟩ (fun i σ H' _ z => SqT.of z.2.2.1) ?_ ?_⟩
            · clear W W3 g1 g2 s1 s2 s3 h1 h2 htp
              rintro i v σ H2 hv ⟨⟨x11, rfl⟩, W, tt, g1, g2⟩
              have hi : i < 2 := (List.getElem?_eq_some_iff.mp hv).1
              obtain ⟨u, d3, d4, rfl, hu, ne, le3, le4⟩ : ∃ (u : Addr) (d3 d4 : Int), v = .ref u ∧ H2 u = some (.tup [.int e1, .int e2, .int d3, .int d4]) ∧ (e3 ≠ d3 ∨ e4 ≠ d4) ∧ e3 ≤ d3 ∧ e4 ≤ d4 := by
                match i, hv with
                | 0, hv => exact ⟨v1, e3 + 1, e4, (Option.some.inj hv).symm, g1, by omega, by omega, by omega⟩
                | 1, hv => exact ⟨v2, e3, e4 + 1, (Option.some.inj hv).symm, g2, by omega, by omega, by omega⟩
                | i + 2, hv => cases hv
              obtain ⟨acc0, ha0, la0, _⟩ := W.h
              have j1 : ((j : Int) + 1).toNat = j + 1 := by omega
              refine ⟨_, rfl, .inl ⟨rfl, _, SqL.of ha0⟩, _, rfl, _, rfl, _, rfl, (j : Int), rfl, p, _, rfl, SqL.of W.lp.h, fun c1 h1 => ?_⟩
              rw [cut_to _ (by omega), Int.toNat_natCast]
              have W1 := W.same (same_new (o := .lst (xs.take j)) h1)
              have k1 : upd H2 c1 (.lst (xs.take j)) c1 = some (.lst (xs.take j)) := upd_same
              have a1 := same_new (o := .lst (xs.take j)) h1
              have u1 := a1 _ _ hu
              generalize upd H2 c1 (.lst (xs.take j)) = H3 at W1 k1 u1 a1 ⊢
              refine ⟨_, rfl, (by show 1 ≤ sizeLine; decide), fun c2 h2 => ?_⟩
              have W2 := W1.same (same_new (o := .lst [.ref u]) h2)
              refine ⟨c1, c2, _, _, rfl, rfl, same_new (o := .lst [.ref u]) h2 _ _ k1, upd_same, sz (by show (xs.take j).length + 1 ≤ 100; rw [List.length_take]; omega), fun c3 h3 => ?_⟩
              have W3 := W2.same (same_new (o := .lst (xs.take j ++ [.ref u])) h3)
              have k3 : upd (upd H3 c2 (.lst [.ref u])) c3 (.lst (xs.take j ++ [.ref u])) c3 = some (.lst (xs.take j ++ [.ref u])) := upd_same
              have a3 := (same_new (o := .lst [.ref u]) h2).trans (same_new (o := .lst (xs.take j ++ [.ref u])) h3)
              have u3 := a3 _ _ u1
              generalize upd (upd H3 c2 (.lst [.ref u])) c3 (.lst (xs.take j ++ [.ref u])) = H4 at W3 k3 u3 a3 ⊢
              refine ⟨_, rfl, _, rfl, _, _, rfl, rfl, (j : Int) + 1, rfl, p, _, rfl, SqL.of W3.lp.h, fun c4 h4 => ?_⟩
              rw [cut_from _ (by omega), j1]
              have s4 := same_new (o := .lst (xs.drop (j + 1))) h4
              have W4 := W3.same s4
              refine ⟨c3, c4, _, _, rfl, rfl, s4 _ _ k3, upd_same, sz (by rw [List.length_append, List.length_take, List.length_drop, List.length_singleton]; omega), fun c5 h5 => ?_⟩
              have s5 := same_new (o := .lst (xs.take j ++ [.ref u] ++ xs.drop (j + 1))) h5
              have nc := W4.s.ne_new h5
              obtain ⟨_, z4, _⟩ := W4.h
              have cf : c5 ≠ f := Ne.symm (ne_of_none z4 h5)
              have W5 := W4.same s5
              have u5 := s5 _ _ (s4 _ _ u3)
              refine ⟨_, rfl, (by show 3 ≤ sizeLine; decide), fun u2 h6 => ?_⟩
              have s6 := same_new (o := .tup [.int n, .ref c5, .ref q]) h6
              have W6 := W5.same s6
              obtain ⟨acc, ha, la, _⟩ := W6.h
              have W7 := W6.push ha (v := .ref u2) ⟨u2, c5, q, n, _, ys, _, dt, rfl, upd_same, ⟨nc.1, nc.2, s6 _ _ upd_same⟩, W6.lq, cf, W6.nq, ((W6.tp.take j).app (TT.one (s6 _ _ u5))).app (W6.tp.drop (j + 1)), W6.tq, hh.o4 hj ne le3 le4⟩
              refine ⟨f, acc, _, rfl, rfl, ha, sz' (by omega), ⟨_, rfl⟩, W7, ?_, ?_, ?_⟩
              all_goals refine (Gx.set (a := a) (l := l) ha).t _ _ (s6 _ _ (s5 _ _ (s4 _ _ (a3 _ _ (a1 _ _ ?_)))))
              · exact tt
              · exact g1
              · exact g2
            · rintro σ H2 ⟨⟨x11, rfl⟩, W, _⟩
              exact ⟨⟨_, _, _, _, _, rfl⟩, W⟩
          · clear W
            rintro σ H1 ⟨⟨x7, x8, x9, x10, x11, rfl⟩, W⟩
            -- a door of which the hour grows
            refine ⟨fun σ H' => ∃ (i : Nat) (z : Str) (e1 e2 : Int) (x7 x8 x9 x10 x11 : Option V), σ = sgO a t n p q (some (.ref f)) (some (.int i)) x7 x8 x9 x10 x11 (some (.str z)) (some (.int e1)) (some (.int e2)) ∧ dt[i]? = some [.str z, .int e1, .int e2] ∧ OI a l H f p q n xs ys rt dt (N + 3) 5 H', ?_, ?_⟩
            · refine ⟨_, rfl, _, rfl, q, ys, rfl, SqL.of W.lq.h, fun H2 b ts k1 k2 k3 k4 k5 k6 k7 => ?_⟩
              have W2 := W.same k1
              have nb := W.s.ne_new k2
              refine ⟨a, l, b, _, _, rfl, W2.s, by omega, by omega, nb.1, nb.2, k5, by rw [List.length_map]; omega, by rw [List.length_map]; omega, fun H3 v hv b3 S3 => ?_⟩
              have W3 := W2.draw b3 S3
              obtain ⟨u, hu, rfl⟩ := List.mem_map.mp hv
              obtain ⟨i, hi⟩ := List.mem_iff_getElem?.mp hu
              have il := (List.getElem?_eq_some_iff.mp hi).1
              have hx : ys[i]? = some ys[i] := List.getElem?_eq_getElem (by omega)
              have hut := (b3.tl W2.s) _ _ (k7 i u _ hi hx)
              obtain ⟨c, tt, ec, hc, htt⟩ := W3.tq.at hx
              rw [ec] at hut
              obtain ⟨S', hd⟩ := hh.d
              obtain ⟨e1, e2, rfl, _⟩ := hd tt (List.mem_of_getElem? htt)
              refine ⟨u, _, rfl, SqT.of hut, rfl, _, _, rfl, _, _, rfl, c, _, rfl, SqT.of hc, rfl, _, _, rfl, _, _, rfl, _, _, rfl, rfl, rfl, ?_⟩
              exact ⟨i, _, e1, e2, _, _, _, _, _, rfl, htt, by rw [show N + 3 = N + 2 + 1 by omega]; exact W3⟩
            · clear W x7 x8 x9 x10 x11
              rintro σ H1 ⟨i, z, e1, e2, x7, x8, x9, x10, x11, rfl, hi, W⟩
              have il := (List.getElem?_eq_some_iff.mp hi).1
              have i1 : ((i : Int) + 1).toNat = i + 1 := by omega
              refine ⟨fun σ H' => (∃ x6 x7 x8 x9 x10 x11 x12 x13 x14, σ = sgO a t n p q (some (.ref f)) x6 x7 x8 x9 x10 x11 x12 x13 x14) ∧ OI a l H f p q n xs ys rt dt (N + 3) 6 H', ?_, ?_⟩
              · obtain ⟨acc0, ha0, la0, _⟩ := W.h
                refine ⟨_, rfl, .inl ⟨rfl, _, SqL.of ha0⟩, _, rfl, _, rfl, _, rfl, _, rfl, (i : Int), rfl, q, _, rfl, SqL.of W.lq.h, fun c1 h1 => ?_⟩
                rw [cut_to _ (by omega), Int.toNat_natCast]
                have W1 := W.same (same_new (o := .lst (ys.take i)) h1)
                have k1 : upd H1 c1 (.lst (ys.take i)) c1 = some (.lst (ys.take i)) := upd_same
                generalize upd H1 c1 (.lst (ys.take i)) = H3 at W1 k1 ⊢
                refine ⟨_, rfl, _, rfl, _, rfl, _, _, rfl, rfl, (by show 3 ≤ sizeLine; decide), fun u h2 => ⟨(by show 1 ≤ sizeLine; decide), fun c2 h2' => ?_⟩⟩
                have s2 := same_new (o := .tup [.str z, .int e1, .int (e2 + 1)]) h2
                have s2' := same_new (o := .lst [.ref u]) h2'
                have W2 := W1.same (s2.trans s2')
                refine ⟨c1, c2, _, _, rfl, rfl, s2' _ _ (s2 _ _ k1), upd_same, sz (by show (ys.take i).length + 1 ≤ 100; rw [List.length_take]; omega), fun c3 h3 => ?_⟩
                have W3 := W2.same (same_new (o := .lst (ys.take i ++ [.ref u])) h3)
                have k3 : upd (upd (upd H3 u (.tup [.str z, .int e1, .int (e2 + 1)])) c2 (.lst [.ref u])) c3 (.lst (ys.take i ++ [.ref u])) c3 = some (.lst (ys.take i ++ [.ref u])) := upd_same
                have u3 := same_new (o := .lst (ys.take i ++ [.ref u])) h3 _ _ (s2' _ _ (upd_same : upd H3 u (.tup [.str z, .int e1, .int (e2 + 1)]) u = _))
                generalize upd (upd (upd H3 u (.tup [.str z, .int e1, .int (e2 + 1)])) c2 (.lst [.ref u])) c3 (.lst (ys.take i ++ [.ref u])) = H4 at W3 k3 u3 ⊢
                refine ⟨_, rfl, _, rfl, _, _, rfl, rfl, (i : Int) + 1, rfl, q, _, rfl, SqL.of W3.lq.h, fun c4 h4 => ?_⟩
                rw [cut_from _ (by omega), i1]
                have s4 := same_new (o := .lst (ys.drop (i + 1))) h4
                have W4 := W3.same s4
                refine ⟨c3, c4, _, _, rfl, rfl, s4 _ _ k3, upd_same, sz (by rw [List.length_append, List.length_take, List.length_drop, List.length_singleton]; omega), fun c5 h5 => ?_⟩
                have s5 := same_new (o := .lst (ys.take i ++ [.ref u] ++ ys.drop (i + 1))) h5
                have nc := W4.s.ne_new h5
                obtain ⟨_, z4, _⟩ := W4.h
                have cf : c5 ≠ f := Ne.symm (ne_of_none z4 h5)
                have W5 := W4.same s5
                have u5 := s5 _ _ (s4 _ _ u3)
                refine ⟨(by show 3 ≤ sizeLine; decide), fun u2 h6 => ?_⟩
                have s6 := same_new (o := .tup [.int n, .ref p, .ref c5]) h6
                have W6 := W5.same s6
                obtain ⟨acc, ha, la, _⟩ := W6.h
                have W7 := W6.push ha (v := .ref u2) ⟨u2, p, c5, n, xs, _, rt, _, rfl, upd_same, W6.lp, ⟨nc.1, nc.2, s6 _ _ upd_same⟩, W6.np, cf, W6.tp, ((W6.tq.take i).app (TT.one (s6 _ _ u5))).app (W6.tq.drop (i + 1)), hh.o5 hi⟩
                exact ⟨f, acc, _, rfl, rfl, ha, sz' (by omega), ⟨_, _, _, _, _, _, _, _, _, rfl⟩, W7⟩
              · clear W x7 x8 x9 x10 x11
                rintro σ H1 ⟨⟨x6, x7, x8, x9, x10, x11, x12, x13, x14, rfl⟩, W⟩
                refine ⟨fun σ H' => (∃ x6 x7 x8 x9 x10 x11 x12 x13 x14, σ = sgO a t n p q (some (.ref f)) x6 x7 x8 x9 x10 x11 x12 x13 x14) ∧ OI a l H f p q n xs ys rt dt (N + 3) 7 H', ?_, ?_⟩
                · obtain ⟨acc0, ha0, la0, _⟩ := W.h
                  refine ⟨_, rfl, .inl ⟨rfl, _, SqL.of ha0⟩, ?_⟩
                  refine ⟨_, rfl, _, rfl, p, xs, rfl, SqL.of W.lp.h, fun c1 h1 => ?_⟩
                  have W1 := W.same (same_new (o := .lst xs.reverse) h1)
                  have k1 : upd H1 c1 (.lst xs.reverse) c1 = some (.lst xs.reverse) := upd_same
                  generalize upd H1 c1 (.lst xs.reverse) = H3 at W1 k1 ⊢
                  have ws : Ws rt := hh.good.wr
                  have ws' : Ws rt.reverse := fun t ht => ws t (List.mem_reverse.mp ht)
                  refine ⟨.list (rt.map td), .list (rt.reverse.map td), .lst (SqL.of W1.lp.h) (W1.tp.dp ws), .lst (SqL.of k1) (W1.tp.rev.dp ws'), sh_rows ws, sh_rows ws', ?_⟩
                  rw [show PyData.eqv (.list (rt.map td)) (.list (rt.reverse.map td)) = decide (rt = rt.reverse) from eqv_rows ws ws']
                  refine ⟨_, rfl, ?_⟩
                  by_cases e : rt = rt.reverse
                  · rw [decide_eq_true e]
                    refine iteF ⟨(by show 0 ≤ sizeLine; decide), fun c2 h2 => ?_⟩
                    have W2 := W1.same (same_new (o := .lst []) h2)
                    obtain ⟨acc, ha, la, _⟩ := W2.h
                    exact ⟨f, c2, acc, [], rfl, rfl, ha, upd_same, sz (by show acc.length + 0 ≤ 100; omega), ⟨_, _, _, _, _, _, _, _, _, rfl⟩, W2.push0 ha⟩
                  · rw [decide_eq_false e]
                    refine iteT ⟨_, rfl, _, rfl, p, xs, rfl, SqL.of W1.lp.h, fun c2 h2 => ?_⟩
                    have nc := W1.s.ne_new h2
                    obtain ⟨_, z4, _⟩ := W1.h
                    have cf : c2 ≠ f := Ne.symm (ne_of_none z4 h2)
                    have W2 := W1.same (same_new (o := .lst xs.reverse) h2)
                    refine ⟨_, rfl, (by show 3 ≤ sizeLine; decide), fun u2 h6 => ⟨(by show 1 ≤ sizeLine; decide), fun c7 h7 => ?_⟩⟩
                    have s6 := same_new (o := .tup [.int n, .ref c2, .ref q]) h6
                    have s7 := same_new (o := .lst [.ref u2]) h7
                    have W6 := W2.same (s6.trans s7)
                    obtain ⟨acc, ha, la, _⟩ := W6.h
                    have W7 := W6.push ha (v := .ref u2) ⟨u2, c2, q, n, _, ys, _, dt, rfl, s7 _ _ upd_same, ⟨nc.1, nc.2, s7 _ _ (s6 _ _ upd_same)⟩, W6.lq, cf, W6.nq, W6.tp.rev, W6.tq, hh.o6 e⟩
                    exact ⟨f, c7, acc, _, rfl, rfl, ha, upd_same, sz (by show acc.length + 1 ≤ 100; omega), ⟨_, _, _, _, _, _, _, _, _, rfl⟩, W7⟩
                · clear W x6 x7 x8 x9 x10 x11 x12 x13 x14
                  rintro σ H1 ⟨⟨x6, x7, x8, x9, x10, x11, x12, x13, x14, rfl⟩, W⟩
                  refine ⟨_, rfl, _, rfl, _, rfl, q, ys, rfl, SqL.of W.lq.h, fun c1 h1 => ?_⟩
                  have W1 := W.same (same_new (o := .lst ys.reverse) h1)
                  have k1 : upd H1 c1 (.lst ys.reverse) c1 = some (.lst ys.reverse) := upd_same
                  generalize upd H1 c1 (.lst ys.reverse) = H3 at W1 k1 ⊢
                  have ws : Ws dt := hh.good.wd
                  have ws' : Ws dt.reverse := fun t ht => ws t (List.mem_reverse.mp ht)
                  refine ⟨.list (dt.map td), .list (dt.reverse.map td), .lst (SqL.of W1.lq.h) (W1.tq.dp ws), .lst (SqL.of k1) (W1.tq.rev.dp ws'), sh_rows ws, sh_rows ws', ?_⟩
                  rw [show PyData.eqv (.list (dt.map td)) (.list (dt.reverse.map td)) = decide (dt = dt.reverse) from eqv_rows ws ws']
                  refine ⟨_, rfl, ?_⟩
                  have fin : ∀ H' b zs, Go a l H3 H' → H3 b = none → Strm (N + 3) H' a l → H' b = some (.lst zs) → zs.length ≤ 20 → (∀ v ∈ zs, OV a l f n rt dt H' v) → Q (.ref b) H' := fun H' b zs g hb S' hz lz hv => by
                    have gg := W1.g.trans (.go g)
                    have nb := W1.s.ne_new hb
                    refine k H' b zs (gg.to W1.f0) ⟨nb.1, nb.2, hz⟩ lz (fun v hv' => ?_) (S'.mono (by omega))
                    obtain ⟨t, p, q, n', xs, ys, rt', dt', e, h1, h2, h3, _, _, t1, t2, o⟩ := hv v hv'
                    exact ⟨t, n', rt', dt', e, ⟨p, q, xs, ys, h1, h2, h3, t1, t2⟩, o⟩
                  by_cases e : dt = dt.reverse
                  · rw [decide_eq_true e]
                    refine iteF ⟨(by show 0 ≤ sizeLine; decide), fun c2 h2 => ?_⟩
                    have s2 := same_new (o := .lst []) h2
                    have W2 := W1.same s2
                    obtain ⟨acc, ha, la, va⟩ := W2.h
                    refine ⟨f, c2, acc, [], rfl, rfl, ha, upd_same, sz (by show acc.length + 0 ≤ 100; omega), fun b hb => ?_⟩
                    have s3 := same_new (o := .lst (acc ++ [])) hb
                    refine fin _ b _ (.same (s2.trans s3)) (none_back s2 hb) (W2.s.but s3) upd_same (by rw [List.append_nil]; omega) fun v hv => ?_
                    rw [List.append_nil] at hv
                    exact (va v hv).gx (.go (.same s3))
                  · rw [decide_eq_false e]
                    refine iteT ⟨_, rfl, _, rfl, _, rfl, q, ys, rfl, SqL.of W1.lq.h, fun c2 h2 => ?_⟩
                    have nc := W1.s.ne_new h2
                    obtain ⟨_, z4, _⟩ := W1.h
                    have cf : c2 ≠ f := Ne.symm (ne_of_none z4 h2)
                    have s2 := same_new (o := .lst ys.reverse) h2
                    have W2 := W1.same s2
                    refine ⟨(by show 3 ≤ sizeLine; decide), fun u2 h6 => ⟨(by show 1 ≤ sizeLine; decide), fun c7 h7 => ?_⟩⟩
                    have s6 := same_new (o := .tup [.int n, .ref p, .ref c2]) h6
                    have s7 := same_new (o := .lst [.ref u2]) h7
                    have W6 := W2.same (s6.trans s7)
                    obtain ⟨acc, ha, la, va⟩ := W6.h
                    have o7 : OV a l f n rt dt _ (.ref u2) := ⟨u2, p, c2, n, xs, _, rt, _, rfl, s7 _ _ upd_same, W6.lp, ⟨nc.1, nc.2, s7 _ _ (s6 _ _ upd_same)⟩, W6.np, cf, W6.tp, W6.tq.rev, hh.o7 e⟩
                    refine ⟨f, c7, acc, _, rfl, rfl, ha, upd_same, sz (by show acc.length + 1 ≤ 100; omega), fun b hb => ?_⟩
                    have s8 := same_new (o := .lst (acc ++ [.ref u2])) hb
                    refine fin _ b _ (.same (s2.trans ((s6.trans s7).trans s8))) (none_back (s2.trans (s6.trans s7)) hb) (W6.s.but s8) upd_same (by rw [List.length_append, List.length_singleton]; omega) fun v hv => ?_
                    rcases List.mem_append.mp hv with hv | hv
                    · exact (va v hv).gx (.go (.same s8))
                    · rw [List.mem_singleton.mp hv]
                      exact o7.gx (.go (.same s8))
end
end K01

set_option Elab.async false
set_option linter.all false
set_option maxRecDepth 100000
set_option maxHeartbeats 4000000
namespace K01
open PySem PySem.Spec PyProof.Rows L2 Own
abbrev NLaw : List Str := ["_law_script", "_law_stream_here", "_law_bare", "_law_turn", "_law_house_here", "_law_made_here", "_law_other", "_law_thing"]
theorem scLaw : FnScope NLaw ["_law_script"] (defScope sLaw) := ⟨rfl, rfl, rfl, by decide +kernel, rfl, by decide +kernel, by decide +kernel⟩
def spLaw (K : PySem.W.Frag) : Sp := fun vs H Q _ => ∃ (a : Addr) (ns : List Int), vs = [.ref a] ∧ SqL K H a (ns.map V.int) ∧ ns.length ≤ 63 ∧ ∀ H', Q (.bl true) H'
/-- a house against a house -/
theorem own_house {K : PySem.W.Frag} {C a l x x' : Addr} {H : Hp} {n n' : Int} {rt dt rt' dt' : List (List V)} {neg : Bool} {Q : VK} (k0 : HK K C) (h : HObj a l C H x n rt dt) (g : GoodT n rt dt) (h' : HObj a l C H x' n' rt' dt') (g' : GoodT n' rt' dt')
    (k : ∀ H', Same H H' → Q (.bl (if neg = true then !decide (n = n' ∧ rt = rt' ∧ dt = dt') else decide (n = n' ∧ rt = rt' ∧ dt = dt'))) H') : rOwn K C neg (spEqH C) E0 (.ref x) (.ref x') H Q := by
  obtain ⟨dx, p, q, rs, ds, h1, _⟩ := h.ex
  exact ⟨x, dx, _, .ref C, rfl, h1, k0.ty h', notFirst_own, a, l, x, .ref x', n, rt, dt, rfl, h, g.wr, g.wd, .inl ⟨x', n', rt', dt', rfl, h', g'.wr, g'.wd, fun H6 e6 => ⟨_, rfl, k H6 e6⟩⟩⟩
theorem own_hs {K : PySem.W.Frag} {C a l x x' : Addr} {H : Hp} {n : Int} {rt dt : List (List V)} {neg : Bool} {Q : VK} (k0 : HK K C) (h : HObj a l C H x n rt dt) (g : GoodT n rt dt) (h' : HObj a l C H x' n rt dt)
    (k : ∀ H', Same H H' → Q (.bl !neg) H') : rOwn K C neg (spEqH C) E0 (.ref x) (.ref x') H Q := own_house k0 h g h' g fun H6 e6 => by
  have z := k H6 e6
  simp only [and_self, decide_true]
  cases neg <;> exact z
theorem own_ht {K : PySem.W.Frag} {C a l x x' : Addr} {H : Hp} {n n' : Int} {rt dt rt' dt' : List (List V)} {neg : Bool} {Q : VK} (k0 : HK K C) (h : HObj a l C H x n rt dt) (g : GoodT n rt dt) (h' : HObj a l C H x' n' rt' dt') (g' : GoodT n' rt' dt') (ne : ¬ (n = n' ∧ rt = rt' ∧ dt = dt'))
    (k : ∀ H', Same H H' → Q (.bl neg) H') : rOwn K C neg (spEqH C) E0 (.ref x) (.ref x') H Q := own_house k0 h g h' g' fun H6 e6 => by
  have z := k H6 e6
  rw [decide_eq_false ne]
  cases neg <;> exact z
/-- a house against another thing -/
theorem own_odd {K : PySem.W.Frag} {C a l x : Addr} {y : V} {H : Hp} {n : Int} {rt dt : List (List V)} {neg : Bool} {Q : VK} (k0 : HK K C) (h : HObj a l C H x n rt dt) (g : GoodT n rt dt) (hy : Shp H y)
    (k : ∀ H', Same H H' → Q (.bl neg) H') : rOwn K C neg (spEqH C) E0 (.ref x) y H Q := by
  obtain ⟨dx, p, q, rs, ds, h1, _⟩ := h.ex
  obtain ⟨Ty, hT, ty⟩ := shp_typ (K := K) hy
  refine ⟨x, dx, _, .type Ty, rfl, h1, ty, notFirst_type hT, a, l, x, y, n, rt, dt, rfl, h, g.wr, g.wd, .inr ⟨hy, fun H6 e6 => ⟨_, rfl, ?_⟩⟩⟩
  have z := k H6 e6
  cases neg <;> exact z
/-- a turn's house -/
structure HM (a l C : Addr) (N : Int) (t x : Addr) (n : Int) (rt dt : List (List V)) (H : Hp) : Prop where
  s : Strm N H a l
  t : HT a l H t n rt dt
  o : HObj a l C H x n rt dt
section
variable {a l C t x : Addr} {N M n : Int} {rt dt : List (List V)} {H H' : Hp}
theorem HM.go (w : HM a l C N t x n rt dt H) (g : Go a l H H') (S : Strm M H' a l) : HM a l C M t x n rt dt H' := ⟨S, w.t.go g, w.o.go g⟩
theorem HM.same (w : HM a l C N t x n rt dt H) (e : Same H H') : HM a l C N t x n rt dt H' := w.go (.same e) (w.s.but e)
end
section
variable {P : Program} {w : World} {K : PySem.W.Frag} {mg : Str → Option Value} {base : Heap} {C : Addr}
theorem ok_law {f fE fSt fH fM fT fK fO : Addr} {fd fdE fdSt fdH fdM fdT fdK fdO : FuncData} (F : Fun K "law" "law" sLaw f fd) (T : Bt mg) (k0 : HK K C) (S0 : Eqs K C fE) (GE : FnOk P w K mg base CX0 1 fE fdE ["self", "other"] (spEqH C)) (bE : Binds K fdE ["self", "other"] [])
    (FSt : Fun K "_law_stream" "_law_stream" sStream fSt fdSt) (gSt : mg "_law_stream" = some (.ref fSt)) (bSt : Binds K fdSt ["_law_script"] [])
    (FH : Fun K "_law_house" "_law_house" sHouse fH fdH) (gH : mg "_law_house" = some (.ref fH)) (bH : Binds K fdH ["_law_stream_here", "_law_places", "_law_full", "_law_doors"] []) (GH : FnOk P w K mg base CX0 3 fH fdH ["_law_stream_here", "_law_places", "_law_full", "_law_doors"] spHouse)
    (FM : Fun K "_law_made" "_law_made" sMade fM fdM) (gM : mg "_law_made" = some (.ref fM)) (bM : Binds K fdM ["_law_stream_here", "_law_house_here"] []) (GM : FnOk P w K mg base CX0 8 fM fdM ["_law_stream_here", "_law_house_here"] (spMade C))
    (FT : Fun K "_law_tells" "_law_tells" sTells fT fdT) (gT : mg "_law_tells" = some (.ref fT)) (bT : Binds K fdT ["_law_made_here", "_law_house_here"] []) (GT : FnOk P w K mg base CX0 6 fT fdT ["_law_made_here", "_law_house_here"] (spTells C))
    (FK : Fun K "_law_kept_right" "_law_kept_right" sKept fK fdK) (gK : mg "_law_kept_right" = some (.ref fK)) (bK : Binds K fdK ["_law_stream_here", "_law_house_here"] []) (GK : FnOk P w K mg base CX0 8 fK fdK ["_law_stream_here", "_law_house_here"] (spKept C))
    (FO : Fun K "_law_others" "_law_others" sOthers fO fdO) (gO : mg "_law_others" = some (.ref fO)) (bO : Binds K fdO ["_law_stream_here", "_law_house_here"] []) (GO : FnOk P w K mg base CX0 3 fO fdO ["_law_stream_here", "_law_house_here"] spOthers) :
    FnOk P w K mg base CX0 9 f fd ["_law_script"] (spLaw K) := by
  have GSt : FnOk P w K mg base CX0 1 fSt fdSt ["_law_script"] (spStream K) := ok_stream FSt T
  refine F.ok scLaw (fun vs H Q E h => ?_) (fun cdv A outer s H vs Q E hr h => ?_)
  · obtain ⟨a, ns, rfl, _⟩ := h
    rfl
  · obtain ⟨a0, ns, rfl, hS, hl, k⟩ := h
    refine ⟨_, (pss_cons (ps_set (i := 1) scLaw.nd rfl (Or.inl rfl) (pe_call GSt (hr.mono (by decide)) (by rfl) gSt FSt.kp bSt .nil pass0 (pa_cons (pv 0) pa_nil)))
  (Evl.pss_cut (ps_for PassesOwn.never rfl (pi_tup (pe_tup (pa_cons (pe_tup (pa_cons pe_int (pa_cons (pe_lst pa_nil) (pa_cons (pe_lst pa_nil) pa_nil)))) (pa_cons (pe_tup (pa_cons pe_int (pa_cons (pe_lst pa_nil) (pa_cons (pe_lst (pa_cons (pe_tup (pa_cons pe_str (pa_cons pe_int (pa_cons pe_int pa_nil)))) (pa_cons (pe_tup (pa_cons pe_str (pa_cons pe_int (pa_cons pe_int pa_nil)))) pa_nil))) pa_nil)))) (pa_cons (pe_tup (pa_cons pe_int (pa_cons (pe_lst pa_nil) (pa_cons (pe_lst (pa_cons (pe_tup (pa_cons pe_str (pa_cons pe_int (pa_cons pe_int pa_nil)))) (pa_cons (pe_tup (pa_cons pe_str (pa_cons pe_int (pa_cons pe_int pa_nil)))) pa_nil))) pa_nil)))) pa_nil))))) (pg_name (i := 2) (x := "_law_bare") scLaw.nd rfl (Or.inl rfl)) (pss_one (ps_if (pt_not (pt_val (pe_call GT (hr.mono (by decide)) (by rfl) gT FT.kp bT .nil pass0 (pa_cons (pe_call GM (hr.mono (by decide)) (by rfl) gM FM.kp bM .nil pass0 (pa_cons (pv 1) (pa_cons (pv 2) pa_nil))) (pa_cons (pv 2) pa_nil))))) (pss_one (ps_ret pe_bl)) pss_nil)))
  (Evl.pss_cut (ps_for PassesOwn.never rfl (pi_range1 (by rfl) T.range (pa_cons pe_int pa_nil)) (pg_name (i := 3) (x := "_law_turn") scLaw.nd rfl (Or.inl rfl)) (pss_cons (ps_set (i := 4) scLaw.nd rfl (Or.inl rfl) (pe_call GH (hr.mono (by decide)) (by rfl) gH FH.kp bH .nil pass0 (pa_cons (pv 1) (pa_cons pe_int (pa_cons pe_int (pa_cons pe_int pa_nil))))))
  (pss_cons (ps_set (i := 5) scLaw.nd rfl (Or.inl rfl) (pe_call GM (hr.mono (by decide)) (by rfl) gM FM.kp bM .nil pass0 (pa_cons (pv 1) (pa_cons (pv 4) pa_nil))))
  (Evl.pss_cut (ps_if (PW.pt (pw_or (pt_not (pt_val (pe_call GT (hr.mono (by decide)) (by rfl) gT FT.kp bT .nil pass0 (pa_cons (pv 5) (pa_cons (pv 4) pa_nil))))) (pw_or1 (pt_not (pt_val (pe_call GK (hr.mono (by decide)) (by rfl) gK FK.kp bK .nil pass0 (pa_cons (pv 1) (pa_cons (pv 4) pa_nil)))))))) (pss_one (ps_ret pe_bl)) pss_nil)
  (Evl.pss_cut (ps_if (PW.pt (pw_or (pt_not (pt_cmpR (op_eqO S0 GE bE (hr.mono (by decide)) pass0) (pv 5) (pe_call GM (hr.mono (by decide)) (by rfl) gM FM.kp bM .nil pass0 (pa_cons (pv 1) (pa_cons (pv 4) pa_nil))) (nomark _))) (pw_or1 (pt_cmpR (op_neO S0 GE bE (hr.mono (by decide)) pass0) (pv 5) (pe_call GM (hr.mono (by decide)) (by rfl) gM FM.kp bM .nil pass0 (pa_cons (pv 1) (pa_cons (pv 4) pa_nil))) (nomark _))))) (pss_one (ps_ret pe_bl)) pss_nil)
  (Evl.pss_cut (ps_for PassesOwn.never rfl (pi_list (pe_call GO (hr.mono (by decide)) (by rfl) gO FO.kp bO .nil pass0 (pa_cons (pv 1) (pa_cons (pv 4) pa_nil)))) (pg_name (i := 6) (x := "_law_other") scLaw.nd rfl (Or.inl rfl)) (pss_one (ps_if (PW.pt (pw_or (pt_cmpR (op_eqO S0 GE bE (hr.mono (by decide)) pass0) (pv 5) (pe_call GM (hr.mono (by decide)) (by rfl) gM FM.kp bM .nil pass0 (pa_cons (pv 1) (pa_cons (pv 6) pa_nil))) (nomark _)) (pw_or1 (pt_not (pt_cmpR (op_neO S0 GE bE (hr.mono (by decide)) pass0) (pv 5) (pe_call GM (hr.mono (by decide)) (by rfl) gM FM.kp bM .nil pass0 (pa_cons (pv 1) (pa_cons (pv 6) pa_nil))) (nomark _)))))) (pss_one (ps_ret pe_bl)) pss_nil)))
  (pss_one (ps_for PassesOwn.never rfl (pi_tup (pe_tup (pa_cons pe_non (pa_cons pe_int (pa_cons pe_str (pa_cons (pe_callTy call_list_of (by rfl) T.list (by decide +kernel) (pa_cons (pv 4) pa_nil)) (pa_cons (pv 4) (pa_cons pe_dnewK (pa_cons (pe_lst (pa_cons (pv 5) pa_nil)) pa_nil))))))))) (pg_name (i := 7) (x := "_law_thing") scLaw.nd rfl (Or.inl rfl)) (pss_one (ps_if (PW.pt (pw_or (pt_cmpR (op_eqO S0 GE bE (hr.mono (by decide)) pass0) (pv 5) (pv 7) (nomark _)) (pw_or1 (pt_not (pt_cmpR (op_neO S0 GE bE (hr.mono (by decide)) pass0) (pv 5) (pv 7) (nomark _)))))) (pss_one (ps_ret pe_bl)) pss_nil))))))))))
  (pss_one (ps_ret pe_bl))))), ?_⟩
    refine ⟨_, rfl, a0, ns, rfl, hS, hl, fun H1 a l e1 nst nl S0' => ?_⟩
    clear hS hl e1 nst nl
    refine ⟨fun σ H' => (∃ x2, σ = [some (.ref a0), some (.ref a), x2, none, none, none, none, none]) ∧ Strm 600 H' a l, ?_, ?_⟩
    · refine ⟨Nat.zero_le _, fun p1 h1 => ⟨Nat.zero_le _, fun p2 h2 => ⟨(by show 3 ≤ sizeLine; decide), fun t1 h3 => ?_⟩⟩⟩
      have B1 : ∃ n rt dt, HT a l (upd (upd (upd H1 p1 (.lst [])) p2 (.lst [])) t1 (.tup [.int 1, .ref p1, .ref p2])) t1 n rt dt ∧ GoodT n rt dt := by
        have s2 := same_new (o := .lst []) h2
        have s3 := same_new (o := .tup [.int 1, .ref p1, .ref p2]) h3
        have n1 := S0'.ne_new h1
        have n2 := (S0'.but (same_new (o := .lst []) h1)).ne_new h2
        exact ⟨1, [], [], ⟨p1, p2, [], [], upd_same, ⟨n1.1, n1.2, s3 _ _ (s2 _ _ upd_same)⟩, ⟨n2.1, n2.2, s3 _ _ upd_same⟩, TT.nil, TT.nil⟩, good_of (by decide) ⟨fun _ => 0, fun t ht => (by cases ht)⟩ ⟨fun _ => true, fun t ht => (by cases ht)⟩ (by decide) (by decide)⟩
      have S1 := S0'.but ((same_new (o := .lst []) h1).trans ((same_new (o := .lst []) h2).trans (same_new (o := .tup [.int 1, .ref p1, .ref p2]) h3)))
      generalize upd (upd (upd H1 p1 (.lst [])) p2 (.lst [])) t1 (.tup [.int 1, .ref p1, .ref p2]) = H2 at B1 S1 ⊢
      clear h1 h2 h3
      refine ⟨Nat.zero_le _, fun p3 h1 => ⟨(by show 3 ≤ sizeLine; decide), fun d1 h2 => ⟨(by show 3 ≤ sizeLine; decide), fun d2 h3 => ⟨(by show 2 ≤ sizeLine; decide), fun p4 h4 => ⟨(by show 3 ≤ sizeLine; decide), fun t2 h5 => ?_⟩⟩⟩⟩⟩
      have s1 := same_new (o := .lst []) h1
      have s2 := same_new (o := .tup [.str "in", .int 0, .int 3]) h2
      have s3 := same_new (o := .tup [.str "in", .int 0, .int 0]) h3
      have s4 := same_new (o := .lst [.ref d1, .ref d2]) h4
      have s5 := same_new (o := .tup [.int 1, .ref p3, .ref p4]) h5
      have s15 := s1.trans (s2.trans (s3.trans (s4.trans s5)))
      have B2 : ∃ n rt dt, HT a l (upd (upd (upd (upd (upd H2 p3 (.lst [])) d1 (.tup [.str "in", .int 0, .int 3])) d2 (.tup [.str "in", .int 0, .int 0])) p4 (.lst [.ref d1, .ref d2])) t2 (.tup [.int 1, .ref p3, .ref p4])) t2 n rt dt ∧ GoodT n rt dt := by
        have n1 := S1.ne_new h1
        have n4 := (S1.but (s1.trans (s2.trans s3))).ne_new h4
        refine ⟨1, [], [[.str "in", .int 0, .int 3], [.str "in", .int 0, .int 0]], ⟨p3, p4, [], [.ref d1, .ref d2], upd_same, ⟨n1.1, n1.2, (s2.trans (s3.trans (s4.trans s5))) _ _ upd_same⟩, ⟨n4.1, n4.2, s5 _ _ upd_same⟩, TT.nil, TT.app (xs := [.ref d1]) (TT.one ((s3.trans (s4.trans s5)) _ _ upd_same)) (TT.one ((s4.trans s5) _ _ upd_same))⟩,
          good_of (by decide) ⟨fun _ => 0, fun t ht => (by cases ht)⟩ ⟨fun _ => true, fun t ht => ?_⟩ (by decide) (by show 2 ≤ 50; decide)⟩
        simp only [List.mem_cons, List.not_mem_nil, or_false] at ht
        rcases ht with rfl | rfl
        · exact ⟨0, 3, rfl, by decide, by decide, by decide⟩
        · exact ⟨0, 0, rfl, by decide, by decide, by decide⟩
      have B1' : ∃ n rt dt, HT a l (upd (upd (upd (upd (upd H2 p3 (.lst [])) d1 (.tup [.str "in", .int 0, .int 3])) d2 (.tup [.str "in", .int 0, .int 0])) p4 (.lst [.ref d1, .ref d2])) t2 (.tup [.int 1, .ref p3, .ref p4])) t1 n rt dt ∧ GoodT n rt dt := by
        obtain ⟨n, rt, dt, z, g⟩ := B1
        exact ⟨n, rt, dt, z.go (.same s15), g⟩
      have S2 := S1.but s15
      generalize upd (upd (upd (upd (upd H2 p3 (.lst [])) d1 (.tup [.str "in", .int 0, .int 3])) d2 (.tup [.str "in", .int 0, .int 0])) p4 (.lst [.ref d1, .ref d2])) t2 (.tup [.int 1, .ref p3, .ref p4]) = H3 at B2 B1' S2 ⊢
      clear s1 s2 s3 s4 s5 s15 h1 h2 h3 h4 h5 B1 S1
      refine ⟨Nat.zero_le _, fun p5 h1 => ⟨(by show 3 ≤ sizeLine; decide), fun d3 h2 => ⟨(by show 3 ≤ sizeLine; decide), fun d4 h3 => ⟨(by show 2 ≤ sizeLine; decide), fun p6 h4 => ⟨(by show 3 ≤ sizeLine; decide), fun t3 h5 => ?_⟩⟩⟩⟩⟩
      have s1 := same_new (o := .lst []) h1
      have s2 := same_new (o := .tup [.str "out", .int 1, .int 0]) h2
      have s3 := same_new (o := .tup [.str "in", .int 0, .int 9]) h3
      have s4 := same_new (o := .lst [.ref d3, .ref d4]) h4
      have s5 := same_new (o := .tup [.int 2, .ref p5, .ref p6]) h5
      have s15 := s1.trans (s2.trans (s3.trans (s4.trans s5)))
      have B3 : ∃ n rt dt, HT a l (upd (upd (upd (upd (upd H3 p5 (.lst [])) d3 (.tup [.str "out", .int 1, .int 0])) d4 (.tup [.str "in", .int 0, .int 9])) p6 (.lst [.ref d3, .ref d4])) t3 (.tup [.int 2, .ref p5, .ref p6])) t3 n rt dt ∧ GoodT n rt dt := by
        have n1 := S2.ne_new h1
        have n4 := (S2.but (s1.trans (s2.trans s3))).ne_new h4
        refine ⟨2, [], [[.str "out", .int 1, .int 0], [.str "in", .int 0, .int 9]], ⟨p5, p6, [], [.ref d3, .ref d4], upd_same, ⟨n1.1, n1.2, (s2.trans (s3.trans (s4.trans s5))) _ _ upd_same⟩, ⟨n4.1, n4.2, s5 _ _ upd_same⟩, TT.nil, TT.app (xs := [.ref d3]) (TT.one ((s3.trans (s4.trans s5)) _ _ upd_same)) (TT.one ((s4.trans s5) _ _ upd_same))⟩,
          good_of (by decide) ⟨fun _ => 0, fun t ht => (by cases ht)⟩ ⟨fun x => decide (x = 0), fun t ht => ?_⟩ (by decide) (by show 2 ≤ 50; decide)⟩
        simp only [List.mem_cons, List.not_mem_nil, or_false] at ht
        rcases ht with rfl | rfl
        · exact ⟨1, 0, rfl, by decide, by decide, by decide⟩
        · exact ⟨0, 9, rfl, by decide, by decide, by decide⟩
      have up : ∀ {t : Addr}, (∃ n rt dt, HT a l H3 t n rt dt ∧ GoodT n rt dt) → ∃ n rt dt, HT a l (upd (upd (upd (upd (upd H3 p5 (.lst [])) d3 (.tup [.str "out", .int 1, .int 0])) d4 (.tup [.str "in", .int 0, .int 9])) p6 (.lst [.ref d3, .ref d4])) t3 (.tup [.int 2, .ref p5, .ref p6])) t n rt dt ∧ GoodT n rt dt := fun ⟨n, rt, dt, z, g⟩ => ⟨n, rt, dt, z.go (.same s15), g⟩
      have C1 := up B1'
      have C2 := up B2
      have S3 := S2.but s15
      generalize upd (upd (upd (upd (upd H3 p5 (.lst [])) d3 (.tup [.str "out", .int 1, .int 0])) d4 (.tup [.str "in", .int 0, .int 9])) p6 (.lst [.ref d3, .ref d4])) t3 (.tup [.int 2, .ref p5, .ref p6]) = H4 at B3 C1 C2 S3 ⊢
      clear s1 s2 s3 s4 s5 s15 h1 h2 h3 h4 h5 B1' B2 S2 up
      refine ⟨(by show 3 ≤ sizeLine; decide), fun tp htp => ?_⟩
      have st := same_new (o := .tup [.ref t1, .ref t2, .ref t3]) htp
      have tt : upd H4 tp (.tup [.ref t1, .ref t2, .ref t3]) tp = some (.tup [.ref t1, .ref t2, .ref t3]) := upd_same
      have S4 := S3.but st
      have all : ∀ v ∈ ([.ref t1, .ref t2, .ref t3] : List V), ∃ t n rt dt, v = .ref t ∧ HT a l (upd H4 tp (.tup [.ref t1, .ref t2, .ref t3])) t n rt dt ∧ GoodT n rt dt := fun v hv => by
        simp only [List.mem_cons, List.not_mem_nil, or_false] at hv
        rcases hv with rfl | rfl | rfl
        · obtain ⟨n, rt, dt, z, g⟩ := C1
          exact ⟨_, n, rt, dt, rfl, z.go (.same st), g⟩
        · obtain ⟨n, rt, dt, z, g⟩ := C2
          exact ⟨_, n, rt, dt, rfl, z.go (.same st), g⟩
        · obtain ⟨n, rt, dt, z, g⟩ := B3
          exact ⟨_, n, rt, dt, rfl, z.go (.same st), g⟩
      generalize upd H4 tp (.tup [.ref t1, .ref t2, .ref t3]) = H5 at tt S4 all ⊢
      clear C1 C2 B3 S3 st htp
      refine ⟨tp, rfl, ⟨_, SqT.of tt⟩, for_tup (xs := [.ref t1, .ref t2, .ref t3]) (fun i σ H' => (∃ x2, σ = [some (.ref a0), some (.ref a), x2, none, none, none, none, none]) ∧ Strm (200 * (i : Int)) H' a l ∧ Go a l H5 H') ⟨⟨_, rfl⟩, by simpa using S4, .refl⟩ (fun i σ H' _ z => SqT.of (z.2.2.t _ _ tt)) ?_ ?_⟩
      · rintro i v σ H6 hv ⟨⟨x2, rfl⟩, S6, g6⟩
        have hi : i < 3 := (List.getElem?_eq_some_iff.mp hv).1
        obtain ⟨t, n, rt, dt, rfl, ht, g⟩ := all v (List.mem_of_getElem? hv)
        refine ⟨_, rfl, _, rfl, a, l, t, _, n, rt, dt, rfl, S6, by omega, by omega, ht.go g6, g, fun H7 x g7 ho S7 => ⟨_, rfl, a, l, x, t, n, rt, dt, rfl, ho, (ht.go g6).go g7, g, fun H8 e8 => ?_⟩⟩
        exact ⟨_, rfl, iteF ⟨⟨_, rfl⟩, (S7.but e8).mono (by omega), (g6.trans g7).trans (.same e8)⟩⟩
      · rintro σ H6 ⟨⟨x2, rfl⟩, S6, _⟩
        exact ⟨⟨x2, rfl⟩, S6⟩
    · clear S0'
      rintro σ H1 ⟨⟨x2, rfl⟩, S1⟩
      refine ⟨fun _ _ => True, ?_, fun _ _ _ => k _⟩
      refine ⟨6, rfl, by decide, by decide, for_range (lo := 0) (n := 6) (fun i σ H' => (∃ x3 x4 x5 x6 x7, σ = [some (.ref a0), some (.ref a), x2, x3, x4, x5, x6, x7]) ∧ Strm (600 + 12000 * (i : Int)) H' a l) ⟨⟨_, _, _, _, _, rfl⟩, by simpa using S1⟩ ?_ (fun _ _ _ => trivial)⟩
      clear S1 H1
      rintro i σ H hi ⟨⟨x3, x4, x5, x6, x7, rfl⟩, S⟩
      refine ⟨_, rfl, a, l, _, 7, 13, 4, rfl, S, by omega, by omega, by decide, by decide, by decide, by decide, by decide, by decide, fun H2 t pr pd n xs ys b2 ht hpr hpd e2 hm HA S2 => ?_⟩
      obtain ⟨rt, dt, t1, t2, hou⟩ := hou_of HA (by decide) (by decide) (by decide)
      have g := hou.good
      have nr := S.ne_new hpr
      have nd := S.ne_new hpd
      have hh : HT a l H2 t n rt dt := ⟨pr, pd, xs, ys, e2, ⟨nr.1, nr.2, HA.r⟩, ⟨nd.1, nd.2, HA.d⟩, t1, t2⟩
      clear b2 ht hpr hpd e2 hm HA nr nd t1 t2 S
      refine ⟨_, rfl, _, rfl, a, l, t, _, n, rt, dt, rfl, S2, by omega, by omega, hh, g, fun H3 x g3 ho S3 => ?_⟩
      have W3 : HM a l C (600 + 12000 * (i : Int) + 2200) t x n rt dt H3 := ⟨S3.mono (by omega), hh.go g3, ho⟩
      clear hh S2 g3 ho S3 H2
      -- it tells, and is kept
      refine ⟨fun σ H' => σ = [some (.ref a0), some (.ref a), x2, some (.int (0 + (i : Int))), some (.ref t), some (.ref x), x6, x7] ∧ HM a l C (600 + 12000 * (i : Int) + 2200) t x n rt dt H', ?_, ?_⟩
      · refine ⟨_, rfl, _, rfl, a, l, x, t, n, rt, dt, rfl, W3.o, W3.t, g, fun H4 e4 => ⟨_, rfl, iteF ?_⟩⟩
        have W4 := W3.same e4
        exact ⟨_, rfl, _, rfl, a, l, t, _, n, rt, dt, rfl, W4.s, W4.t, g, fun H5 e5 => ⟨_, rfl, iteF ⟨rfl, W4.same e5⟩⟩⟩
      · clear W3 H3
        rintro σ H3 ⟨rfl, W3⟩
        -- equal to one made of the same
        refine ⟨fun σ H' => σ = [some (.ref a0), some (.ref a), x2, some (.int (0 + (i : Int))), some (.ref t), some (.ref x), x6, x7] ∧ HM a l C (600 + 12000 * (i : Int) + 2600) t x n rt dt H', ?_, ?_⟩
        · refine ⟨_, rfl, _, rfl, _, rfl, a, l, t, _, n, rt, dt, rfl, W3.s, by omega, by omega, W3.t, g, fun H4 y g4 ho4 S4 => ?_⟩
          have W4 := W3.go g4 S4
          refine own_hs k0 W4.o g ho4 fun H5 e5 => ?_
          have W5 := W4.same e5
          refine ⟨_, rfl, iteF ?_⟩
          refine ⟨_, rfl, _, rfl, _, rfl, a, l, t, _, n, rt, dt, rfl, W5.s, by omega, by omega, W5.t, g, fun H6 z g6 ho6 S6 => ?_⟩
          have W6 := W5.go g6 S6
          refine own_hs k0 W6.o g ho6 fun H7 e7 => ?_
          have W7 := W6.same e7
          exact ⟨_, rfl, iteF ⟨rfl, W7.go .refl (W7.s.mono (by omega))⟩⟩
        · clear W3 H3
          rintro σ H3 ⟨rfl, W3⟩
          -- unlike the others
          refine ⟨fun σ H' => (∃ x6, σ = [some (.ref a0), some (.ref a), x2, some (.int (0 + (i : Int))), some (.ref t), some (.ref x), x6, x7]) ∧ HM a l C (600 + 12000 * (i : Int) + 12000) t x n rt dt H', ?_, ?_⟩
          · refine ⟨_, rfl, _, rfl, a, l, t, _, n, rt, dt, rfl, W3.s, by omega, by omega, W3.t, hou, fun H4 b zs g4 lb lz hz S4 => ?_⟩
            have W4 := W3.go g4 S4
            refine ⟨b, rfl, ⟨_, SqL.of lb.h⟩, for_list (xs := zs) (fun j σ H' => (∃ x6, σ = [some (.ref a0), some (.ref a), x2, some (.int (0 + (i : Int))), some (.ref t), some (.ref x), x6, x7]) ∧ HM a l C (600 + 12000 * (i : Int) + 2610 + 400 * (j : Int)) t x n rt dt H' ∧ Go a l H4 H') ⟨⟨_, rfl⟩, W4.go .refl (W4.s.mono (by omega)), .refl⟩ (fun j σ H' _ z => SqL.of (lb.go z.2.2).h) ?_ ?_⟩
            · rintro j v σ H5 hv ⟨⟨x6, rfl⟩, W5, g5⟩
              have hj : j < 20 := Nat.lt_of_lt_of_le (List.getElem?_eq_some_iff.mp hv).1 lz
              obtain ⟨t', n', rt', dt', rfl, ht', o'⟩ := hz v (List.mem_of_getElem? hv)
              have ht5 := ht'.go g5
              refine ⟨_, rfl, _, rfl, _, rfl, a, l, t', _, n', rt', dt', rfl, W5.s, by omega, by omega, ht5, o'.g, fun H6 y g6 ho6 S6 => ?_⟩
              have W6 := W5.go g6 S6
              refine own_ht k0 W6.o g ho6 o'.g o'.ne fun H7 e7 => ?_
              have W7 := W6.same e7
              refine ⟨_, rfl, iteF ?_⟩
              have ht7 := (ht5.go g6).go (.same e7)
              refine ⟨_, rfl, _, rfl, _, rfl, a, l, t', _, n', rt', dt', rfl, W7.s, by omega, by omega, ht7, o'.g, fun H8 y2 g8 ho8 S8 => ?_⟩
              have W8 := W7.go g8 S8
              refine own_ht k0 W8.o g ho8 o'.g o'.ne fun H9 e9 => ?_
              have W9 := W8.same e9
              exact ⟨_, rfl, iteF ⟨⟨_, rfl⟩, W9.go .refl (W9.s.mono (by omega)), (((g5.trans g6).trans (.same e7)).trans g8).trans (.same e9)⟩⟩
            · rintro σ H5 ⟨⟨x6, rfl⟩, W5, _⟩
              exact ⟨⟨_, rfl⟩, W5.go .refl (W5.s.mono (by omega))⟩
          · clear W3 H3 x6
            rintro σ H3 ⟨⟨x6, rfl⟩, W3⟩
            -- unlike other things
            obtain ⟨p, q, xs, ys, hz, _⟩ := W3.t.ex
            refine ⟨_, rfl, t, _, rfl, .inr (SqT.of hz), fun c1 h1 => ?_⟩
            have s1 := same_new (o := .lst [.int n, .ref p, .ref q]) h1
            refine ⟨_, rfl, fun c2 h2 => ⟨_, rfl, (by show 1 ≤ sizeLine; decide), fun c3 h3 => ⟨(by show 7 ≤ sizeLine; decide), fun tp htp => ?_⟩⟩⟩
            have s2 := same_new (o := .dK []) h2
            have s3 := same_new (o := .lst [.ref x]) h3
            have s4 := same_new (o := .tup [.non, .int 5, .str "house", .ref c1, .ref t, .ref c2, .ref c3]) htp
            have W4 := W3.same (s1.trans (s2.trans (s3.trans s4)))
            have k1 := (s2.trans (s3.trans s4)) _ _ (upd_same : upd H3 c1 (.lst [.int n, .ref p, .ref q]) c1 = _)
            have k2 := (s3.trans s4) _ _ (upd_same : upd _ c2 (.dK []) c2 = _)
            have k3 := s4 _ _ (upd_same : upd _ c3 (.lst [.ref x]) c3 = _)
            have k0' := (s1.trans (s2.trans (s3.trans s4))) _ _ hz
            have tt : upd (upd (upd (upd H3 c1 (.lst [.int n, .ref p, .ref q])) c2 (.dK [])) c3 (.lst [.ref x])) tp (.tup [.non, .int 5, .str "house", .ref c1, .ref t, .ref c2, .ref c3]) tp = some (.tup [.non, .int 5, .str "house", .ref c1, .ref t, .ref c2, .ref c3]) := upd_same
            have shp : ∀ v ∈ ([.non, .int 5, .str "house", .ref c1, .ref t, .ref c2, .ref c3] : List V), Shp (upd (upd (upd (upd H3 c1 (.lst [.int n, .ref p, .ref q])) c2 (.dK [])) c3 (.lst [.ref x])) tp (.tup [.non, .int 5, .str "house", .ref c1, .ref t, .ref c2, .ref c3])) v := fun v hv => by
              simp only [List.mem_cons, List.not_mem_nil, or_false] at hv
              rcases hv with rfl | rfl | rfl | rfl | rfl | rfl | rfl
              · exact .inl rfl
              · exact .inl rfl
              · exact .inl rfl
              · exact .inr (.inl ⟨_, _, rfl, k1⟩)
              · exact .inr (.inr (.inl ⟨_, _, rfl, k0'⟩))
              · exact .inr (.inr (.inr ⟨_, _, rfl, k2⟩))
              · exact .inr (.inl ⟨_, _, rfl, k3⟩)
            generalize upd (upd (upd (upd H3 c1 (.lst [.int n, .ref p, .ref q])) c2 (.dK [])) c3 (.lst [.ref x])) tp (.tup [.non, .int 5, .str "house", .ref c1, .ref t, .ref c2, .ref c3]) = H4 at W4 tt shp ⊢
            clear s1 s2 s3 s4 h1 h2 h3 htp k1 k2 k3 k0' hz W3
            refine ⟨tp, rfl, ⟨_, SqT.of tt⟩, for_tup (xs := [.non, .int 5, .str "house", .ref c1, .ref t, .ref c2, .ref c3]) (fun j σ H' => (∃ x7, σ = [some (.ref a0), some (.ref a), x2, some (.int (0 + (i : Int))), some (.ref t), some (.ref x), x6, x7]) ∧ HM a l C (600 + 12000 * (i : Int) + 12000) t x n rt dt H' ∧ Same H4 H') ⟨⟨_, rfl⟩, W4, Same.refl H4⟩ (fun j σ H' _ z => SqT.of (z.2.2 _ _ tt)) ?_ ?_⟩
            · rintro j v σ H5 hv ⟨⟨x7, rfl⟩, W5, e5⟩
              have sv := (shp v (List.mem_of_getElem? hv)).same e5
              refine ⟨_, rfl, _, rfl, ?_⟩
              refine own_odd k0 W5.o g sv fun H6 e6 => ?_
              have W6 := W5.same e6
              refine ⟨_, rfl, iteF ?_⟩
              refine ⟨_, rfl, _, rfl, ?_⟩
              refine own_odd k0 W6.o g (sv.same e6) fun H7 e7 => ?_
              exact ⟨_, rfl, iteF ⟨⟨_, rfl⟩, W6.same e7, e5.trans (e6.trans e7)⟩⟩
            · rintro σ H5 ⟨⟨x7, rfl⟩, W5, _⟩
              exact ⟨⟨_, _, _, _, _, rfl⟩, W5.s.mono (by omega)⟩
end
end K01

set_option Elab.async false
set_option linter.all false
set_option maxRecDepth 100000
set_option maxHeartbeats 8000000
namespace K01
open PySem PySem.Spec PyProof.Rows L2 Own LamX
section
variable {P : Program} {w : World} {K : PySem.W.Frag} {mg : Str → Option Value} {base : Heap}
theorem sci_BadPlaces : FnScope ["self", "places"] ["self", "places"] (defScope (inClass (topS 2) 0)) := ⟨rfl, rfl, rfl, by decide +kernel, rfl, by decide +kernel, by decide +kernel⟩
theorem ei_BadPlaces {C fI : Addr} {fd : FuncData} (F : Fun K "__init__" "BadPlaces.__init__" (inClass (topS 2) 0) fI fd) (g : mg "BadPlaces" = some (.ref C)) (I : ExcI K C fI) (no : PySem.W.findIn K (.ref C) "places" = some none) : EI P w K mg base "BadPlaces" "places" C := by
  refine ⟨g, fI, fd, I, F.ok sci_BadPlaces (fun vs H Q E h => ?_) (fun cdv A outer s H vs Q E hr h => ?_), F.binds fun _ _ _ _ _ _ us hl => match us, hl with | [_, _], _ => rfl⟩
  · obtain ⟨a, v, rfl, _⟩ := h
    rfl
  · obtain ⟨a, v, rfl, ha, k⟩ := h
    refine ⟨_, pss_one (ps_ost (pv 0) (pv 1)), ?_⟩
    exact ⟨_, rfl, _, rfl, a, C, rfl, I.ox, no, .inl ⟨ha, fun dx nd ne => k dx nd ne⟩⟩
theorem sci_BadRoads : FnScope ["self", "index"] ["self", "index"] (defScope (inClass (topS 3) 0)) := ⟨rfl, rfl, rfl, by decide +kernel, rfl, by decide +kernel, by decide +kernel⟩
theorem ei_BadRoads {C fI : Addr} {fd : FuncData} (F : Fun K "__init__" "BadRoads.__init__" (inClass (topS 3) 0) fI fd) (g : mg "BadRoads" = some (.ref C)) (I : ExcI K C fI) (no : PySem.W.findIn K (.ref C) "index" = some none) : EI P w K mg base "BadRoads" "index" C := by
  refine ⟨g, fI, fd, I, F.ok sci_BadRoads (fun vs H Q E h => ?_) (fun cdv A outer s H vs Q E hr h => ?_), F.binds fun _ _ _ _ _ _ us hl => match us, hl with | [_, _], _ => rfl⟩
  · obtain ⟨a, v, rfl, _⟩ := h
    rfl
  · obtain ⟨a, v, rfl, ha, k⟩ := h
    refine ⟨_, pss_one (ps_ost (pv 0) (pv 1)), ?_⟩
    exact ⟨_, rfl, _, rfl, a, C, rfl, I.ox, no, .inl ⟨ha, fun dx nd ne => k dx nd ne⟩⟩
theorem sci_BadDoors : FnScope ["self", "index"] ["self", "index"] (defScope (inClass (topS 4) 0)) := ⟨rfl, rfl, rfl, by decide +kernel, rfl, by decide +kernel, by decide +kernel⟩
theorem ei_BadDoors {C fI : Addr} {fd : FuncData} (F : Fun K "__init__" "BadDoors.__init__" (inClass (topS 4) 0) fI fd) (g : mg "BadDoors" = some (.ref C)) (I : ExcI K C fI) (no : PySem.W.findIn K (.ref C) "index" = some none) : EI P w K mg base "BadDoors" "index" C := by
  refine ⟨g, fI, fd, I, F.ok sci_BadDoors (fun vs H Q E h => ?_) (fun cdv A outer s H vs Q E hr h => ?_), F.binds fun _ _ _ _ _ _ us hl => match us, hl with | [_, _], _ => rfl⟩
  · obtain ⟨a, v, rfl, _⟩ := h
    rfl
  · obtain ⟨a, v, rfl, ha, k⟩ := h
    refine ⟨_, pss_one (ps_ost (pv 0) (pv 1)), ?_⟩
    exact ⟨_, rfl, _, rfl, a, C, rfl, I.ox, no, .inl ⟨ha, fun dx nd ne => k dx nd ne⟩⟩
end
end K01

set_option Elab.async false
set_option linter.all false
set_option maxRecDepth 100000
set_option maxHeartbeats 8000000
namespace K01
open PySem PySem.Spec PyProof.Rows L2 Own LamX
/-- the class stands as an own exception class over ValueError -/
def oexB (K : PySem.W.Frag) (C : Addr) : Bool := match K.lookup C with
  | some ⟨.type ty, _, .cls cd, sl⟩ => (match cd.mro, sl.toList with
    | .ref C1 :: bm, [_, _, _, _, some (.builtin n), _] => ty == "type" && (C1 == C && (n == "ValueError.__new__" && (!cd.hasDel && (cd.hasDict && PySem.HandSPX.refsVE bm))))
    | _, _ => false)
  | _ => false
theorem oexB_ok {K : PySem.W.Frag} {C : Addr} (h : oexB K C = true) : ∃ nm q N bs bm sn sub ab col dd k0 k1 k2 k3 k5, K.lookup C = some (excClassObj nm q C N bs bm true sn sub ab col dd k0 k1 k2 k3 k5 "ValueError.__new__") ∧ PySem.HandSPX.refsVE bm = true := by
  unfold oexB at h
  split at h
  · rename_i ty dd cd sl ho
    split at h
    · rename_i C1 bm k0 k1 k2 k3 n k5 hm hs
      simp only [Bool.and_eq_true, beq_iff_eq, Bool.not_eq_true'] at h
      obtain ⟨rfl, rfl, rfl, hdel, hdict, hr⟩ := h
      obtain ⟨nm, bs, mro, ns, qn, hd, sn, sub, ab, col, del⟩ := cd
      dsimp only at hm hdel hdict
      subst hm hdel hdict
      obtain ⟨l⟩ := sl
      dsimp only at hs
      subst hs
      exact ⟨nm, qn, ns, bs, bm, sn, sub, ab, col, dd, k0, k1, k2, k3, k5, ho, hr⟩
    · cases h
  · cases h
def clsB (K : PySem.W.Frag) (C : Addr) : Bool :=
  oexB K C && (He.eqO (PySem.W.findIn K (.ref C) "__setattr__") (some (some (.builtin "object.__setattr__"))) && (decide (PySem.W.subIn K (.ref C) (.type "BaseException") = some true) &&
  (decide (PySem.W.typeIn K (.ref C) = some (.type "type")) && (PySem.W.keepIn K (.ref C) && (He.eqO (PySem.W.findIn K (.ref C) "__getattribute__") (some (some (.builtin "BaseException.__getattribute__"))) &&
  (He.eqO (PySem.W.findIn K (.ref C) "__getattr__") (some none) && (PySem.W.hasDictIn K C && (He.eqO (PySem.W.findIn K (.ref C) "__class__") (some (some (.builtin "object.__class__"))) &&
  (He.eqO (PySem.W.specialIn K (.builtin "object.__class__") "__get__") (some (some (.builtin "getset_descriptor.__get__"))) && (decide (PySem.W.takesIn K (.builtin "object.__class__") = some true) && decide (PySem.W.mroIn K C (.type "object") = some true)))))))))))
theorem clsB_ok {K : PySem.W.Frag} {C : Addr} (h : clsB K C = true) : OexC K C ∧ ExcC K C := by
  unfold clsB at h
  simp only [Bool.and_eq_true, decide_eq_true_eq] at h
  obtain ⟨h1, h2, h3, h4, h5, h6, h7, h8, h9, h10, h11, h12⟩ := h
  exact ⟨⟨oexB_ok h1, He.eqO_ok h2, h3, h4, h5⟩, ⟨He.eqO_ok h6, He.eqO_ok h7, h3, h8, He.eqO_ok h9, He.eqO_ok h10, h11, h12⟩⟩
def nIn : List (Str × Str) := [("BadPlaces", "places"), ("BadRoads", "index"), ("BadDoors", "index")]
def initB (K : PySem.W.Frag) : Bool := nIn.all fun p => (clsB K (He.ga K p.1) && xfB K (He.ga K p.1)) && (He.eqO (PySem.W.findIn K (.ref (He.ga K p.1)) "__init__") (some (some (.ref (He.ma K (He.ga K p.1) "__init__")))) &&
  (decide (PySem.W.typeIn K (.ref (He.ma K (He.ga K p.1) "__init__")) = some (.type "function")) && He.eqO (PySem.W.findIn K (.ref (He.ga K p.1)) p.2) (some none)))
def tyN : List String := ["NoneType", "bool", "int", "str", "list", "tuple", "dict"]
/-- of the class House: its type can be asked for, it has the built-in !=, and no built-in type is below it -/
def houB (K : PySem.W.Frag) : Bool := He.eqO (PySem.W.findIn K (.ref (He.ga K "House")) "__class__") (some (some (.builtin "object.__class__"))) && (He.eqO (PySem.W.specialIn K (.builtin "object.__class__") "__get__") (some (some (.builtin "getset_descriptor.__get__"))) &&
  (decide (PySem.W.takesIn K (.builtin "object.__class__") = some true) && (decide (PySem.W.mroIn K (He.ga K "House") (.type "object") = some true) && (He.eqO (PySem.W.findIn K (.ref (He.ga K "House")) "__ne__") (some (some (.builtin "object.__ne__"))) &&
  tyN.all fun T => decide (PySem.W.kitOne K (.type T) (.ref (He.ga K "House")) = some false)))))
def defD (x : Str) (st : Stmt) : He.DefD := ⟨(x, none), x, x, defArgs st, defBody st, defScope st, [], []⟩
def metD (c m q : Str) (st : Stmt) : He.DefD := ⟨(c, some m), m, q, defArgs st, defBody st, defScope st, [], []⟩
def fnD : List He.DefD := [defD "is_integer" (topS 6), defD "is_number" (topS 7), defD "is_list" (topS 8), defD "is_place" (topS 11), defD "is_road" (topS 12), defD "is_door" (topS 13), defD "first_wrong_road" (topS 14), defD "comes_to" (topS 15), defD "first_wrong_door" (topS 16), defD "_law_stream" (topS 18), defD "_law_draw" (topS 19), defD "_law_pick" (topS 20), defD "_law_mixed" (topS 21), defD "_law_same" (topS 22), defD "_law_loose" (topS 23), defD "_law_stepping" (topS 24), defD "_law_house" (topS 25), defD "_law_made" (topS 26), defD "_law_tells" (topS 27), defD "_law_kept_right" (topS 28), defD "_law_others" (topS 29), defD "law" (topS 30),
  metD "BadPlaces" "__init__" "BadPlaces.__init__" (inClass (topS 2) 0), metD "BadRoads" "__init__" "BadRoads.__init__" (inClass (topS 3) 0), metD "BadDoors" "__init__" "BadDoors.__init__" (inClass (topS 4) 0), metD "House" "__init__" "House.__init__" (inClass (topS 10) 0),
  metD "House" "places" "House.places" (inClass (topS 10) 1), metD "House" "roads" "House.roads" (inClass (topS 10) 2), metD "House" "doors" "House.doors" (inClass (topS 10) 3), metD "House" "__eq__" "House.__eq__" (inClass (topS 10) 4)]
def faD : List He.Fa := [.glo "is_integer", .glo "is_number", .glo "is_list", .glo "is_place", .glo "is_road", .glo "is_door", .glo "first_wrong_road", .glo "comes_to", .glo "first_wrong_door", .glo "_law_stream", .glo "_law_draw", .glo "_law_pick", .glo "_law_mixed", .glo "_law_same", .glo "_law_loose", .glo "_law_stepping", .glo "_law_house", .glo "_law_made", .glo "_law_tells", .glo "_law_kept_right", .glo "_law_others", .glo "law", .glo "House", .glo "BadPlaces", .glo "BadRoads", .glo "BadDoors", .free "abs", .free "int", .free "list", .free "len", .free "isinstance", .free "tuple", .free "dict", .free "bool", .free "all", .free "zip", .free "range", .free "enumerate", .free "max", .free "str", .free "min", .cls "House", .noat "House" "_places", .noat "House" "_roads", .noat "House" "_doors", .mkr "House", .meth "House" "places", .meth "House" "roads", .meth "House" "doors", .meth "House" "__eq__"]
def tfD : List He.Defn := []
abbrev R : PySem.W.OpenRow := PySem.W.OpenLaw.row PySem.Challenge.rw_lastbell_k01_whole_houses_made
def exA (K : PySem.W.Frag) : Bool := initB K && houB K
abbrev hk : PySem.W.Hook := He.hookX 6 faD fnD [] tfD exA
def ob (s : PySem.W.SharedT) : He.AlX := He.obsX 6 faD fnD [] tfD exA (HandSHeadRun.getT s)
theorem ob_eq (s : PySem.W.SharedT) : ob s = hk.obs s.abs := He.obsX_eq (HandSHeadRun.getT_eq s)
end K01

set_option Elab.async false
set_option linter.all false
set_option maxRecDepth 100000
set_option maxHeartbeats 0
namespace K01
open PySem PySem.Spec PyProof.Rows L2 Own
def looseN : List Str := (["__name__", "BellError", "BadPlaces", "BadRoads", "BadDoors", "is_integer", "is_number", "is_list", "House", "is_place", "is_road", "is_door"] : List Str) ++ (["first_wrong_road", "comes_to", "first_wrong_door", "_law_stream", "_law_draw", "_law_pick", "_law_mixed", "_law_same", "_law_loose", "_law_stepping", "_law_house", "_law_made"] : List Str) ++ (["_law_tells", "_law_kept_right", "_law_others"] : List Str)
theorem run (w : World) : HandSHeadRun.RunEq R (PySem.W.view R.prog [30]) hk ob 9000 looseN w := by
  intro os
  kernel_rfl
end K01

set_option Elab.async false
set_option linter.all false
set_option maxRecDepth 100000
set_option maxHeartbeats 8000000
namespace K01
open PySem PySem.Spec PyProof.Rows L2 Own LamX
theorem fun_ofD {K : PySem.W.Frag} {x q : Str} {st : Stmt} {f : Addr} (h : ∃ fd, FunD K x q (defArgs st) (defBody st) (defScope st) [] [] f fd) : ∃ fd, Fun K x q st f fd := by
  obtain ⟨fd, F⟩ := h
  obtain ⟨oc, od, dV, kV, doc, pm, an, cdv, ct, osl, rfl, lk, hcd, hD, _⟩ := F.ex
  rcases hD with ⟨_, rfl⟩ | ⟨e, _⟩
  · exact ⟨_, ⟨oc, od, kV, doc, pm, an, cdv, ct, osl, rfl, lk, hcd⟩, F.kp⟩
  · exact absurd rfl e
theorem all_mem {α : Type} {p : α → Bool} {l : List α} (h : l.all p = true) {x : α} (hx : x ∈ l) : p x = true := List.all_eq_true.mp h x hx
theorem initB_at {K : PySem.W.Frag} (h : initB K = true) {c f : Str} (hm : (c, f) ∈ nIn) : ExcI K (He.ga K c) (He.ma K (He.ga K c) "__init__") ∧ PySem.W.findIn K (.ref (He.ga K c)) f = some none := by
  obtain ⟨z1, z2⟩ := He.ba (all_mem h hm)
  obtain ⟨z3, z4⟩ := He.ba z1
  obtain ⟨z5, z6⟩ := He.ba z2
  obtain ⟨z7, z8⟩ := He.ba z6
  exact ⟨⟨(clsB_ok z3).1, He.eqO_ok z5, of_decide_eq_true z7⟩, He.eqO_ok z8⟩
theorem houB_ok {K : PySem.W.Frag} (h : houB K = true) (hC : HC K (He.ga K "House")) : HK K (He.ga K "House") ∧ PySem.W.findIn K (.ref (He.ga K "House")) "__ne__" = some (some (.builtin "object.__ne__")) := by
  obtain ⟨z1, z2⟩ := He.ba h
  obtain ⟨z3, z4⟩ := He.ba z2
  obtain ⟨z5, z6⟩ := He.ba z4
  obtain ⟨z7, z8⟩ := He.ba z6
  obtain ⟨z9, z10⟩ := He.ba z8
  exact ⟨⟨hC, He.eqO_ok z1, He.eqO_ok z3, of_decide_eq_true z5, of_decide_eq_true z7, fun T hT => of_decide_eq_true (all_mem z10 hT)⟩, He.eqO_ok z9⟩
section
variable {w : World} {K : PySem.W.Frag} {h : Heap} {mg : Str → Option Value}
theorem facts (KX : K.In h) (G : h.Ns mainGlobals mg) {fa : Addr} (hfa : mg "law" = some (.ref fa)) (c : He.SaysX faD fnD [] tfD exA w h K) : LawAtS PySem.Challenge.rw_lastbell_k01_whole_houses_made w K CX0 9 63 "_law_script" mg fa h := by
  have d := c.t.d
  obtain ⟨m1, m2⟩ := He.ba c.more
  obtain ⟨fdI, FI⟩ := fun_ofD (x := "is_integer") (q := "is_integer") (st := topS 6) (f := He.ga K "is_integer") (d.def_ 0 rfl)
  obtain ⟨fdN, FN⟩ := fun_ofD (x := "is_number") (q := "is_number") (st := topS 7) (f := He.ga K "is_number") (d.def_ 1 rfl)
  obtain ⟨fdL, FL⟩ := fun_ofD (x := "is_list") (q := "is_list") (st := topS 8) (f := He.ga K "is_list") (d.def_ 2 rfl)
  obtain ⟨fdPl, FPl⟩ := fun_ofD (x := "is_place") (q := "is_place") (st := topS 11) (f := He.ga K "is_place") (d.def_ 3 rfl)
  obtain ⟨fdR, FR⟩ := fun_ofD (x := "is_road") (q := "is_road") (st := topS 12) (f := He.ga K "is_road") (d.def_ 4 rfl)
  obtain ⟨fdD0, FD0⟩ := fun_ofD (x := "is_door") (q := "is_door") (st := topS 13) (f := He.ga K "is_door") (d.def_ 5 rfl)
  obtain ⟨fdWR, FWR⟩ := fun_ofD (x := "first_wrong_road") (q := "first_wrong_road") (st := topS 14) (f := He.ga K "first_wrong_road") (d.def_ 6 rfl)
  obtain ⟨fdC, FC⟩ := fun_ofD (x := "comes_to") (q := "comes_to") (st := topS 15) (f := He.ga K "comes_to") (d.def_ 7 rfl)
  obtain ⟨fdWD, FWD⟩ := fun_ofD (x := "first_wrong_door") (q := "first_wrong_door") (st := topS 16) (f := He.ga K "first_wrong_door") (d.def_ 8 rfl)
  obtain ⟨fdSt, FSt⟩ := fun_ofD (x := "_law_stream") (q := "_law_stream") (st := topS 18) (f := He.ga K "_law_stream") (d.def_ 9 rfl)
  obtain ⟨fdD, FD⟩ := fun_ofD (x := "_law_draw") (q := "_law_draw") (st := topS 19) (f := He.ga K "_law_draw") (d.def_ 10 rfl)
  obtain ⟨fdP, FP⟩ := fun_ofD (x := "_law_pick") (q := "_law_pick") (st := topS 20) (f := He.ga K "_law_pick") (d.def_ 11 rfl)
  obtain ⟨fdM, FM⟩ := fun_ofD (x := "_law_mixed") (q := "_law_mixed") (st := topS 21) (f := He.ga K "_law_mixed") (d.def_ 12 rfl)
  obtain ⟨fdSm, FSm⟩ := fun_ofD (x := "_law_same") (q := "_law_same") (st := topS 22) (f := He.ga K "_law_same") (d.def_ 13 rfl)
  obtain ⟨fdLo, FLo⟩ := fun_ofD (x := "_law_loose") (q := "_law_loose") (st := topS 23) (f := He.ga K "_law_loose") (d.def_ 14 rfl)
  obtain ⟨fdS, FS⟩ := fun_ofD (x := "_law_stepping") (q := "_law_stepping") (st := topS 24) (f := He.ga K "_law_stepping") (d.def_ 15 rfl)
  obtain ⟨fdH, FH⟩ := fun_ofD (x := "_law_house") (q := "_law_house") (st := topS 25) (f := He.ga K "_law_house") (d.def_ 16 rfl)
  obtain ⟨fdMa, FMa⟩ := fun_ofD (x := "_law_made") (q := "_law_made") (st := topS 26) (f := He.ga K "_law_made") (d.def_ 17 rfl)
  obtain ⟨fdTe, FTe⟩ := fun_ofD (x := "_law_tells") (q := "_law_tells") (st := topS 27) (f := He.ga K "_law_tells") (d.def_ 18 rfl)
  obtain ⟨fdKe, FKe⟩ := fun_ofD (x := "_law_kept_right") (q := "_law_kept_right") (st := topS 28) (f := He.ga K "_law_kept_right") (d.def_ 19 rfl)
  obtain ⟨fdOt, FOt⟩ := fun_ofD (x := "_law_others") (q := "_law_others") (st := topS 29) (f := He.ga K "_law_others") (d.def_ 20 rfl)
  obtain ⟨fdLw, FLw⟩ := fun_ofD (x := "law") (q := "law") (st := topS 30) (f := He.ga K "law") (d.def_ 21 rfl)
  obtain ⟨fiEp, IEp⟩ := fun_ofD (x := "__init__") (q := "BadPlaces.__init__") (st := inClass (topS 2) 0) (f := He.ma K (He.ga K "BadPlaces") "__init__") (d.def_ 22 rfl)
  obtain ⟨fiEr, IEr⟩ := fun_ofD (x := "__init__") (q := "BadRoads.__init__") (st := inClass (topS 3) 0) (f := He.ma K (He.ga K "BadRoads") "__init__") (d.def_ 23 rfl)
  obtain ⟨fiEd, IEd⟩ := fun_ofD (x := "__init__") (q := "BadDoors.__init__") (st := inClass (topS 4) 0) (f := He.ma K (He.ga K "BadDoors") "__init__") (d.def_ 24 rfl)
  obtain ⟨fiHo, IHo⟩ := fun_ofD (x := "__init__") (q := "House.__init__") (st := inClass (topS 10) 0) (f := He.ma K (He.ga K "House") "__init__") (d.def_ 25 rfl)
  obtain ⟨fmp, Mp⟩ := fun_ofD (x := "places") (q := "House.places") (st := inClass (topS 10) 1) (f := He.ma K (He.ga K "House") "places") (d.def_ 26 rfl)
  obtain ⟨fmr, Mr⟩ := fun_ofD (x := "roads") (q := "House.roads") (st := inClass (topS 10) 2) (f := He.ma K (He.ga K "House") "roads") (d.def_ 27 rfl)
  obtain ⟨fmd, Md⟩ := fun_ofD (x := "doors") (q := "House.doors") (st := inClass (topS 10) 3) (f := He.ma K (He.ga K "House") "doors") (d.def_ 28 rfl)
  obtain ⟨fme, Me⟩ := fun_ofD (x := "__eq__") (q := "House.__eq__") (st := inClass (topS 10) 4) (f := He.ma K (He.ga K "House") "__eq__") (d.def_ 29 rfl)
  have gI : mg "is_integer" = some (.ref (He.ga K "is_integer")) := He.glo_ok KX G (d.fact 0 (f := .glo "is_integer") rfl)
  have gN : mg "is_number" = some (.ref (He.ga K "is_number")) := He.glo_ok KX G (d.fact 1 (f := .glo "is_number") rfl)
  have gL : mg "is_list" = some (.ref (He.ga K "is_list")) := He.glo_ok KX G (d.fact 2 (f := .glo "is_list") rfl)
  have gPl : mg "is_place" = some (.ref (He.ga K "is_place")) := He.glo_ok KX G (d.fact 3 (f := .glo "is_place") rfl)
  have gR : mg "is_road" = some (.ref (He.ga K "is_road")) := He.glo_ok KX G (d.fact 4 (f := .glo "is_road") rfl)
  have gD0 : mg "is_door" = some (.ref (He.ga K "is_door")) := He.glo_ok KX G (d.fact 5 (f := .glo "is_door") rfl)
  have gWR : mg "first_wrong_road" = some (.ref (He.ga K "first_wrong_road")) := He.glo_ok KX G (d.fact 6 (f := .glo "first_wrong_road") rfl)
  have gC : mg "comes_to" = some (.ref (He.ga K "comes_to")) := He.glo_ok KX G (d.fact 7 (f := .glo "comes_to") rfl)
  have gWD : mg "first_wrong_door" = some (.ref (He.ga K "first_wrong_door")) := He.glo_ok KX G (d.fact 8 (f := .glo "first_wrong_door") rfl)
  have gSt : mg "_law_stream" = some (.ref (He.ga K "_law_stream")) := He.glo_ok KX G (d.fact 9 (f := .glo "_law_stream") rfl)
  have gD : mg "_law_draw" = some (.ref (He.ga K "_law_draw")) := He.glo_ok KX G (d.fact 10 (f := .glo "_law_draw") rfl)
  have gP : mg "_law_pick" = some (.ref (He.ga K "_law_pick")) := He.glo_ok KX G (d.fact 11 (f := .glo "_law_pick") rfl)
  have gM : mg "_law_mixed" = some (.ref (He.ga K "_law_mixed")) := He.glo_ok KX G (d.fact 12 (f := .glo "_law_mixed") rfl)
  have gSm : mg "_law_same" = some (.ref (He.ga K "_law_same")) := He.glo_ok KX G (d.fact 13 (f := .glo "_law_same") rfl)
  have gLo : mg "_law_loose" = some (.ref (He.ga K "_law_loose")) := He.glo_ok KX G (d.fact 14 (f := .glo "_law_loose") rfl)
  have gS : mg "_law_stepping" = some (.ref (He.ga K "_law_stepping")) := He.glo_ok KX G (d.fact 15 (f := .glo "_law_stepping") rfl)
  have gH : mg "_law_house" = some (.ref (He.ga K "_law_house")) := He.glo_ok KX G (d.fact 16 (f := .glo "_law_house") rfl)
  have gMa : mg "_law_made" = some (.ref (He.ga K "_law_made")) := He.glo_ok KX G (d.fact 17 (f := .glo "_law_made") rfl)
  have gTe : mg "_law_tells" = some (.ref (He.ga K "_law_tells")) := He.glo_ok KX G (d.fact 18 (f := .glo "_law_tells") rfl)
  have gKe : mg "_law_kept_right" = some (.ref (He.ga K "_law_kept_right")) := He.glo_ok KX G (d.fact 19 (f := .glo "_law_kept_right") rfl)
  have gOt : mg "_law_others" = some (.ref (He.ga K "_law_others")) := He.glo_ok KX G (d.fact 20 (f := .glo "_law_others") rfl)
  have gLw : mg "law" = some (.ref (He.ga K "law")) := He.glo_ok KX G (d.fact 21 (f := .glo "law") rfl)
  have gHo : mg "House" = some (.ref (He.ga K "House")) := He.glo_ok KX G (d.fact 22 (f := .glo "House") rfl)
  have gEp : mg "BadPlaces" = some (.ref (He.ga K "BadPlaces")) := He.glo_ok KX G (d.fact 23 (f := .glo "BadPlaces") rfl)
  have gEr : mg "BadRoads" = some (.ref (He.ga K "BadRoads")) := He.glo_ok KX G (d.fact 24 (f := .glo "BadRoads") rfl)
  have gEd : mg "BadDoors" = some (.ref (He.ga K "BadDoors")) := He.glo_ok KX G (d.fact 25 (f := .glo "BadDoors") rfl)
  have z0 : mg "abs" = none := He.free_ok KX G (d.fact 26 (f := .free "abs") rfl)
  have z1 : mg "int" = none := He.free_ok KX G (d.fact 27 (f := .free "int") rfl)
  have z2 : mg "list" = none := He.free_ok KX G (d.fact 28 (f := .free "list") rfl)
  have z3 : mg "len" = none := He.free_ok KX G (d.fact 29 (f := .free "len") rfl)
  have z4 : mg "isinstance" = none := He.free_ok KX G (d.fact 30 (f := .free "isinstance") rfl)
  have z5 : mg "tuple" = none := He.free_ok KX G (d.fact 31 (f := .free "tuple") rfl)
  have z6 : mg "dict" = none := He.free_ok KX G (d.fact 32 (f := .free "dict") rfl)
  have z7 : mg "bool" = none := He.free_ok KX G (d.fact 33 (f := .free "bool") rfl)
  have z8 : mg "all" = none := He.free_ok KX G (d.fact 34 (f := .free "all") rfl)
  have z9 : mg "zip" = none := He.free_ok KX G (d.fact 35 (f := .free "zip") rfl)
  have z10 : mg "range" = none := He.free_ok KX G (d.fact 36 (f := .free "range") rfl)
  have z11 : mg "enumerate" = none := He.free_ok KX G (d.fact 37 (f := .free "enumerate") rfl)
  have z12 : mg "max" = none := He.free_ok KX G (d.fact 38 (f := .free "max") rfl)
  have z13 : mg "str" = none := He.free_ok KX G (d.fact 39 (f := .free "str") rfl)
  have z14 : mg "min" = none := He.free_ok KX G (d.fact 40 (f := .free "min") rfl)
  have cl := He.cls_ok (d.fact 41 (f := .cls "House") rfl)
  have n1 := He.noat_ok (d.fact 42 (f := .noat "House" "_places") rfl)
  have n2 := He.noat_ok (d.fact 43 (f := .noat "House" "_roads") rfl)
  have n3 := He.noat_ok (d.fact 44 (f := .noat "House" "_doors") rfl)
  have mk := He.mkr_ok (d.fact 45 (f := .mkr "House") rfl)
  have tp := He.meth_ok (d.fact 46 (f := .meth "House" "places") rfl)
  have tr := He.meth_ok (d.fact 47 (f := .meth "House" "roads") rfl)
  have td := He.meth_ok (d.fact 48 (f := .meth "House" "doors") rfl)
  have te := He.meth_ok (d.fact 49 (f := .meth "House" "__eq__") rfl)
  have B : Bt mg := ⟨z0, z1, z2, z3, z4, z5, z6, z7, z8, z9, z10, z11, z12, z13, z14⟩
  obtain ⟨iEp, noEp⟩ := initB_at m1 (c := "BadPlaces") (f := "places") (by decide +kernel)
  obtain ⟨iEr, noEr⟩ := initB_at m1 (c := "BadRoads") (f := "index") (by decide +kernel)
  obtain ⟨iEd, noEd⟩ := initB_at m1 (c := "BadDoors") (f := "index") (by decide +kernel)
  have bI := FI.binds (ps := ["thing"]) fun _ _ _ _ _ _ us hl => match us, hl with | [_], _ => rfl
  have bN := FN.binds (ps := ["thing"]) fun _ _ _ _ _ _ us hl => match us, hl with | [_], _ => rfl
  have bL := FL.binds (ps := ["thing"]) fun _ _ _ _ _ _ us hl => match us, hl with | [_], _ => rfl
  have bPl := FPl.binds (ps := ["places", "thing"]) fun _ _ _ _ _ _ us hl => match us, hl with | [_, _], _ => rfl
  have bR := FR.binds (ps := ["places", "thing"]) fun _ _ _ _ _ _ us hl => match us, hl with | [_, _], _ => rfl
  have bD0 := FD0.binds (ps := ["places", "thing"]) fun _ _ _ _ _ _ us hl => match us, hl with | [_, _], _ => rfl
  have bWR := FWR.binds (ps := ["places", "roads"]) fun _ _ _ _ _ _ us hl => match us, hl with | [_, _], _ => rfl
  have bC := FC.binds (ps := ["onward", "begin", "end"]) fun _ _ _ _ _ _ us hl => match us, hl with | [_, _, _], _ => rfl
  have bWD := FWD.binds (ps := ["places", "doors"]) fun _ _ _ _ _ _ us hl => match us, hl with | [_, _], _ => rfl
  have bSt := FSt.binds (ps := ["_law_script"]) fun _ _ _ _ _ _ us hl => match us, hl with | [_], _ => rfl
  have bD := FD.binds (ps := ["_law_stream_here", "_law_many"]) fun _ _ _ _ _ _ us hl => match us, hl with | [_, _], _ => rfl
  have bP := FP.binds (ps := ["_law_stream_here", "_law_things"]) fun _ _ _ _ _ _ us hl => match us, hl with | [_, _], _ => rfl
  have bM := FM.binds (ps := ["_law_stream_here", "_law_things"]) fun _ _ _ _ _ _ us hl => match us, hl with | [_, _], _ => rfl
  have bSm := FSm.binds (ps := ["_law_found", "_law_due"]) fun _ _ _ _ _ _ us hl => match us, hl with | [_, _], _ => rfl
  have bLo := FLo.binds (ps := ["_law_stream_here", "_law_thing"]) fun _ _ _ _ _ _ us hl => match us, hl with | [_, _], _ => rfl
  have bS := FS.binds (ps := ["_law_stream_here", "_law_begin", "_law_end", "_law_order", "_law_wide"]) fun _ _ _ _ _ _ us hl => match us, hl with | [_, _, _, _, _], _ => rfl
  have bH := FH.binds (ps := ["_law_stream_here", "_law_places", "_law_full", "_law_doors"]) fun _ _ _ _ _ _ us hl => match us, hl with | [_, _, _, _], _ => rfl
  have bMa := FMa.binds (ps := ["_law_stream_here", "_law_house_here"]) fun _ _ _ _ _ _ us hl => match us, hl with | [_, _], _ => rfl
  have bTe := FTe.binds (ps := ["_law_made_here", "_law_house_here"]) fun _ _ _ _ _ _ us hl => match us, hl with | [_, _], _ => rfl
  have bKe := FKe.binds (ps := ["_law_stream_here", "_law_house_here"]) fun _ _ _ _ _ _ us hl => match us, hl with | [_, _], _ => rfl
  have bOt := FOt.binds (ps := ["_law_stream_here", "_law_house_here"]) fun _ _ _ _ _ _ us hl => match us, hl with | [_, _], _ => rfl
  have bLw := FLw.binds (ps := ["_law_script"]) fun _ _ _ _ _ _ us hl => match us, hl with | [_], _ => rfl
  have bHo := IHo.binds (ps := ["self", "places", "roads", "doors"]) fun _ _ _ _ _ _ us hl => match us, hl with | [_, _, _, _], _ => rfl
  have bp := Mp.binds (ps := ["self"]) fun _ _ _ _ _ _ us hl => match us, hl with | [_], _ => rfl
  have br := Mr.binds (ps := ["self"]) fun _ _ _ _ _ _ us hl => match us, hl with | [_], _ => rfl
  have bd := Md.binds (ps := ["self"]) fun _ _ _ _ _ _ us hl => match us, hl with | [_], _ => rfl
  have be := Me.binds (ps := ["self", "other"]) fun _ _ _ _ _ _ us hl => match us, hl with | [_, _], _ => rfl
  have e := hfa.symm.trans gLw
  cases e
  have hC : HC K (He.ga K "House") := ⟨cl, n1, n2, n3⟩
  obtain ⟨k0, ne⟩ := houB_ok m2 hC
  have S0 : Eqs K (He.ga K "House") (He.ma K (He.ga K "House") "__eq__") := ⟨te.at_, te.fn, ne, k0.hm⟩
  refine ⟨fdLw, [], spLaw K, fun p hp => (by cases hp), fun p hp => (by cases hp), fun p hp => (by cases hp), fun s u => ?_, fun H a ns hl _ hH hS => ⟨a, ns, rfl, hS, hl, fun _ => rfl⟩, fun base KB GB TB => ?_⟩
  · obtain ⟨oc, od, kV, doc, pm, an, cdv, ct, osl, rfl, _, _⟩ := FLw.ex
    exact .of_eq rfl
  · have EP := ei_BadPlaces (P := PySem.Challenge.rw_lastbell_k01_whole_houses_made.prog) (w := w) (base := base) IEp gEp iEp noEp
    have ER := ei_BadRoads (P := PySem.Challenge.rw_lastbell_k01_whole_houses_made.prog) (w := w) (base := base) IEr gEr iEr noEr
    have ED := ei_BadDoors (P := PySem.Challenge.rw_lastbell_k01_whole_houses_made.prog) (w := w) (base := base) IEd gEd iEd noEd
    have GI := ok_hinit IHo B FI gI bI FN gN bN FL gL bL FPl gPl bPl FR gR bR FC gC bC FD0 gD0 bD0 FWR gWR bWR FWD gWD bWD EP ER ED
    have GH := ok_house (P := PySem.Challenge.rw_lastbell_k01_whole_houses_made.prog) (w := w) (base := base) FH B FD gD bD FP gP bP FM gM bM FS gS bS
    have GE := ok_heq (P := PySem.Challenge.rw_lastbell_k01_whole_houses_made.prog) (w := w) (base := base) Me B gHo k0
    have GL := ok_lo2 (P := PySem.Challenge.rw_lastbell_k01_whole_houses_made.prog) (w := w) (base := base) FLo B FD gD bD gLo bLo
    have GMa := ok_made FMa mk hC GI gHo bHo FLo GL gLo bLo
    have GTe := ok_tells (P := PySem.Challenge.rw_lastbell_k01_whole_houses_made.prog) (w := w) (base := base) FTe B k0 tp tr td Mp Mr Md bp br bd FSm gSm bSm
    have GKe := ok_kept FKe B mk GI gHo bHo (kbn_house IHo) k0 S0 Me be tr td Mr Md br bd FTe gTe bTe GTe
    have GOt := ok_others (P := PySem.Challenge.rw_lastbell_k01_whole_houses_made.prog) (w := w) (base := base) FOt B FD gD bD FP gP bP
    exact ok_law FLw B k0 S0 GE be FSt gSt bSt FH gH bH GH FMa gMa bMa GMa FTe gTe bTe GTe FKe gKe bKe GKe FOt gOt bOt GOt
end
end K01
open PySem PySem.W PySem.Calls PyProof.Rows
theorem PySem.Challenge.cw_lastbell_k01_whole_houses_made_holds : PySem.Challenge.rw_lastbell_k01_whole_houses_made.Holds := by
  w_on; o_law
  refine HandSHeadRun.head_any (r := K01.R) (q := view K01.R.prog [30]) (H := K01.hk) (ob := K01.ob) (M := 9000) (loose := K01.looseN) (d := HandSHeadRun.topDef K01.R.prog 30) (kwd := []) K01.ob_eq
    (by kernel_rfl) (fun s => by kernel_rfl) K01.run (by kernel_rfl) (by kernel_rfl) (by kernel_rfl) (by rfl) (by first | assumption | decide +kernel) (by decide +kernel) ⟨rfl, rfl, rfl, rfl, rfl, by decide +kernel⟩ ?hw ?hc
  case hw => w_witness2
  case hc =>
    refine LamX.walk_ofTsE (l := PySem.Challenge.rw_lastbell_k01_whole_houses_made) (n := 63) (k := 9) (x := "_law_script") (CX := fun _ => L2.CX0) rfl (by decide) (by kernel_rfl) ⟨rfl, by decide, by decide⟩ ?F (fun _ _ _ _ _ z => z)
    intro w mg fa h Y G hmg0
    obtain ⟨K, KX, c⟩ := Y
    have hmg : mg ("law" : PySem.Str) = some (.ref fa) := by
      have e : (HandSHeadRun.topDef K01.R.prog 30).name = ("law" : PySem.Str) := by kernel_rfl
      rw [← e]
      exact hmg0
    exact ⟨K, KX, K01.facts KX G hmg c⟩

